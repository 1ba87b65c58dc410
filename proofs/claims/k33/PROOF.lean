import PyProof.Rows.All
import Wide.All
import OpenK.AllK
import Wide.FinOn
import KE.KStateDown
import HandS.ForMost
import HandS.More
import HandS.WordsExc
import HandS.Defaults
import HandS.Deep
import HandS.IsInst
import HandS.Evl
import HandS.Walk
import HandS.TupSets
import HandS.TupAny
import HandS.Conv
import PyProof.P3In
import HandS.SetFor
import HandS.Strs
import KE.GoesMore
import KE.GoesEnum
import HandS.ExcInit
import HandS.ExcField
import HandS.ExcOwn
import PyProof.NeKinds
import PyProof.EqKinds
import PyProof.FactsAll.subtypes_4
import PyProof.FactsAll.dict_1
import HandS.Head0
import HandS.Head1
import HandS.Head2
import HandS.HeadEnd
import HandS.HeadHook1
import HandS.HeadHook2
import HandS.HeadHook3
import HandS.HeadHook4
import HandS.HeadWalk
import HandS.Nested
import KE.SortKeyHeap
import KE.LtData
import HandS.SortKw
import KE.DataMinMax
import HandS.DictComp
import HandS.Comp
import HandS.Style
import PyProof.SeqIndex
import KE.SortData
import HandS.TupLen
import HandS.Iter
import KE.KDictWalk
import HandS.OwnEq
import HandS.Finally
import KE.KDictCopyH
import PySem.Challenge.RW_wishreels_k33_ladders_made
set_option Elab.async false
set_option linter.all false
set_option maxRecDepth 100000
set_option maxHeartbeats 2000000
namespace Wk
open PySem PySem.Spec PyProof.Rows L2 Evl
/-! data that stand in a heap -/
mutual
inductive Dq (G : Hp) : V → PyData → Prop
  | non : Dq G .non .none
  | bl (b : Bool) : Dq G (.bl b) (.bool b)
  | int (i : Int) : Dq G (.int i) (.int i)
  | str (x : Str) : Dq G (.str x) (.str x)
  | lst {a : Addr} {xs : List V} {ds : List PyData} : G a = some (.lst xs) → DqA G xs ds → Dq G (.ref a) (.list ds)
  | tup {a : Addr} {xs : List V} {ds : List PyData} : G a = some (.tup xs) → (∀ d ∈ ds, ∀ es, d ≠ .tuple es) → DqA G xs ds → Dq G (.ref a) (.tuple ds)
  | dic {a : Addr} : G a = some (.dK []) → Dq G (.ref a) (.dict [])
  | tupf {a : Addr} {o : Obj} {xs : List V} {ds : List PyData} : G a = some (.frz o (.tup xs)) → o.cls = .type "tuple" → o.dict = none → ds ≠ [] → (∀ d ∈ ds, ∃ es, d = .tuple es) → DqA G xs ds → Dq G (.ref a) (.tuple ds)
inductive DqA (G : Hp) : List V → List PyData → Prop
  | nil : DqA G [] []
  | cons {v : V} {vs : List V} {d : PyData} {ds : List PyData} : Dq G v d → DqA G vs ds → DqA G (v :: vs) (d :: ds)
end

mutual
theorem Dq.mono {G H : Hp} (e : Ex G H) : ∀ {d : PyData} {v : V}, Dq G v d → Dq H v d
  | .none, _, .non => .non
  | .bool _, _, .bl b => .bl b
  | .int _, _, .int i => .int i
  | .str _, _, .str x => .str x
  | .list _, _, .lst h a => .lst (e _ _ h) (DqA.mono e a)
  | .tuple _, _, .tup h n a => .tup (e _ _ h) n (DqA.mono e a)
  | .tuple _, _, .tupf h h1 h2 h3 h4 a => .tupf (e _ _ h) h1 h2 h3 h4 (DqA.mono e a)
  | .dict _, _, .dic h => .dic (e _ _ h)
theorem DqA.mono {G H : Hp} (e : Ex G H) : ∀ {ds : List PyData} {vs : List V}, DqA G vs ds → DqA H vs ds
  | [], _, .nil => .nil
  | _ :: _, _, .cons h t => .cons (Dq.mono e h) (DqA.mono e t)
end

mutual
theorem Dq.dp {K : PySem.W.Frag} {G : Hp} : ∀ {d : PyData} {v : V}, d.canLay0 = true → Dq G v d → Dp K G v d
  | .none, _, _, .non => .non
  | .bool _, _, _, .bl b => .bl b
  | .int _, _, _, .int i => .int i
  | .str _, _, _, .str x => .str x
  | .list ds, _, c, .lst h a => .lst (sq_of h) (DqA.dp (by simpa [PyData.canLay0] using c) a)
  | .tuple ds, _, c, .tup h _ a => .tup (st_of h) (DqA.dp (by simpa [PyData.canLay0] using c) a)
  | .tuple ds, _, c, .tupf h _ _ _ _ a => .tup (.inl (.inr ⟨_, h⟩)) (DqA.dp (by simpa [PyData.canLay0] using c) a)
  | .dict _, _, c, .dic h => by simp [PyData.canLay0] at c
theorem DqA.dp {K : PySem.W.Frag} {G : Hp} : ∀ {ds : List PyData} {vs : List V}, PyData.canLayAll0 ds = true → DqA G vs ds → DpAll K G vs ds
  | [], _, _, .nil => .nil
  | d :: ds, _, c, .cons h t => by
    have c' : d.canLay0 = true ∧ PyData.canLayAll0 ds = true := by simpa [PyData.canLayAll0] using c
    exact .cons (Dq.dp c'.1 h) (DqA.dp c'.2 t)
end
theorem DqA.length {G : Hp} : ∀ {ds : List PyData} {vs : List V}, DqA G vs ds → vs.length = ds.length
  | [], _, .nil => rfl
  | _ :: _, _, .cons _ t => congrArg Nat.succ t.length
theorem DqA.get {G : Hp} : ∀ {ds : List PyData} {vs : List V} {i : Nat} {v : V}, DqA G vs ds → vs[i]? = some v → ∃ d, ds[i]? = some d ∧ Dq G v d
  | [], _, i, v, .nil, e => by simp at e
  | d :: _, _, 0, v, .cons h t, e => ⟨d, rfl, by simp at e; subst e; exact h⟩
  | _ :: _, _, i + 1, v, .cons h t, e => by
    obtain ⟨d, e1, e2⟩ := t.get (i := i) (by simpa using e)
    exact ⟨d, by simpa using e1, e2⟩
theorem DqA.at {G : Hp} {ds : List PyData} {vs : List V} {i : Nat} {d : PyData} (h : DqA G vs ds) (e : ds[i]? = some d) : ∃ v, vs[i]? = some v ∧ Dq G v d := by
  have hl := h.length
  obtain ⟨hi, _⟩ := List.getElem?_eq_some_iff.mp e
  have hv : vs[i]? = some (vs[i]'(by omega)) := List.getElem?_eq_getElem (by omega)
  obtain ⟨d', e1, e2⟩ := h.get hv
  rw [e] at e1
  cases e1
  exact ⟨_, hv, e2⟩
theorem DqA.append {G : Hp} : ∀ {ds es : List PyData} {vs us : List V}, DqA G vs ds → DqA G us es → DqA G (vs ++ us) (ds ++ es)
  | [], _, _, _, .nil, h => h
  | _ :: _, _, _, _, .cons h t, u => .cons h (t.append u)
theorem DqA.take {G : Hp} : ∀ {ds : List PyData} {vs : List V} (n : Nat), DqA G vs ds → DqA G (vs.take n) (ds.take n)
  | [], _, n, .nil => by simp; exact .nil
  | _ :: _, _, 0, .cons h t => .nil
  | _ :: _, _, n + 1, .cons h t => .cons h (t.take n)
theorem DqA.drop {G : Hp} : ∀ {ds : List PyData} {vs : List V} (n : Nat), DqA G vs ds → DqA G (vs.drop n) (ds.drop n)
  | [], _, n, .nil => by simp; exact .nil
  | _ :: _, _, 0, .cons h t => .cons h t
  | _ :: _, _, n + 1, .cons h t => t.drop n
theorem DqA.ints {G : Hp} : ∀ (ns : List Int), DqA G (ns.map V.int) (ns.map PyData.int)
  | [] => .nil
  | n :: ns => .cons (.int n) (DqA.ints ns)
theorem DqA.int_inv {G : Hp} : ∀ {ns : List Int} {vs : List V}, DqA G vs (ns.map PyData.int) → vs = ns.map V.int
  | [], _, .nil => rfl
  | _ :: _, _, .cons (.int n) t => by
    have := DqA.int_inv t
    subst this
    rfl
/-- the name of a datum's type -/
def tyN : PyData → String
  | .none => "NoneType"
  | .bool _ => "bool"
  | .int _ => "int"
  | .str _ => "str"
  | .list _ => "list"
  | .tuple _ => "tuple"
  | .dict _ => "dict"
theorem Dq.ty {K : PySem.W.Frag} {G : Hp} {d : PyData} {v : V} (h : Dq G v d) : TyX K G v (.type (tyN d)) := by
  cases h with
  | non => exact .base .non
  | bl b => exact .base (.bl b)
  | int i => exact .base (.int i)
  | str x => exact .base (.str x)
  | lst h _ => exact .base (.lst h)
  | tup h _ _ => exact .base (.tup h)
  | tupf h _ _ _ _ _ => exact .fTuple h
  | dic h => exact .base (.dK h)
/-- a tuple's items -/
theorem Dq.seqT {K : PySem.W.Frag} {G : Hp} {v : V} {ds : List PyData} (h : Dq G v (.tuple ds)) : ∃ a xs, v = .ref a ∧ (∀ H, Ex G H → SqT K H a xs) ∧ DqA G xs ds := by
  cases h with
  | tup h1 _ h2 => exact ⟨_, _, rfl, fun H e => st_of (e _ _ h1), h2⟩
  | tupf h1 _ _ _ _ h2 => exact ⟨_, _, rfl, fun H e => .inl (.inr ⟨_, e _ _ h1⟩), h2⟩
theorem Dq.seqU {G : Hp} {v : V} {ds : List PyData} (h : Dq G v (.tuple ds)) : ∃ a xs u, v = .ref a ∧ G a = some u ∧ (∀ (K : PySem.W.Frag) (H : Hp), H a = some u → SqT K H a xs) ∧ (u = .tup xs ∨ ∃ o, u = .frz o (.tup xs)) ∧ DqA G xs ds := by
  cases h with
  | tup h1 _ h2 => exact ⟨_, _, _, rfl, h1, fun K H e => st_of e, .inl rfl, h2⟩
  | tupf h1 _ _ _ _ h2 => exact ⟨_, _, _, rfl, h1, fun K H e => .inl (.inr ⟨_, e⟩), .inr ⟨_, rfl⟩, h2⟩
theorem nt_ints (w : List Int) : ∀ d ∈ w.map PyData.int, ∀ es, d ≠ .tuple es := fun d hd es z => by
  obtain ⟨i, _, e⟩ := List.mem_map.mp hd
  rw [← e] at z
  cases z
theorem Dq.tint {G : Hp} {a : Addr} {w : List Int} (h : G a = some (.tup (w.map V.int))) : Dq G (.ref a) (.tuple (w.map PyData.int)) := .tup h (nt_ints w) (DqA.ints w)
/-- a tuple of tuples is known to have no dict -/
theorem Dq.tupK {G : Hp} {v : V} {ds : List PyData} (h : Dq G v (.tuple ds)) (hne : ds ≠ []) (ht : ∀ d ∈ ds, ∃ es, d = .tuple es) : ∃ (a : Addr) (o : Obj) (xs : List V), v = .ref a ∧ G a = some (.frz o (.tup xs)) ∧ o.cls = .type "tuple" ∧ o.dict = none ∧ DqA G xs ds := by
  cases h with
  | tup _ h3 _ =>
    obtain ⟨d, hm⟩ := List.exists_mem_of_ne_nil _ hne
    obtain ⟨es, e⟩ := ht d hm
    exact absurd e (h3 d hm es)
  | tupf h1 h2 h3 _ _ h4 => exact ⟨_, _, _, rfl, h1, h2, h3, h4⟩
/-- a tuple of plain things stands as it is -/
theorem Dq.tupI {G : Hp} {v : V} {ds : List PyData} (h : Dq G v (.tuple ds)) (hd : ∀ d ∈ ds, ∀ es, d ≠ .tuple es) : ∃ a xs, v = .ref a ∧ G a = some (.tup xs) ∧ DqA G xs ds := by
  cases h with
  | tup h1 _ h2 => exact ⟨_, _, rfl, h1, h2⟩
  | tupf _ _ _ h3 h4 _ =>
    obtain ⟨d, hm⟩ := List.exists_mem_of_ne_nil _ h3
    obtain ⟨es, e⟩ := h4 d hm
    exact absurd e (hd d hm es)
/-- a call's callee: the def that a global name holds -/
structure Cal (P : Program) (w : World) (K : PySem.W.Frag) (mg : Str → Option Value) (base : Heap) (x : Str) (ps : List Str) (k : Nat) (sp : Sp) : Prop where
  ex : ∃ (f : Addr) (fd : FuncData), FnOk P w K mg base CX0 k f fd ps sp ∧ mg x = some (.ref f) ∧ PySem.W.keepIn K (.ref f) = true ∧ Binds K fd ps []
section
variable {X : Cx}
theorem pe_cal {x : Str} {p pos : Pos} {e : Expr} {es : List Expr} {ps : List Str} {k j : Nat} {sp : Sp} {t : TA} (C : Cal X.prog X.w X.K X.mg X.base x ps k sp) (hr : Room j X.A) (hg : Gl X x) (ha : PA X (e :: es) t) (hk : k ≤ j := by decide)
    (hdb : (x == ("__debug__" : Str)) = false := by decide) (he : starEach (e :: es) X.env = (false, eval e X.env) :: starEach es X.env := by rfl) (hpl : (backTo pos (starEach es X.env)).any (·.1) = false := by rfl) :
    PE X (.Call (.Name x p) (e :: es) [] pos) (tCall sp [] E0 t) := by
  obtain ⟨f, fd, F, g, kp, b⟩ := C.ex
  exact pe_call F (hr.mono hk) hg g kp b .nil pass0 ha hdb he hpl
end
section
variable {K : PySem.W.Frag} {σ : L2.St} {H : Hp} {ta tb tc te : TE}
/-- isinstance(x, T), T a built-in type -/
theorem ev_isi {v : V} {d : PyData} {n : String} {b : Bool} (h : Ev ta σ H v) (hd : Dq H v d) (hk : kitB (tyN d) n = some b) : Ev (tCB (rIsi K) (tCons ta (tCons (tC (.ty n)) tNil))) σ H (.bl b) := fun H1 e Q q =>
  h H1 e _ fun H2 e2 => ⟨v, .ty n, .type (tyN d), .type n, b, rfl, .ty n, (hd.mono (e.trans e2)).ty, kit_ty hk, q H2 e2⟩
/-- a <= b <= c of ints -/
theorem ev_chain {i j k : Int} {r r' : R2} {b1 b2 : Bool} (ha : Ev ta σ H (.int i)) (hb : Ev tb σ H (.int j)) (hc : Ev tc σ H (.int k)) (h1 : RV r (.int i) (.int j) H (.bl b1)) (h2 : RV r' (.int j) (.int k) H (.bl b2)) :
    Ev (tChain r r' ta tb tc) σ H (.bl (b1 && b2)) := fun H1 e Q q =>
  ha H1 e _ fun H2 e2 => hb H2 (e.trans e2) _ fun H3 e3 => h1 H3 ((e.trans e2).trans e3) _ fun H4 e4 => ⟨b1, rfl, by
    cases b1 with
    | false => exact q H4 ((e2.trans e3).trans e4)
    | true => exact hc H4 (((e.trans e2).trans e3).trans e4) _ fun H5 e5 => h2 H5 ((((e.trans e2).trans e3).trans e4).trans e5) _ fun H6 e6 => q H6 ((((e2.trans e3).trans e4).trans e5).trans e6)⟩
end
end Wk

set_option Elab.async false
set_option linter.all false
set_option maxRecDepth 100000
set_option maxHeartbeats 4000000
namespace Wk
open PySem PySem.Spec PyProof.Rows L2 Evl
/-! how many are unlike -/
theorem nd_le {α : Type} [DecidableEq α] : ∀ (l D : List α), l.Nodup → (∀ x ∈ l, x ∈ D) → l.length ≤ D.length
  | [], _, _, _ => Nat.zero_le _
  | x :: l, D, hn, hs => by
    have hn' := List.nodup_cons.mp hn
    have hx : x ∈ D := hs x List.mem_cons_self
    have ih := nd_le l (D.erase x) hn'.2 fun y hy => (List.mem_erase_of_ne (fun (e : y = x) => hn'.1 (by rw [← e]; exact hy))).2 (hs y (List.mem_cons_of_mem _ hy))
    have e := List.length_erase_of_mem hx
    have hp : 0 < D.length := List.length_pos_of_mem hx
    simp only [List.length_cons]
    omega
theorem dup_less {α : Type} [DecidableEq α] : ∀ (D : List α), ¬ D.Nodup → ∃ D' : List α, (∀ x ∈ D, x ∈ D') ∧ D'.length < D.length
  | [], h => absurd List.nodup_nil h
  | x :: D, h => by
    by_cases hx : x ∈ D
    · exact ⟨D, fun y hy => (List.mem_cons.mp hy).elim (fun e => by rw [e]; exact hx) id, Nat.lt_succ_self _⟩
    · have hD : ¬ D.Nodup := fun z => h (List.nodup_cons.mpr ⟨hx, z⟩)
      obtain ⟨D', h1, h2⟩ := dup_less D hD
      exact ⟨x :: D', fun y hy => (List.mem_cons.mp hy).elim (fun e => by rw [e]; exact List.mem_cons_self) (fun e => List.mem_cons_of_mem _ (h1 y e)), Nat.succ_lt_succ h2⟩
theorem nd_iff {α : Type} [DecidableEq α] {l D : List α} (hn : l.Nodup) (h : ∀ x, x ∈ l ↔ x ∈ D) : l.length = D.length ↔ D.Nodup := by
  constructor
  · intro e
    apply Classical.byContradiction
    intro hD
    obtain ⟨D', h1, h2⟩ := dup_less D hD
    have := nd_le l D' hn fun x hx => h1 x ((h x).mp hx)
    omega
  · intro hD
    have h1 := nd_le l D hn fun x hx => (h x).mp hx
    have h2 := nd_le D l hD fun x hx => (h x).mpr hx
    omega
section
variable {X : Cx}
/-- len(set(t)), t a tuple of ints -/
def tLenSU (K : PySem.W.Frag) (ta : TE) : TE := fun σ H Q => ta σ H fun x H1 => ∃ (l : Addr) (ns : List Int), x = V.ref l ∧ SqT K H1 l (ns.map V.int) ∧ ns.length < 64 ∧ ∀ n : Nat, (n = ns.length ↔ ns.Nodup) → Q (.int n) H1
theorem pe_lenSU {a : Expr} {ta : TE} {p p2 q pos : Pos} (hc : X.calm = true) (hg : Gl X "len") (hm : X.mg "len" = none) (hg2 : Gl X "set") (hm2 : X.mg "set" = none) (ha : PE X a ta)
    (na : starEach [a] X.env = (false, eval a X.env) :: starEach [] X.env := by rfl) : PE X (.Call (.Name "len" p) [.Call (.Name "set" p2) [a] [] q] [] pos) (tLenSU X.K ta) := by
  refine ⟨fun pins s σ H Q I h => ?_⟩
  refine Call_ (ld_blt I hg hm PySem.boot_len ?_)
  refine PyProof.Rows.callWith_builtin1 (PyProof.Rows.args_cons ?_ rfl) rfl rfl
  refine Call_ (ld_blt I hg2 hm2 PyProof.Rows.boot_set ?_)
  refine PyProof.Rows.callWith_type1 (PyProof.Rows.args_cons (thn (ha.run pins s σ H _ I h) fun v s1 hh => PyProof.Rows.args_nil ?_) na) na rfl
  obtain ⟨x, H1, I1, r1, l, ns, rfl, hq, hlt, q1⟩ := hh
  cases r1
  obtain ⟨its, r, pl, hz⟩ := I1.tuple hq
  refine call_set_tupI (w := X.w) ns (I1.ok.hd hc) pl (by simpa using r.ints) (by unfold scanBound; omega) fun h' tk c hS hc2 hk => ?_
  refine PyProof.Rows.args_nil ?_
  obtain ⟨o, es, ep, t, ho, hex, hd, _, hnd, hiff, _, hf, hn, _⟩ := hS
  have I2 : Inv X pins σ H1 { s1 with heap := h', toks := tk } := I1.kept fun b o e => hk b o e
  refine call_len_set ho hex hd hf (by rw [hn] <;> omega) ⟨.int es.size, H1, I2.tok _, ⟨_, rfl⟩, q1 es.size ?_⟩
  have hl : (es.toList.map keyOf).length = es.size := by simp
  rw [← hl]
  exact nd_iff hnd fun k => by
    have := hiff k
    simp only [decide_eq_true_eq] at this
    exact this.symm
end
/-- the set that set() lays -/
abbrev sO (w : World) : Obj := { cls := .type "set", dict := none, data := .set #[] 0 (.fresh 0 0 (!w.params.followText "set-order")) }
section
variable {P : Program} {w : World} {A : Around} {E : Value → Shared → Prop} {s : Shared}
/-- set(t), t a tuple of tuples of ints -/
theorem set_of_tup2 {l : Addr} {its : Array Value} (ks : List (Addr × List Int)) {Q : Value → Shared → Prop} (nh : A.handled = none) (tl : s.heap.IsTuple l its) (eq : its.toList = ks.map fun p => Value.ref p.1)
    (ki : ∀ p ∈ ks, IsT P w s.heap p.2 p.1) (few : ks.length < 64) (un : A.units + 3 < cLine)
    (fin : ∀ (h' : Heap) (tk : Nat) L es ep t, SetTR P w h' s.heap.objs.size L es ep t → Got ks ks.length L → (∀ b o, s.heap.get? b = some o → h'.get? b = some o) → Q (.ref s.heap.objs.size) { s with heap := h', toks := tk }) :
    wpAny (model P w) A (call (.type "set") [.ref l]) Q E s := by
  have size : its.size = ks.length := by have q := congrArg List.length eq; simpa using q
  obtain ⟨c, rest, mro⟩ := F.called_set.mro
  have made := F.called_set.made; have sub := F.called_set.sub
  refine wpAny_call (codeAny_of_tree (show wpAny _ _ (callAny (.type "set") _) _ _ _ from ?_))
  refine wpAny_pure ⟨Code.quiet_builtin _ (by decide +kernel), codeAny_builtin F.entry_type_call (by
    rw [Around.under_plain (weight_type_call_type "set" [.ref l] []) rfl]
    have nt := F.called_set.notType; have cc := F.called_set.canCreate; have tc := F.typeCall_set_1 (.ref l)
    repeat (any_goals (first | assumption | wp_step))
    refine codeAny_mono (code_set_led1 (.ref l) (E := E) (Q₁ := fun ob s1 => ob = .ref s.heap.objs.size ∧ s1 = { s with heap := s.heap.push (sO w) }) ⟨rfl, rfl⟩) fun r s1 hr => ?_
    cases r with
    | error e => exact hr
    | ok fl =>
      cases fl with
      | ret ob =>
        obtain ⟨rfl, rfl⟩ := hr
        have hS : (s.heap.push (sO w)).get? s.heap.objs.size = some (sO w) := Heap.get?_push_size _ rfl
        have hT : Shared.TypeIs { s with heap := s.heap.push (sO w) } (.ref s.heap.objs.size) "set" := ⟨_, hS, rfl⟩
        have li := F.called_set.init.lookup; have bi := F.called_set.init.bind (.ref s.heap.objs.size)
        repeat (any_goals (first | assumption | wp_step))
        refine codeAny_mono (codeAny_call_builtin (R := wants (fun r s2 => r = .none ∧ ∃ h' tk L es ep t, s2 = { s with heap := h', toks := tk } ∧ SetTR P w h' s.heap.objs.size L es ep t ∧ Got ks ks.length L ∧ (∀ b o, s.heap.get? b = some o → h'.get? b = some o)) E)
          F.called_set.init.plain F.entry_set_init (check_set_init_1 hT ?_)) fun r2 s2 hr2 => ?_
        · obtain ⟨⟨oc, od, dt, sl⟩, ol, cl, n, dl⟩ := tl
          simp only at cl dl; subst cl; subst dl
          have ol1 : (s.heap.push (sO w)).get? l = some { cls := .type "tuple", dict := od, data := .seq its n, slots := sl } := Heap.get?_push_of_some _ ol
          have b1 := F.sub_tuple_set; have b2 := F.sub_tuple_frozenset
          have b3 : (Value.type "tuple" == Value.type "dict") = false := by decide
          have tl1 : (s.heap.push (sO w)).IsTuple l its := ⟨_, ol1, rfl, n, rfl⟩
          unfold Builtin.«set.__init__» noKeywords Builtin.Frozenset.updateFrom
          generalize hPI : pyIter = PI
          wp_walk
          subst hPI
          refine wpAny_pyIter_tuple tl1 (wpAny_bind (wpAny_runValue ?_))
          have lt : l < s.heap.objs.size := Heap.lt_size ol
          have nh3 : A.in1.in1.in1.handled = none := by simp [nh]
          have ne1 : l ≠ (s.heap.push (sO w)).objs.size := by rw [Heap.size_push]; exact Nat.ne_of_lt (Nat.lt_succ_of_lt lt)
          have nin : s.heap.objs.size ∉ [(s.heap.push (sO w)).objs.size, l] := by
            rw [Heap.size_push]
            intro z
            rcases List.mem_cons.mp z with z | z
            · exact absurd z (Nat.ne_of_lt (Nat.lt_succ_self _))
            · exact absurd (List.mem_singleton.mp z) (Nat.ne_of_gt lt)
          have val : ∀ (i : Nat) (v : Value), its[i]? = some v → ∃ p, ks[i]? = some p ∧ v = .ref p.1 := fun i v hv => by
            have q : its.toList[i]? = some v := (Array.getElem?_toList ..).trans hv
            rw [eq, List.getElem?_map] at q
            cases hq : ks[i]? with
            | none => rw [hq] at q; cases q
            | some p => rw [hq] at q; exact ⟨p, rfl, (Option.some.inj q).symm⟩
          have out : ∀ b, s.heap.objs.size ≤ b → s.heap.get? b = none := fun b hb => by
            cases q : s.heap.get? b with
            | none => rfl
            | some o => exact absurd (Nat.lt_of_lt_of_le (Heap.lt_size q) hb) (Nat.lt_irrefl _)
          refine set_update_tups ((Walks.tuple nh3 _ l ne1 its).toS) s.heap.objs.size nin ks size few val s.heap ki (out _ (Nat.le_refl _)) (fun b hb => out b (by rw [List.mem_singleton.mp hb, Heap.size_push]; exact Nat.le_succ _)) un (its.size - 0) 0 _ (by omega) (Nat.zero_le _)
            ⟨⟨_, Heap.get?_push_size _ rfl, rfl, rfl⟩, (tl1.push _)⟩ (fun b o e => Heap.get?_push_of_some _ (Heap.get?_push_of_some _ e)) ⟨[], #[], 0, _, setTR_fresh (Heap.get?_push_of_some _ hS), Got.zero ks⟩ ?_
          intro s' L es ep t hm hS' g' kp
          obtain ⟨h', g2, d', tk', os'⟩ := s'
          have eg : g2 = s.gens := hm.gens
          have ed : d' = s.drawn := hm.drawn
          have eo : os' = s.os := hm.os
          subst eg; subst ed; subst eo
          show wpAny _ _ _ _ _ _
          refine wpAny_pure (show wpAny _ _ (ret Value.none) _ _ _ from ?_)
          rw [size] at g'
          exact wpAny_pure ⟨rfl, h', tk', L, es, ep, t, rfl, hS', g', kp⟩
        · cases r2 with
          | error e => exact hr2
          | ok fl2 =>
            cases fl2 with
            | ret r =>
              obtain ⟨rfl, h', tk, L, es, ep, t, rfl, hS', g', k'⟩ := hr2
              repeat (any_goals (first | assumption | wp_step))
              exact fin _ _ _ _ _ _ hS' g' k'
            | _ => exact hr2.elim
      | _ => exact hr.elim)⟩
end
section
variable {X : Cx}
/-- len(set(t)), t a tuple of tuples of ints -/
def tLenSUU (K : PySem.W.Frag) (ta : TE) : TE := fun σ H Q => ta σ H fun x H1 => ∃ (l : Addr) (ks : List (Addr × List Int)), x = V.ref l ∧ SqT K H1 l (ks.map fun p => V.ref p.1) ∧ (∀ p ∈ ks, SqT K H1 p.1 (p.2.map V.int)) ∧ ks.length < 64 ∧
  ∀ n : Nat, (n = ks.length ↔ (ks.map (·.2)).Nodup) → Q (.int n) H1
theorem pe_lenSUU {a : Expr} {ta : TE} {p p2 q pos : Pos} (hc : X.calm = true) (hu : X.A.units + 64 < cLine) (hg : Gl X "len") (hm : X.mg "len" = none) (hg2 : Gl X "set") (hm2 : X.mg "set" = none) (ha : PE X a ta)
    (na : starEach [a] X.env = (false, eval a X.env) :: starEach [] X.env := by rfl) : PE X (.Call (.Name "len" p) [.Call (.Name "set" p2) [a] [] q] [] pos) (tLenSUU X.K ta) := by
  refine ⟨fun pins s σ H Q I h => Call_ (ld_blt I hg hm PySem.boot_len (PyProof.Rows.callWith_builtin1 (PyProof.Rows.args_cons (Call_ (ld_blt I hg2 hm2 PyProof.Rows.boot_set ?_)) rfl) rfl rfl))⟩
  refine PyProof.Rows.callWith_type1 (PyProof.Rows.args_cons (thn (ha.run pins s σ H _ I h) fun v s1 hh => PyProof.Rows.args_nil ?_) na) na rfl
  obtain ⟨x, H1, I1, r1, l, ks, rfl, hq, hk, few, q1⟩ := hh
  cases r1
  obtain ⟨its, r, pl, hz⟩ := I1.tuple hq
  refine set_of_tup2 (P := X.prog) (w := X.w) ks (I1.ok.hd hc) pl (by simpa using refs_of_vals r) (fun p hp => I1.isT (hk p hp)) few (by omega) fun h' tk L es ep t R g k => PyProof.Rows.args_nil ?_
  have I2 : Inv X pins σ H1 { s1 with heap := h', toks := tk } := I1.kept fun b o e => k b o e
  have hes : es.size = L.length := R.size (s := { s1 with heap := h', toks := tk })
  have hf := R.fits (s := { s1 with heap := h', toks := tk })
  obtain ⟨o, ho, hex, hd⟩ := R.ob
  refine call_len_set (s := { s1 with heap := h', toks := tk }) ho hex hd hf (by have := R.few; omega) ⟨.int es.size, H1, I2.tok _, ⟨_, rfl⟩, q1 es.size ?_⟩
  have e1 : (L.map (·.2)).length = es.size := by simp [hes]
  have e2 : (ks.map (·.2)).length = ks.length := by simp
  rw [← e1, ← e2]
  refine nd_iff R.nd fun k => ⟨fun z => ?_, fun z => ?_⟩
  · obtain ⟨p, hp, rfl⟩ := List.mem_map.mp z
    exact List.mem_map.mpr ⟨p, List.mem_of_mem_take (g.sub p hp), rfl⟩
  · obtain ⟨p, hp, rfl⟩ := List.mem_map.mp z
    exact g.all p (by rw [List.take_length]; exact hp)
end
end Wk

set_option Elab.async false
set_option linter.all false
set_option maxRecDepth 100000
set_option maxHeartbeats 4000000
namespace Wk
open PySem PySem.Spec PyProof.Rows L2 Evl
/-- the walk of a tuple's iterator under an enumerate -/
abbrev itO (l : Addr) : Obj := { cls := .type "tuple_iterator", data := .fields #[.ref l, .int 0 0] }
abbrev enO (it : Addr) : Obj := { cls := .type "enumerate", data := .fields #[.none, .bool false, .ref it, rawInt 0, .none, .none] }
theorem enumNewT (l : Addr) (its : Array Value) (n : Nat) (od : Option Addr) (sl : Array (Option Value)) :
    Meets (Builtin.«enumerate.__new__» ⟨[.type "enumerate", .ref l], []⟩) (fun _ R s => s.heap.get? l = some { cls := .type "tuple", dict := od, data := .seq its n, slots := sl } ∧
      R (.ok (.ret (.ref (s.heap.push (itO l)).objs.size))) { s with heap := (s.heap.push (itO l)).push (enO s.heap.objs.size) }) :=
  .of_wp fun prog w A R s h => by
    obtain ⟨hp, g, d, tk, os⟩ := s; obtain ⟨hl, h⟩ := h
    have su := sub_enumerate
    have tl : Heap.IsTuple (Shared.heap ⟨hp, g, d, tk, os⟩) l its := ⟨_, hl, rfl, n, rfl⟩
    wp_walk using wpAny_loadPart' hl
    refine wpAny_stack_any fun st => wpAny_pure ?_
    split
    · rename_i c _ _ _ _ _
      cases (c == Value.type "enumerate") <;> (wp_walk using wpAny_loadPart' hl, wpAny_pyIter_tuple tl; exact ⟨_, rfl, h⟩)
    · wp_walk using wpAny_loadPart' hl, wpAny_pyIter_tuple tl
      exact ⟨_, rfl, h⟩
section
variable {prog : Program} {w : World} {A : Around} {E : Value → Shared → Prop} {s : Shared}
theorem enumT_call {l : Addr} {its : Array Value} {Q : Value → Shared → Prop} (tl : s.heap.IsTuple l its)
    (h : ∀ h', IsEnum h' (s.heap.objs.size + 1) s.heap.objs.size 0 .none → h'.IsTupleIter s.heap.objs.size l 0 → h'.objs.size = s.heap.objs.size + 2 → (∀ b o, s.heap.get? b = some o → h'.get? b = some o) → Q (.ref (s.heap.objs.size + 1)) { s with heap := h' }) :
    wpAny (model prog w) A (call (.type "enumerate") [.ref l]) Q E s := by
  obtain ⟨⟨c, od, dt, sl⟩, hl, hc, n, hd⟩ := tl
  replace hc : c = .type "tuple" := hc
  replace hd : dt = .seq its n := hd
  subst hc hd
  refine callType_new F.called_enumerate (by decide) (F.typeCall_enumerate_1 _) (F.newCall_enumerate_1 _) (fun ob => F.args_object_init_2 ob _) F.entry_enumerate_new (enumNewT l its n od sl) ⟨hl, ?_⟩
  have hz : (s.heap.push (itO l)).objs.size = s.heap.objs.size + 1 := Heap.size_push ..
  show _ ∧ _
  rw [hz]
  have he : IsEnum ((s.heap.push (itO l)).push (enO s.heap.objs.size)) (s.heap.objs.size + 1) s.heap.objs.size 0 .none := by
    have q := Heap.get?_push_size (s.heap.push (itO l)) (o := enO s.heap.objs.size) rfl
    rw [hz] at q; exact q
  exact ⟨⟨_, he, rfl⟩, h _ he ⟨_, Heap.get?_push_of_some _ (Heap.get?_push_size _ rfl), rfl, rfl⟩ (by rw [Heap.size_push, hz]) fun b o x => Heap.get?_push_of_some _ (Heap.get?_push_of_some _ x)⟩
end
/-- the tuple at a, each item in a new pair with its place -/
def IteT (K : PySem.W.Frag) (a : Addr) : It :=
  ⟨fun i H => ∃ (xs : List V) (x : V), SqT K H a xs ∧ xs[i]? = some x, fun i H v H' => ∃ T x, v = .ref T ∧ H T = none ∧ H' = upd H T (.tup [.int (i : Nat), x]) ∧ ∀ xs, SqT K H a xs → xs[i]? = some x, fun i H => ∃ xs : List V, SqT K H a xs ∧ xs.length = i⟩
theorem turn_enumT {P : Program} {w : World} {K : PySem.W.Frag} {elts : List Expr} {kk : Nat} {tpos : Pos} (a e it : Addr) :
    Turn P w K (.Tuple elts kk tpos) (IteT K a) [e, it] e (fun i h => (∃ old, IsEnum h e it ((i : Nat) : Int) old) ∧ h.IsTupleIter it a i ∧ e ≠ it) where
  mem := List.mem_cons_self
  obj := fun i h st b hb => by
    obtain ⟨⟨old, he⟩, ⟨o, ho, hc, hd⟩, _⟩ := st
    rcases List.mem_cons.mp hb with z | z
    · rw [z]; exact ⟨_, he, fun v q => nomatch q⟩
    · rw [List.mem_singleton.mp z]; exact ⟨o, ho, fun v q => by rw [hd] at q; cases q⟩
  keep := fun i h h' st k => by
    obtain ⟨⟨old, he⟩, ⟨o, ho, r⟩, hne⟩ := st
    exact ⟨⟨old, k e (by simp) _ he⟩, ⟨o, k it (by simp) o ho, r⟩, hne⟩
  item := by
    intro X hP hw hK hc i pins s σ H E I hf st hg
    subst hP hw hK
    obtain ⟨⟨old, he⟩, hit, hne⟩ := st
    obtain ⟨xs, x, hq, hx⟩ := hg
    obtain ⟨its, rv, p, hz⟩ := I.tuple hq
    obtain ⟨u, hu, ru⟩ := rv.get hx
    have el : e < s.heap.objs.size := Heap.lt_size he
    have il : it < s.heap.objs.size := by obtain ⟨_, q, _⟩ := hit; exact Heap.lt_size q
    have nai : a ≠ it := fun z => by
      obtain ⟨o, ho, oc, _⟩ := p
      obtain ⟨o2, ho2, oc2, _⟩ := hit
      rw [z, ho2] at ho
      cases ho
      rw [oc2] at oc
      injection oc with q
      exact absurd q (by decide)
    have nae : e ≠ a := fun z => by
      obtain ⟨o, ho, oc, _⟩ := p
      have he2 := he
      unfold IsEnum at he2
      rw [z, ho] at he2
      cases he2
      injection oc with q
      exact absurd q (by decide)
    have hi : i < its.toArray.size := by
      have q := (List.getElem?_eq_some_iff.mp hu).1
      simpa using q
    refine wpAny_pyNext_enum_itemD (Draws.tuple (by simpa using I.ok.hd hc) it a nai its.toArray) he ⟨hit, p⟩ hi hne (by simp [hne, nae]) fun y h' tk hy ho hst hT hsz hk => ?_
    have ey : y = u := by
      have q : its.toArray[i]? = some y := hy
      rw [List.getElem?_toArray, hu] at q
      exact (Option.some.inj q).symm
    subst ey
    refine ⟨_, rfl, wpAny_letOwnedTupleGo_enum (s := { s with heap := h', toks := tk + 1 }) ho fun h2 he' sb => ?_⟩
    have hT2 : h2.get? s.heap.objs.size = some { cls := .type "tuple", data := .seq #[.int i tk, y] } := (sb.2 _ (Nat.ne_of_gt el)).trans hT
    have nw : ObjOk X.prog X.w (upd H s.heap.objs.size (.tup [.int (i : Nat), x])) h2 s.heap.objs.size (.tup [.int (i : Nat), x]) := ⟨by show 2 ≤ sizeLine; decide, [.int i tk, y], .cons ⟨_, rfl⟩ (.cons ru .nil), ⟨_, hT2, rfl, _, rfl⟩⟩
    have I1 : Inv X pins σ (upd H s.heap.objs.size (.tup [.int (i : Nat), x])) { s with heap := h2, toks := tk + 1 } := I.turnedNew (ch := [e, it]) (fun b ob hb q => by
        have b1 : b ≠ e := fun z => hb (by simp [z])
        have b2 : b ≠ it := fun z => hb (by simp [z])
        exact (sb.2 b b1).trans (hk b ob b1 b2 q)) hf (Nat.le_refl _) nw
    refine ⟨.ref s.heap.objs.size, _, I1, rfl, ⟨_, x, rfl, I.hok.fresh (Nat.le_refl _), rfl, fun ys hy => by rw [I.tuple_inj hy hq]; exact hx⟩, ⟨⟨y, ?_⟩, ?_, hne⟩, fun b hb => ?_⟩
    · rw [show ((i + 1 : Nat) : Int) = (i : Int) + 1 by omega]; exact he'
    · obtain ⟨o, ho2, r2⟩ := hst.1
      exact ⟨o, (sb.2 it (Ne.symm hne)).trans ho2, r2⟩
    · have hb2 : b < s.heap.objs.size := by
        rcases List.mem_cons.mp hb with z | z
        · rw [z]; exact el
        · rw [List.mem_singleton.mp z]; exact il
      rw [upd_ne (Nat.ne_of_lt hb2)]
      exact (hf b hb).1
  done := by
    intro X hP hw hK hc i pins s σ H E I hf st hg
    subst hP hw hK
    obtain ⟨⟨old, he⟩, hit, hne⟩ := st
    obtain ⟨xs, hq, hx⟩ := hg
    obtain ⟨its, rv, p, hz⟩ := I.tuple hq
    obtain ⟨f0, f1, f2, f3, f4, f5⟩ := hf it (by simp)
    have hl := rv.length
    have ei : i = its.toArray.size := by simp; omega
    have nai : a ≠ it := fun z => by
      obtain ⟨o, ho, oc, _⟩ := p
      obtain ⟨o2, ho2, oc2, _⟩ := hit
      rw [z, ho2] at ho
      cases ho
      rw [oc2] at oc
      injection oc with q
      exact absurd q (by decide)
    subst ei
    exact wpAny_pyNext_enum_endD (Draws.tuple (by simpa using I.ok.hd hc) it a nai its.toArray) he ⟨hit, p⟩ fun h' eb => ⟨rfl, I.turned (t' := s.toks) (fun b o hb q => eb b o hb q) f0 f1 f3 f4 f5⟩
  self := fun A i s Q E st h => let ⟨⟨_, he⟩, _⟩ := st; wpAny_pyIter_enum he h

def iEnumT (K : PySem.W.Frag) (ta : TA) : TI := fun σ H R => ta σ H fun vs H1 => ∃ a xs, vs = [.ref a] ∧ SqT K H1 a xs ∧ R (IteT K a) H1
/-- for i, x in enumerate(t), t a tuple -/
theorem pi_enumT {X : Cx} {e : Expr} {ta : TA} {p pos tpos : Pos} {elts : List Expr} {kk : Nat} (hg : Gl X "enumerate") (hm : X.mg "enumerate" = none) (ha : PA X [e] ta) (hs : starEach [e] X.env = [(false, eval e X.env)] := by rfl) :
    PI X (.Tuple elts kk tpos) (.Call (.Name "enumerate" p) [e] [] pos) (iEnumT X.K ta) := by
  refine ⟨fun pins s σ H R I h => Call_ (ld_blt I hg hm boot_enumerate (PyProof.Rows.callWith_type1 (thn (ha.run pos pins s σ H _ I h) fun us s1 hh => ?_) hs rfl))⟩
  obtain ⟨vs, H1, I1, r1, a, xs, rfl, hq, q⟩ := hh
  cases r1 with
  | cons r rr =>
    cases rr
    cases r
    obtain ⟨its, rv, pt, hz⟩ := I1.tuple hq
    refine enumT_call pt fun h' he hit hsz hk => wpAny_pyIter_enum he ?_
    refine ⟨s1.heap.objs.size + 1, [s1.heap.objs.size + 1, s1.heap.objs.size], _, _, H1, rfl, I1.kept (t' := s1.toks) hk, turn_enumT a (s1.heap.objs.size + 1) s1.heap.objs.size, ⟨⟨.none, he⟩, hit, Nat.succ_ne_self _⟩, fun b hb => ?_, q⟩
    have hle : s1.heap.objs.size ≤ b := by
      rcases List.mem_cons.mp hb with z | z
      · rw [z]; exact Nat.le_add_right _ _
      · rw [List.mem_singleton.mp z]; exact Nat.le_refl _
    exact I1.fpOk hle (I1.hok.fresh hle)
theorem walk_enumT {K : PySem.W.Frag} {a : Addr} {xs : List V} : Walk (IteT K a) xs.length (fun H => SqT K H a xs) (YPair (fun i => some (.int (i : Nat))) (fun i => xs[i]?)) := by
  refine ⟨fun i _ hi q => ⟨xs, xs[i], q, by simp [hi]⟩, fun _ q => ⟨xs, q, rfl⟩, fun i H v H' _ q y => ?_⟩
  obtain ⟨T, x, h1, h2, h3, h4⟩ := y
  exact ⟨T, .int (i : Nat), x, h1, h2, h3, rfl, h4 xs q⟩
section
variable {K : PySem.W.Frag} {σ : L2.St} {H : Hp} {t : TT} {te : TE}
/-- [e for x in t], t a tuple -/
theorem el_lcT {a : Addr} {xs : List V} {tl : TE} {j : Nat} {vs : List Nat} (f : Nat → Bool) (v : Nat → V) (h : Ev tl σ H (.ref a)) (hx : SqT K H a xs) (hz : xs.length ≤ 40000) (hw : ∀ x, wipe ((wipe σ vs).set j (some x)) vs = wipe σ vs)
    (ht : ∀ (i : Nat) (x : V) H1, Ex H H1 → xs[i]? = some x → EvT t ((wipe σ vs).set j (some x)) H1 (f i)) (he : ∀ (i : Nat) (x : V) H1, Ex H H1 → xs[i]? = some x → f i = true → Ev te ((wipe σ vs).set j (some x)) H1 (v i)) :
    EvL (tLc (iTup K tl) (gName j) t te vs) σ H (given xs.length f v) := fun H0 e Q q => h H0 e _ fun H1 e1 => ⟨a, rfl, ⟨xs, ex_t (e.trans e1) hx⟩, fun Dl hD =>
  lc_it (walk_tup (K := K) (a := a) (xs := xs)) (Cw H1 f v Dl) ⟨hD, Ex.new hD, upd_same⟩ (fun i H' _ p => ex_t ((e.trans e1).trans p.2.1) hx)
    (fun i x H' H2 hi p y => by
      obtain ⟨rfl, hxi⟩ := y
      exact ⟨hw x, cw_turn p (by omega) (ht i x H1 (e.trans e1) hxi) (fun hf => he i x H1 (e.trans e1) hxi hf)⟩)
    (fun H' p => q Dl H' (fresh_back e1 p.1) (e1.trans p.2.1) p.2.2)⟩
theorem given_all (n : Nat) (v : Nat → V) : given n (fun _ => true) v = (List.range n).map v := by
  unfold given
  rw [List.filter_eq_self.mpr (fun _ _ => rfl)]
theorem et_yes : EvT tYes σ H true := fun H1 _ _ q => q H1 (Ex.refl H1)
/-- all([..]) of flags -/
theorem ev_allL {bs : List Bool} {ta : TE} (h : EvL ta σ H (bs.map V.bl)) : Ev (tCB (rAll K) (tCons ta tNil)) σ H (.bl (bs.all id)) := fun H1 e Q q =>
  h H1 e _ fun p H2 _ e2 hp => ⟨p, bs, rfl, sq_of hp, q H2 e2⟩
/-- all([test(x) for x in t]) -/
theorem ev_allT {a : Addr} {xs : List V} {tl : TE} {j : Nat} {vs : List Nat} (g : Nat → Bool) (h : Ev tl σ H (.ref a)) (hx : SqT K H a xs) (hz : xs.length ≤ 40000) (hw : ∀ x, wipe ((wipe σ vs).set j (some x)) vs = wipe σ vs)
    (he : ∀ (i : Nat) (x : V) H1, Ex H H1 → xs[i]? = some x → Ev te ((wipe σ vs).set j (some x)) H1 (.bl (g i))) :
    Ev (tCB (rAll K) (tCons (tLc (iTup K tl) (gName j) tYes te vs) tNil)) σ H (.bl (((List.range xs.length).map g).all id)) :=
  ev_allL (by
    have q := el_lcT (K := K) (te := te) (fun _ => true) (fun i => .bl (g i)) h hx hz hw (fun _ _ _ _ _ => et_yes) fun i x H1 e hxi _ => he i x H1 e hxi
    rw [given_all] at q
    rw [List.map_map]
    exact q)
end
section
variable {K : PySem.W.Frag} {σ : L2.St} {H : Hp} {ta tb te : TE}
theorem ev_lenT {p : Addr} {xs : List V} (ha : Ev ta σ H (.ref p)) (h : SqT K H p xs) : Ev (tCB (rLenS K) (tCons ta tNil)) σ H (.int (xs.length : Int)) := fun H1 e Q q =>
  ha H1 e _ fun H2 e2 => ⟨p, xs, rfl, Or.inr (ex_t (e.trans e2) h), q H2 e2⟩
theorem all_get {α : Type} (ds : List α) (p : α → Bool) : ((List.range ds.length).map (fun i => ((ds[i]?).map p).getD false)).all id = ds.all p := by
  have e : (List.range ds.length).map (fun i => ((ds[i]?).map p).getD false) = ds.map p := by
    apply List.ext_getElem
    · simp
    · intro i h1 h2
      have hi : i < ds.length := by simpa using h1
      simp [hi]
  rw [e, List.all_map]
  rfl
end
section
variable {K : PySem.W.Frag} {σ : L2.St} {H : Hp} {g : TG} {tu tz : TS} {D : Ends}
/-- for i, x in enumerate(t) -/
theorem s_forEn {a : Addr} {xs : List V} {tl : TE} (h : Ev tl σ H (.ref a)) (hx : SqT K H a xs) (Pv : Nat → L2.St → Hp → Prop) (h0 : ∀ H1, Ex H H1 → Pv 0 σ H1) (hl : ∀ i σ' H', i ≤ xs.length → Pv i σ' H' → SqT K H' a xs)
    (hs : ∀ i y T σ' H', xs[i]? = some y → Pv i σ' H' → H' T = none → g (.ref T) σ' (upd H' T (.tup [.int (i : Nat), y])) fun σ2 H2 => tu { D with nx := Pv (i + 1), ct := Pv (i + 1), bk := D.nx } σ2 H2) (hd : ∀ σ' H', Pv xs.length σ' H' → D.nx σ' H') : tFor (iEnumT K (tCons tl tNil)) g tu D σ H :=
  h H (Ex.refl H) _ fun H1 e => ⟨a, xs, rfl, ex_t e hx, for_it (walk_enumT (K := K) (a := a) (xs := xs)) Pv (h0 H1 e) hl (fun i x σ' H2 H3 hi p y => by
    obtain ⟨T, u, y, rfl, hT, rfl, hu, hy⟩ := y
    cases hu
    exact hs i y T σ' H2 hy p hT) hd⟩
theorem q_forEn {a : Addr} {xs : List V} {tl : TE} (h : Ev tl σ H (.ref a)) (hx : SqT K H a xs) (Pv : Nat → L2.St → Hp → Prop) (h0 : ∀ H1, Ex H H1 → Pv 0 σ H1) (hl : ∀ i σ' H', i ≤ xs.length → Pv i σ' H' → SqT K H' a xs)
    (hs : ∀ i y T σ' H', xs[i]? = some y → Pv i σ' H' → H' T = none → g (.ref T) σ' (upd H' T (.tup [.int (i : Nat), y])) fun σ2 H2 => tu { D with nx := Pv (i + 1), ct := Pv (i + 1), bk := tz D } σ2 H2) (hd : ∀ σ' H', Pv xs.length σ' H' → tz D σ' H') : tSeq (tFor (iEnumT K (tCons tl tNil)) g tu) tz D σ H :=
  s_forEn (D := { D with nx := tz D }) h hx Pv h0 hl hs hd
end
end Wk

set_option Elab.async false
set_option linter.all false
set_option maxRecDepth 100000
set_option maxHeartbeats 2000000
namespace Wk
open PySem PySem.Spec PyProof.Rows L2 Evl
def top (i : Nat) : Stmt := PySem.Challenge.pw_wishreels_k33_ladders_made.main.body.getD i (.Pass ⟨0, 0, 0, 0⟩)
abbrev FnP (K : PySem.W.Frag) (x : Str) (st : Stmt) (f : Addr) (fd : FuncData) : Prop := FunD K x x (defArgs st) (defBody st) (defScope st) [] [] f fd
/-- names that are the built-in ones -/
structure Bl (mg : Str → Option Value) : Prop where
  isi : mg "isinstance" = none
  len : mg "len" = none
  tuple : mg "tuple" = none
  list : mg "list" = none
  int : mg "int" = none
  bool : mg "bool" = none
  str : mg "str" = none
  all : mg "all" = none
  set : mg "set" = none
  enum : mg "enumerate" = none
  range : mg "range" = none
  abs : mg "abs" = none
  min : mg "min" = none
  repr : mg "repr" = none
/-- a pure promise: a plain value, what stood stays -/
def spP (R : Hp → List V → V → Prop) : Sp := fun vs H Q _ => ∃ z, R H vs z ∧ ∀ H', Ex H H' → Q z H'
theorem spP_v {R : Hp → List V → V → Prop} {vs : List V} {H : Hp} {z : V} (h : ∀ H1, Ex H H1 → R H1 vs z) : SpV (spP R) vs H z := fun H1 e Q q E => ⟨z, h H1 e, fun H2 e2 => q H2 e2⟩
def isI : PyData → Bool
  | .int _ => true
  | _ => false
/-- what a datum is worth as an int -/
def valI : PyData → Int
  | .int i => i
  | _ => 0
theorem isI_eq {d : PyData} (h : isI d = true) : d = .int (valI d) := by
  cases d <;> first | rfl | (simp [isI] at h)
theorem kit_int (d : PyData) : ∃ b, kitB (tyN d) "int" = some b ∧ (b = true → ∃ c, kitB (tyN d) "bool" = some c ∧ (b && !c) = isI d) ∧ (b = false → isI d = false) := by
  cases d with
  | none => exact ⟨false, show kitB "NoneType" "int" = some false by decide +kernel, fun h => (by cases h), fun _ => rfl⟩
  | bool b => exact ⟨true, show kitB "bool" "int" = some true by decide +kernel, fun _ => ⟨true, show kitB "bool" "bool" = some true by decide +kernel, rfl⟩, fun h => (by cases h)⟩
  | int i => exact ⟨true, show kitB "int" "int" = some true by decide +kernel, fun _ => ⟨false, show kitB "int" "bool" = some false by decide +kernel, rfl⟩, fun h => (by cases h)⟩
  | str z => exact ⟨false, show kitB "str" "int" = some false by decide +kernel, fun h => (by cases h), fun _ => rfl⟩
  | list ds => exact ⟨false, show kitB "list" "int" = some false by decide +kernel, fun h => (by cases h), fun _ => rfl⟩
  | tuple ds => exact ⟨false, show kitB "tuple" "int" = some false by decide +kernel, fun h => (by cases h), fun _ => rfl⟩
  | dict ds => exact ⟨false, show kitB "dict" "int" = some false by decide +kernel, fun h => (by cases h), fun _ => rfl⟩
def isTu : PyData → Bool
  | .tuple _ => true
  | _ => false
def itemsT : PyData → List PyData
  | .tuple ds => ds
  | _ => []
theorem kit_tup (d : PyData) : kitB (tyN d) "tuple" = some (isTu d) := by
  cases d with
  | none => exact show kitB "NoneType" "tuple" = some false by decide +kernel
  | bool b => exact show kitB "bool" "tuple" = some false by decide +kernel
  | int i => exact show kitB "int" "tuple" = some false by decide +kernel
  | str z => exact show kitB "str" "tuple" = some false by decide +kernel
  | list ds => exact show kitB "list" "tuple" = some false by decide +kernel
  | tuple ds => exact show kitB "tuple" "tuple" = some true by decide +kernel
  | dict ds => exact show kitB "dict" "tuple" = some false by decide +kernel
def isR (n : Int) (d : PyData) : Bool := isI d && (decide (0 ≤ valI d) && decide (valI d ≤ n - 1))
/-- a way of router r through routers below n -/
def wayB (n r : Int) (d : PyData) : Bool := isTu d && (decide (2 ≤ (itemsT d).length) && decide ((itemsT d).length ≤ 8)) && ((itemsT d).all (isR n) && (decide (((itemsT d).map valI)[0]? = some r) && (decide (((itemsT d).map valI).getLast? = some 0) && decide ((itemsT d).map valI).Nodup)))
section
variable {P : Program} {w : World} {K : PySem.W.Frag} {mg : Str → Option Value} {base : Heap} {f : Addr} {fd : FuncData}
/-! is_integer, _law_is_int -/
abbrev spIsInt : Sp := spP fun H vs z => ∃ v d, vs = [v] ∧ Dq H v d ∧ z = .bl (isI d)
abbrev sIsInt : Stmt := top 7
theorem scIsInt : FnScope ["thing"] ["thing"] (defScope sIsInt) := ⟨rfl, rfl, rfl, by decide +kernel, rfl, by decide +kernel, by decide +kernel⟩
theorem ok_isInt (B : Bl mg) (F : FnP K "is_integer" sIsInt f fd) : FnOk P w K mg base CX0 1 f fd ["thing"] spIsInt := by
  refine F.ok scIsInt (fun vs H Q E h => ?_) (fun cdv A outer s H vs Q E hr h => ?_)
  · obtain ⟨z, ⟨v, d, rfl, _⟩, _⟩ := h
    rfl
  · obtain ⟨z, ⟨v, d, rfl, hd, rfl⟩, k⟩ := h
    refine ⟨_, pss_one (ps_ret (pe_and (pe_callB call_isi (by rfl) B.isi boot_isinstance (pa_cons (pv 0) (pa_cons (pe_bltn (v := .ty "int") (by rfl) B.int PyProof.Rows.boot_int rfl) pa_nil)))
      (pe_one (pe_not (pe_callB call_isi (by rfl) B.isi boot_isinstance (pa_cons (pv 0) (pa_cons (pe_bltn (v := .ty "bool") (by rfl) B.bool PyProof.Rows.boot_bool rfl) pa_nil))))))), ?_⟩
    obtain ⟨b, hb, h1, h2⟩ := kit_int d
    have v0 : Ev (tVar 0) (start ["thing"] [v]) H v := ev_var rfl
    cases b with
    | true =>
      obtain ⟨c, hc, e⟩ := h1 rfl
      rw [← e] at k
      exact s_ret (ev_andV (ev_isi v0 hd hb) fun _ => ev_notV (ev_isi v0 hd hc)) k
    | false =>
      rw [h2 rfl] at k
      exact s_ret (ev_andV (b := false) (ev_isi v0 hd hb) fun z => (by cases z)) k

/-! is_between, is_router -/
abbrev spBetween : Sp := spP fun H vs z => ∃ (a b : Int) (v : V) (d : PyData), vs = [.int a, .int b, v] ∧ Dq H v d ∧ z = .bl (isI d && (decide (a ≤ valI d) && decide (valI d ≤ b)))
abbrev sBetween : Stmt := top 8
theorem scBetween : FnScope ["least", "most", "thing"] ["least", "most", "thing"] (defScope sBetween) := ⟨rfl, rfl, rfl, by decide +kernel, rfl, by decide +kernel, by decide +kernel⟩
theorem ok_between (B : Bl mg) (C : Cal P w K mg base "is_integer" ["thing"] 1 spIsInt) (F : FnP K "is_between" sBetween f fd) : FnOk P w K mg base CX0 2 f fd ["least", "most", "thing"] spBetween := by
  refine F.ok scBetween (fun vs H Q E h => ?_) (fun cdv A outer s H vs Q E hr h => ?_)
  · obtain ⟨z, ⟨a, b, v, d, rfl, _⟩, _⟩ := h
    rfl
  · obtain ⟨z, ⟨a, b, v, d, rfl, hd, rfl⟩, k⟩ := h
    refine ⟨_, pss_one (ps_ret (pe_and (pe_cal C hr (by rfl) (pa_cons (pv 2) pa_nil)) (pe_one (pe_chain op_le op_le (pv 0) (pv 2) (pv 1))))), ?_⟩
    have v0 : Ev (tVar 0) (start ["least", "most", "thing"] [.int a, .int b, v]) H (.int a) := ev_var rfl
    have v1 : Ev (tVar 1) (start ["least", "most", "thing"] [.int a, .int b, v]) H (.int b) := ev_var rfl
    have v2 : Ev (tVar 2) (start ["least", "most", "thing"] [.int a, .int b, v]) H v := ev_var rfl
    refine s_ret (ev_andV (a := isI d) (ev_call (ea_cons v2 ea_nil) (spP_v fun H1 e => ⟨v, d, rfl, hd.mono e, rfl⟩)) fun hi => ?_) k
    rw [isI_eq hi] at hd
    cases hd
    exact ev_chain v0 v2 v1 rv_I0 rv_I0
abbrev spRouter : Sp := spP fun H vs z => ∃ (n : Int) (v : V) (d : PyData), vs = [.int n, v] ∧ Dq H v d ∧ z = .bl (isR n d)
abbrev sRouter : Stmt := top 10
theorem scRouter : FnScope ["size", "thing"] ["size", "thing"] (defScope sRouter) := ⟨rfl, rfl, rfl, by decide +kernel, rfl, by decide +kernel, by decide +kernel⟩
theorem ok_router (C : Cal P w K mg base "is_between" ["least", "most", "thing"] 2 spBetween) (F : FnP K "is_router" sRouter f fd) : FnOk P w K mg base CX0 3 f fd ["size", "thing"] spRouter := by
  refine F.ok scRouter (fun vs H Q E h => ?_) (fun cdv A outer s H vs Q E hr h => ?_)
  · obtain ⟨z, ⟨n, v, d, rfl, _⟩, _⟩ := h
    rfl
  · obtain ⟨z, ⟨n, v, d, rfl, hd, rfl⟩, k⟩ := h
    refine ⟨_, pss_one (ps_ret (pe_cal C hr (by rfl) (pa_cons pe_int (pa_cons (pe_op op_sub (pv 0) pe_int) (pa_cons (pv 1) pa_nil))))), ?_⟩
    exact s_ret (ev_call (ea_cons ev_c (ea_cons (ev_op (ev_var rfl) ev_c rv_I0) (ea_cons (ev_var rfl) ea_nil))) (spP_v fun H1 e => ⟨0, n - 1, v, d, rfl, hd.mono e, rfl⟩)) k
/-! is_way -/
abbrev spWay : Sp := spP fun H vs z => ∃ (n r : Int) (v : V) (d : PyData), vs = [.int n, .int r, v] ∧ Dq H v d ∧ z = .bl (wayB n r d)
abbrev sWay : Stmt := top 13
theorem scWay : FnScope ["size", "router", "thing", "item"] ["size", "router", "thing"] (defScope sWay) := ⟨rfl, rfl, rfl, by decide +kernel, rfl, by decide +kernel, by decide +kernel⟩
end
end Wk

set_option Elab.async false
set_option linter.all false
set_option maxRecDepth 100000
set_option maxHeartbeats 2000000
namespace Wk
open PySem PySem.Spec PyProof.Rows L2 Evl
theorem ints_of {n : Int} : ∀ {ds : List PyData}, ds.all (isR n) = true → ds = (ds.map valI).map PyData.int
  | [], _ => rfl
  | d :: ds, h => by
    have h' : isR n d = true ∧ ds.all (isR n) = true := by simpa using h
    have h1 : isI d = true := (Bool.and_eq_true_iff.mp h'.1).1
    show d :: ds = .int (valI d) :: (ds.map valI).map PyData.int
    rw [← ints_of h'.2, ← isI_eq h1]
section
variable {K : PySem.W.Frag} {σ : L2.St} {H : Hp} {ta tb te : TE}
theorem ev_lenSU {l : Addr} {ns : List Int} (ha : Ev ta σ H (.ref l)) (h : SqT K H l (ns.map V.int)) (hl : ns.length < 64) (hb : Ev tb σ H (.int (ns.length : Int))) :
    Ev (tOp rEq (tLenSU K ta) tb) σ H (.bl (decide ns.Nodup)) := fun H1 e Q q =>
  ha H1 e _ fun H2 e2 => ⟨l, ns, rfl, ex_t (e.trans e2) h, hl, fun m hm => hb H2 (e.trans e2) _ fun H3 e3 => ⟨rfl, by
    have ed : decide (V.int (m : Int) = V.int (ns.length : Int)) = decide ns.Nodup := by
      rw [decide_eq_decide]
      constructor
      · intro z
        injection z with z
        exact hm.mp (by omega)
      · intro z
        rw [hm.mpr z]
    rw [ed]
    exact q H3 (e2.trans e3)⟩⟩
theorem ev_lenSUU {l : Addr} {ks : List (Addr × List Int)} (ha : Ev ta σ H (.ref l)) (h : SqT K H l (ks.map fun p => V.ref p.1)) (hk : ∀ p ∈ ks, SqT K H p.1 (p.2.map V.int)) (hl : ks.length < 64) (hb : Ev tb σ H (.int (ks.length : Int))) :
    Ev (tOp rEq (tLenSUU K ta) tb) σ H (.bl (decide (ks.map (·.2)).Nodup)) := fun H1 e Q q =>
  ha H1 e _ fun H2 e2 => ⟨l, ks, rfl, ex_t (e.trans e2) h, fun p hp => ex_t (e.trans e2) (hk p hp), hl, fun m hm => hb H2 (e.trans e2) _ fun H3 e3 => ⟨rfl, by
    have ed : decide (V.int (m : Int) = V.int (ks.length : Int)) = decide (ks.map (·.2)).Nodup := by
      rw [decide_eq_decide]
      constructor
      · intro z
        injection z with z
        exact hm.mp (by omega)
      · intro z
        rw [hm.mpr z]
    rw [ed]
    exact q H3 (e2.trans e3)⟩⟩
end
theorem getLast_atI {α : Type} {xs : List α} {x : α} (h : xs.getLast? = some x) : atI xs (-1) = some x := by
  obtain ⟨ys, rfl⟩ : ∃ ys, xs = ys ++ [x] := by
    cases xs with
    | nil => cases h
    | cons y l =>
      refine ⟨(y :: l).dropLast, ?_⟩
      have := List.dropLast_concat_getLast (l := y :: l) (by simp)
      rw [List.getLast?_eq_some_getLast (by simp)] at h
      cases h
      exact this.symm
  exact atI_last ys x
section
variable {P : Program} {w : World} {K : PySem.W.Frag} {mg : Str → Option Value} {base : Heap} {f : Addr} {fd : FuncData}
theorem ok_way (B : Bl mg) {t8 : Tok} (m8 : mg "MOST_ROUTERS" = some (.int 8 t8)) (C : Cal P w K mg base "is_router" ["size", "thing"] 3 spRouter) (F : FnP K "is_way" sWay f fd) : FnOk P w K mg base CX0 5 f fd ["size", "router", "thing"] spWay := by
  refine F.ok scWay (fun vs H Q E h => ?_) (fun cdv A outer s H vs Q E hr h => ?_)
  · obtain ⟨z, ⟨n, r, v, d, rfl, _⟩, _⟩ := h
    rfl
  · obtain ⟨z, ⟨n, r, v, d, rfl, hd, rfl⟩, k⟩ := h
    refine ⟨_, pss_cons (ps_if (PW.pt (pw_or (pt_not (pt_val (pe_callB call_isi (by rfl) B.isi boot_isinstance (pa_cons (pv 2) (pa_cons (pe_bltn (v := .ty "tuple") (by rfl) B.tuple PyProof.Rows.boot_tuple rfl) pa_nil)))))
        (pw_or1 (pt_not (pt_chain op_le op_le pe_int (pe_callB call_len_seq (by rfl) B.len PySem.boot_len (pa_cons (pv 2) pa_nil)) (pe_glob (v := .int 8) (by rfl) m8 ⟨_, rfl⟩)))))) (pss_one (ps_ret pe_bl)) pss_nil)
      (pss_cons (ps_if (pt_not (pt_val (pe_callB (cr_all rfl) (by rfl) B.all boot_all (pa_cons (pe_lc (own := [("item", 3)]) (g := gName 3) (tt := tYes) rfl scWay.nd (pi_tup (pv 2)) (blkOk_by (N := ["size", "router", "thing", "item"]) (sc := defScope sWay) (by decide +kernel))
          (fun _ _ _ _ _ => pg_name (i := 3) scWay.nd rfl (Or.inl rfl)) (fun _ _ _ _ _ => pts_nil) (fun _ _ _ _ _ => pe_cal C hr (by rfl) (pa_cons (pv 0) (pa_cons (pv 3) pa_nil)))) pa_nil)))) (pss_one (ps_ret pe_bl)) pss_nil)
      (pss_one (ps_ret (pe_and (pe_cmpR op_eq (pe_ix ix_tup (pv 2) pe_int (fun _ _ => rfl)) (pv 1) (nomark _)) (pe_and (pe_cmpR op_eq (pe_ix ix_tup (pv 2) (pe_un un_neg pe_int) (fun _ _ => rfl)) pe_int (nomark _))
        (pe_one (pe_cmpR op_eq (pe_lenSU rfl (by rfl) B.len (by rfl) B.set (pv 2)) (pe_callB call_len_seq (by rfl) B.len PySem.boot_len (pa_cons (pv 2) pa_nil)) (nomark _)))))))), ?_⟩
    have v0 : ∀ {o : Option V} {H1 : Hp}, Ev (tVar 0) [some (.int n), some (.int r), some v, o] H1 (.int n) := ev_var rfl
    have v1 : ∀ {H1 : Hp}, Ev (tVar 1) (start ["size", "router", "thing", "item"] [.int n, .int r, v]) H1 (.int r) := ev_var rfl
    have v2 : ∀ {H1 : Hp}, Ev (tVar 2) (start ["size", "router", "thing", "item"] [.int n, .int r, v]) H1 v := ev_var rfl
    have hlen : ∀ {H1 : Hp}, Ex H H1 → isTu d = true → Ev (tCB (rLenS K) (tCons (tVar 2) tNil)) (start ["size", "router", "thing", "item"] [.int n, .int r, v]) H1 (.int ((itemsT d).length : Int)) := fun {H1} e ht => by
      cases d <;> first | (simp [isTu] at ht; done) | skip
      rename_i ds
      obtain ⟨a, xs, rfl, h1, h2⟩ := hd.seqT (K := K)
      rw [show (itemsT (.tuple ds)).length = xs.length from h2.length.symm]
      exact ev_lenT v2 (h1 _ e)
    refine q_when (b := !isTu d || !(decide (2 ≤ ((itemsT d).length : Int)) && decide (((itemsT d).length : Int) ≤ 8))) (et_or (et_not (et_B (ev_isi v2 hd (kit_tup d)))) fun ht => et_not (et_test (ev_chain ev_c (hlen (Ex.refl H) (by simpa using ht)) ev_c rv_I0 rv_I0)))
      (fun hb H1 e => s_ret ev_c fun H2 e2 => ?_) (fun hb H1 e => ?_)
    · have ez : wayB n r d = false := by
        unfold wayB
        cases ht : isTu d
        · simp
        · simp [ht] at hb
          have : (decide (2 ≤ (itemsT d).length) && decide ((itemsT d).length ≤ 8)) = false := by simp; omega
          rw [this]
          simp
      rw [ez] at k
      exact k _ (e.trans e2)
    · have ht : isTu d = true := by simp at hb; exact hb.1
      have hl : 2 ≤ (itemsT d).length ∧ (itemsT d).length ≤ 8 := by simp [ht] at hb; omega
      have hd1 := hd.mono e
      clear hd
      cases d <;> first | (simp [isTu] at ht; done) | skip
      rename_i ds
      obtain ⟨a, xs, rfl, h1, h2⟩ := hd1.seqT (K := K)
      have hxl := h2.length
      have hl' : 2 ≤ ds.length ∧ ds.length ≤ 8 := hl
      refine q_when (b := !ds.all (isR n)) (et_not (et_B ?_)) (fun hb H2 e2 => s_ret ev_c fun H3 e3 => ?_) (fun hb H2 e2 => ?_)
      · have q := ev_allT (K := K) (H := H1) (j := 3) (vs := [3]) (σ := start ["size", "router", "thing", "item"] [.int n, .int r, .ref a]) (te := tCall spRouter [] E0 (tCons (tVar 0) (tCons (tVar 3) tNil))) (fun i => ((ds[i]?).map (isR n)).getD false) v2 (h1 _ (Ex.refl _)) (by omega) (fun x => rfl)
          (fun i x H2 e2 hx => by
            obtain ⟨dx, e3, e4⟩ := h2.get hx
            rw [e3]
            exact ev_call (ea_cons (ev_var rfl) (ea_cons (ev_var rfl) ea_nil)) (spP_v fun H3 e5 => ⟨n, x, dx, rfl, (e4.mono e2).mono e5, rfl⟩))
        rw [hxl, all_get] at q
        exact q
      · have ez : wayB n r (.tuple ds) = false := by
          have hb' : ds.all (isR n) = false := by simpa using hb
          unfold wayB
          show (true && _ && (ds.all (isR n) && _)) = false
          rw [hb']
          simp
        rw [ez] at k
        exact k _ ((e.trans e2).trans e3)
      · have hall : ds.all (isR n) = true := by simpa using hb
        have eds := ints_of hall
        have exs : xs = (ds.map valI).map V.int := by rw [eds] at h2; exact h2.int_inv
        generalize hns : ds.map valI = ns at *
        have hnl : ns.length = ds.length := by rw [← hns, List.length_map]
        subst exs
        have h1' := h1 _ e2
        have ez : wayB n r (.tuple ds) = (decide (V.int (ns.getD 0 0) = V.int r) && (decide (V.int (ns.getLast?.getD 0) = V.int 0) && decide ns.Nodup)) := by
          unfold wayB
          show (true && (decide (2 ≤ ds.length) && decide (ds.length ≤ 8)) && (ds.all (isR n) && (decide ((ds.map valI)[0]? = some r) && (decide ((ds.map valI).getLast? = some 0) && decide (ds.map valI).Nodup)))) = _
          rw [hall, hns, decide_eq_true hl'.1, decide_eq_true hl'.2]
          cases ns with
          | nil => simp at hnl; omega
          | cons x l =>
            simp only [Bool.true_and, Bool.and_true, List.getElem?_cons_zero, List.getD_cons_zero, V.int.injEq, Option.some.injEq]
            rw [List.getLast?_eq_some_getLast (by simp)]
            simp
        rw [ez] at k
        have hg : ∃ z, ns.getLast? = some z := by
          cases ns with
          | nil => simp at hnl; omega
          | cons x l => exact ⟨_, List.getLast?_eq_some_getLast (by simp)⟩
        obtain ⟨z, hz⟩ := hg
        rw [hz] at k
        refine s_ret (ev_andV (ev_op (ev_op v2 ev_c (rv_ixT h1' (v := .int (ns.getD 0 0)) ?_)) v1 (rv_eq rfl)) fun _ => ev_andV (ev_op (ev_op v2 (ev_un ev_c ru_neg) (rv_ixT h1' (v := .int z) ?_)) ev_c (rv_eq rfl)) fun _ => ev_lenSU v2 h1' (by omega) ?_) fun H3 e3 => k _ ((e.trans e2).trans e3)
        · cases ns with
          | nil => simp at hnl; omega
          | cons x l => exact atI_nat (j := 0) (by simp)
        · exact getLast_atI (by rw [List.getLast?_map, hz]; rfl)
        · have q := ev_lenT (K := K) (ta := tVar 2) (σ := start ["size", "router", "thing", "item"] [.int n, .int r, .ref a]) (H := H2) v2 h1'
          rw [List.length_map] at q
          exact q
end
end Wk

set_option Elab.async false
set_option linter.all false
set_option maxRecDepth 100000
set_option maxHeartbeats 2000000
namespace Wk
open PySem PySem.Spec PyProof.Rows L2 Evl
/-- the routers of a way -/
def rts (d : PyData) : List Int := (itemsT d).map valI
/-- the item of a router -/
def rowB (n r : Int) (d : PyData) : Bool := isTu d && decide ((itemsT d).length ≤ 6) && (if r = 0 then decide ((itemsT d).length = 0) else ((itemsT d).all (wayB n r) && decide ((itemsT d).map rts).Nodup))
theorem way_ints {n r : Int} {d : PyData} (h : wayB n r d = true) : d = .tuple ((rts d).map PyData.int) ∧ (itemsT d).all (isR n) = true ∧ 2 ≤ (rts d).length ∧ (rts d).length ≤ 8 ∧ (rts d)[0]? = some r ∧ (rts d).getLast? = some 0 ∧ (rts d).Nodup := by
  unfold wayB at h
  simp only [Bool.and_eq_true, decide_eq_true_eq] at h
  obtain ⟨⟨ht, h1, h2⟩, h3, h4, h5, h6⟩ := h
  cases d <;> first | (simp [isTu] at ht; done) | skip
  rename_i ds
  have e := ints_of (ds := ds) h3
  have el : (rts (.tuple ds)).length = ds.length := List.length_map ..
  exact ⟨congrArg PyData.tuple e, h3, by rw [el]; exact h1, by rw [el]; exact h2, h4, h5, h6⟩
theorem ways_keys {G : Hp} {n r : Int} : ∀ {ds : List PyData} {vs : List V}, DqA G vs ds → ds.all (wayB n r) = true → ∃ ks : List (Addr × List Int), vs = ks.map (fun p => V.ref p.1) ∧ (∀ p ∈ ks, G p.1 = some (.tup (p.2.map V.int))) ∧ ks.map (·.2) = ds.map rts
  | [], _, .nil, _ => ⟨[], rfl, fun p hp => (by cases hp), rfl⟩
  | d :: ds, _, .cons h t, c => by
    have c' : wayB n r d = true ∧ ds.all (wayB n r) = true := by simpa using c
    obtain ⟨ks, e1, e2, e3⟩ := ways_keys t c'.2
    have ed := (way_ints c'.1).1
    generalize rts d = ns at ed
    have er : rts d = ns := by
      rw [ed]
      simp [rts, itemsT, valI, Function.comp_def]
    subst ed
    obtain ⟨a, xs, rfl, ha, hx⟩ := h.tupI fun d hd es z => by
      obtain ⟨i, _, ei⟩ := List.mem_map.mp hd
      rw [← ei] at z
      cases z
    · have ex := hx.int_inv
      subst ex
      refine ⟨(a, ns) :: ks, by rw [e1]; rfl, fun p hp => ?_, by simp [e3, er]⟩
      rcases List.mem_cons.mp hp with z | z
      · rw [z]; exact ha
      · exact e2 p z
section
variable {P : Program} {w : World} {K : PySem.W.Frag} {mg : Str → Option Value} {base : Heap} {f : Addr} {fd : FuncData}
abbrev spRow : Sp := spP fun H vs z => ∃ (n r : Int) (v : V) (d : PyData), vs = [.int n, .int r, v] ∧ Dq H v d ∧ z = .bl (rowB n r d)
abbrev sRow : Stmt := top 19
theorem scRow : FnScope ["size", "router", "thing", "way"] ["size", "router", "thing"] (defScope sRow) := ⟨rfl, rfl, rfl, by decide +kernel, rfl, by decide +kernel, by decide +kernel⟩
theorem ok_row (B : Bl mg) {t6 : Tok} (hM : mg "MOST_WAYS" = some (.int 6 t6)) (C : Cal P w K mg base "is_way" ["size", "router", "thing"] 5 spWay) (F : FnP K "is_way_list" sRow f fd) : FnOk P w K mg base CX0 6 f fd ["size", "router", "thing"] spRow := by
  refine F.ok scRow (fun vs H Q E h => ?_) (fun cdv A outer s H vs Q E hr h => ?_)
  · obtain ⟨z, ⟨n, r, v, d, rfl, _⟩, _⟩ := h
    rfl
  · obtain ⟨z, ⟨n, r, v, d, rfl, hd, rfl⟩, k⟩ := h
    have hu : (A.deeper (envOfC "is_way_list" (defScope sRow) s.heap.objs.size f cdv)).units + 64 < cLine := by have := hr.un; omega
    refine ⟨_, pss_cons (ps_if (PW.pt (pw_or (pt_not (pt_val (pe_callB call_isi (by rfl) B.isi boot_isinstance (pa_cons (pv 2) (pa_cons (pe_bltn (v := .ty "tuple") (by rfl) B.tuple PyProof.Rows.boot_tuple rfl) pa_nil)))))
        (pw_or1 (pt_cmpR op_gt (pe_callB call_len_seq (by rfl) B.len PySem.boot_len (pa_cons (pv 2) pa_nil)) (pe_glob (v := .int 6) (by rfl) hM ⟨_, rfl⟩) (nomark _))))) (pss_one (ps_ret pe_bl)) pss_nil)
      (pss_cons (ps_if (pt_cmpR op_eq (pv 1) pe_int (nomark _)) (pss_one (ps_ret (pe_cmpR op_eq (pe_callB call_len_seq (by rfl) B.len PySem.boot_len (pa_cons (pv 2) pa_nil)) pe_int (nomark _)))) pss_nil)
      (pss_one (ps_ret (pe_and (pe_callB (cr_all rfl) (by rfl) B.all boot_all (pa_cons (pe_lc (own := [("way", 3)]) (g := gName 3) (tt := tYes) rfl scRow.nd (pi_tup (pv 2)) (blkOk_by (N := ["size", "router", "thing", "way"]) (sc := defScope sRow) (by decide +kernel))
          (fun _ _ _ _ _ => pg_name (i := 3) scRow.nd rfl (Or.inl rfl)) (fun _ _ _ _ _ => pts_nil) (fun _ _ _ _ _ => pe_cal C hr (by rfl) (pa_cons (pv 0) (pa_cons (pv 1) (pa_cons (pv 3) pa_nil))))) pa_nil))
        (pe_one (pe_cmpR op_eq (pe_lenSUU rfl hu (by rfl) B.len (by rfl) B.set (pv 2)) (pe_callB call_len_seq (by rfl) B.len PySem.boot_len (pa_cons (pv 2) pa_nil)) (nomark _))))))), ?_⟩
    have v1 : ∀ {H1 : Hp}, Ev (tVar 1) (start ["size", "router", "thing", "way"] [.int n, .int r, v]) H1 (.int r) := ev_var rfl
    have v2 : ∀ {H1 : Hp}, Ev (tVar 2) (start ["size", "router", "thing", "way"] [.int n, .int r, v]) H1 v := ev_var rfl
    have hlen : ∀ {H1 : Hp}, Ex H H1 → isTu d = true → Ev (tCB (rLenS K) (tCons (tVar 2) tNil)) (start ["size", "router", "thing", "way"] [.int n, .int r, v]) H1 (.int ((itemsT d).length : Int)) := fun {H1} e ht => by
      cases d <;> first | (simp [isTu] at ht; done) | skip
      rename_i ds
      obtain ⟨a, xs, rfl, h1, h2⟩ := hd.seqT (K := K)
      rw [show (itemsT (.tuple ds)).length = xs.length from h2.length.symm]
      exact ev_lenT v2 (h1 _ e)
    refine q_when (b := !isTu d || decide (((itemsT d).length : Int) > 6)) (et_or (et_not (et_B (ev_isi v2 hd (kit_tup d)))) fun ht => et_test (ev_op (hlen (Ex.refl H) (by simpa using ht)) ev_c rv_I0))
      (fun hb H1 e => s_ret ev_c fun H2 e2 => ?_) (fun hb H1 e => ?_)
    · have ez : rowB n r d = false := by
        unfold rowB
        cases ht : isTu d
        · simp
        · simp [ht] at hb
          have : decide ((itemsT d).length ≤ 6) = false := by simp; omega
          rw [this]
          simp
      rw [ez] at k
      exact k _ (e.trans e2)
    · have ht : isTu d = true := by simp at hb; exact hb.1
      have hl : (itemsT d).length ≤ 6 := by simp [ht] at hb; omega
      have er : rowB n r d = (if r = 0 then decide ((itemsT d).length = 0) else ((itemsT d).all (wayB n r) && decide ((itemsT d).map rts).Nodup)) := by
        unfold rowB
        rw [ht, decide_eq_true hl]
        simp
      rw [er] at k
      refine q_when (b := decide (V.int r = V.int 0)) (et_test (ev_op v1 ev_c (rv_eq rfl))) (fun hb H2 e2 => ?_) (fun hb H2 e2 => ?_)
      · have hr0 : r = 0 := by have := of_decide_eq_true hb; injection this
        rw [if_pos hr0] at k
        have q : Ev (tOp rEq (tCB (rLenS K) (tCons (tVar 2) tNil)) (tC (.int 0))) (start ["size", "router", "thing", "way"] [.int n, .int r, v]) H2 (.bl (decide (V.int ((itemsT d).length : Int) = V.int 0))) := ev_op (hlen (e.trans e2) ht) ev_c (rv_eq rfl)
        have ed : decide (V.int ((itemsT d).length : Int) = V.int 0) = decide ((itemsT d).length = 0) := by
          rw [decide_eq_decide]
          constructor
          · intro z
            injection z with z
            omega
          · intro z
            rw [z]
            rfl
        rw [ed] at q
        exact s_ret q fun H3 e3 => k _ ((e.trans e2).trans e3)
      · have hr0 : ¬ r = 0 := fun z => by rw [z] at hb; simp at hb
        rw [if_neg hr0] at k
        have hd1 := hd.mono (e.trans e2)
        clear hd er hlen
        cases d <;> first | (simp [isTu] at ht; done) | skip
        rename_i ds
        obtain ⟨a, xs, rfl, h1, h2⟩ := hd1.seqT (K := K)
        have h1 := h1 _ (Ex.refl _)
        have hxl := h2.length
        have hl' : ds.length ≤ 6 := hl
        refine s_ret (ev_andV (a := ds.all (wayB n r)) ?_ fun hall => ?_) fun H3 e3 => k _ ((e.trans e2).trans e3)
        · have q := ev_allT (K := K) (H := H2) (j := 3) (vs := [3]) (σ := start ["size", "router", "thing", "way"] [.int n, .int r, .ref a]) (te := tCall spWay [] E0 (tCons (tVar 0) (tCons (tVar 1) (tCons (tVar 3) tNil)))) (fun i => ((ds[i]?).map (wayB n r)).getD false) v2 h1 (by omega) (fun x => rfl)
            (fun i x H3 e3 hx => by
              obtain ⟨dx, e5, e4⟩ := h2.get hx
              rw [e5]
              exact ev_call (ea_cons (ev_var rfl) (ea_cons (ev_var rfl) (ea_cons (ev_var rfl) ea_nil))) (spP_v fun H4 e6 => ⟨n, r, x, dx, rfl, (e4.mono e3).mono e6, rfl⟩))
          rw [hxl, all_get] at q
          exact q
        · obtain ⟨ks, ek1, ek2, ek3⟩ := ways_keys h2 hall
          have hkl : ks.length = xs.length := by rw [ek1, List.length_map]
          have q := ev_lenSUU (K := K) (σ := start ["size", "router", "thing", "way"] [.int n, .int r, .ref a]) (H := H2) (ta := tVar 2) (tb := tCB (rLenS K) (tCons (tVar 2) tNil)) (l := a) (ks := ks) v2 (by rw [← ek1]; exact h1) (fun p hp => st_of (ek2 p hp)) (by omega) (by rw [hkl]; exact ev_lenT v2 h1)
          rw [ek3] at q
          exact q
end
end Wk

set_option Elab.async false
set_option linter.all false
set_option maxRecDepth 100000
set_option maxHeartbeats 4000000
namespace Wk
open PySem PySem.Spec PyProof.Rows L2 Evl
/-! an object made, a method called, where what is raised is wished for at the caller's slots -/
section
variable {X : Cx} {CX : CXT} {k : Nat} {f C : Addr} {fd : FuncData} {ps : List Str} {sp : Sp} {W : L2.St → XK} {x m : Str} {p pos apos : Pos} {e o : Expr} {es : List Expr} {ta : TE} {t : TA}
def tMkAt (C : Addr) (sp : Sp) (W : L2.St → XK) (t : TA) : TE := fun σ H Q => t σ H fun vs H1 => ∀ x dx, H1 x = none → H1 dx = none → dx ≠ x → sp (.ref x :: vs) (upd (upd H1 dx (.own x)) x (.ins C dx [])) (fun v H2 => v = .non ∧ Q (.ref x) H2) (W σ)
theorem pe_mkAt (M : Mk X.K C f) (Fn : FnOk X.prog X.w X.K X.mg X.base CX k f fd ps sp) (hr : Room (k + 1) X.A) (hg : Gl X x) (hm : X.mg x = some (.ref C)) (hb : Binds X.K fd ps []) (hx : ∀ σ, PassesAt CX X σ (W σ)) (ha : PA X (e :: es) t)
    (hdb : (x == ("__debug__" : Str)) = false := by decide) (he : starEach (e :: es) X.env = (false, eval e X.env) :: starEach es X.env := by rfl) (hpl : (backTo pos (starEach es X.env)).any (·.1) = false := by rfl) :
    PE X (.Call (.Name x p) (e :: es) [] pos) (tMkAt C sp W t) := by
  refine ⟨fun pins s σ H Q I h => wpAny_Call_Name_kw (ld_glob I hg hm (PySem.W.callWith_K (h₀ := X.base) I.ok.mod.kin M.kp (thn (ha.run pos pins s σ H _ I h) fun us s1 hh => ?_) he hpl) hdb)⟩
  obtain ⟨vs, H1, I1, r, q⟩ := hh
  refine ⟨I1.kIn, ?_⟩
  have hq := q (s1.heap.objs.size + 1) s1.heap.objs.size (I1.hok.fresh (Nat.le_succ _)) (I1.hok.fresh (Nat.le_refl _)) (Nat.ne_of_lt (Nat.lt_succ_self _))
  have J := Inv.made (C := C) I1
  have rr : Vals (V.ref (s1.heap.objs.size + 1) :: vs) (Value.ref (s1.heap.objs.size + 1) :: us) := .cons rfl r
  have hl : (Value.ref (s1.heap.objs.size + 1) :: us).length = ps.length := rr.length.symm.trans (Fn.len _ _ _ _ hq)
  have bd := hb _ (Value.ref (s1.heap.objs.size + 1) :: us) J.kIn (by rw [List.append_nil]; exact hl)
  rw [List.append_nil] at bd
  refine wpAny_call (make_map (f := f) I1.kIn M.makes M.init (beq_iff_eq.mp M.fn) (codeAny_mono (Fn.run _ X.stack _ _ ⟨_, []⟩ _ _ _ (W σ) (hr.make C us []) (J.env0.make C us []) bd rr hq) fun r s' out => ?_))
  cases r with
  | error er => exact hx σ pins _ _ er s' J out
  | ok fl =>
    cases fl with
    | ret u =>
      obtain ⟨v, H', I3, rv, ev, q3⟩ := J.after out
      subst ev
      exact ⟨rv, ⟨V.ref (s1.heap.objs.size + 1), H', I3, rfl, q3⟩⟩
    | next => exact False.elim out
    | brk => exact False.elim out
    | cont => exact False.elim out
def tMeAt (C : Addr) (m : Str) (sp : Sp) (W : L2.St → XK) (ta : TE) (t : TA) : TE := fun σ H Q => ta σ H fun x H1 => ∃ a dx fs, x = .ref a ∧ H1 a = some (.ins C dx fs) ∧ fs.lookup m = none ∧ t σ H1 fun vs H2 => sp (x :: vs) H2 Q (W σ)
theorem pe_meAt {pl : Sem Bool} (ho : PE X o ta) (c : Cls X.K C) (hm : Meth X.K C m f) (Fn : FnOk X.prog X.w X.K X.mg X.base CX k f fd ps sp) (hr : Room k X.A) (hb : Binds X.K fd ps []) (hx : ∀ σ, PassesAt CX X σ (W σ)) (ha : PA X (e :: es) t)
    (hst : starEach (e :: es) X.env = (false, eval e X.env) :: starEach es X.env := by rfl) (hpl : (backTo pos (starEach es X.env)).any (·.1) = false := by rfl)
    (ht : eval (.Call (.Attribute o m apos) (e :: es) [] pos) X.env = (do
      let ov ← eval o X.env
      standAt apos.atName
      let (f, first) ← holding [ov] (getMethod ov m pl)
      callWith pos f first (backTo pos (starEach (e :: es) X.env)) (backToKw pos (keywordEach [] X.env))) := by rfl) :
    PE X (.Call (.Attribute o m apos) (e :: es) [] pos) (tMeAt C m sp W ta t) := by
  refine ⟨fun pins s σ H Q I h => PySem.W.methodCall_KW (pl := pl) (thn (ho.run pins s σ H _ I h) fun u s1 hh => ?_) ht⟩
  obtain ⟨x, H1, I1, rx, a, dx, fs, ex, ea, l, q⟩ := hh
  subst ex
  obtain rfl : u = Value.ref a := rx
  refine getmeth_ok I1 ea c hm l (PySem.W.callWith_K (first := [.ref a]) (h₀ := X.base) I.ok.mod.kin hm.kp (thn (ha.run pos pins s1 σ H1 _ I1 q) fun us s2 hh => ?_) hst hpl)
  obtain ⟨vs, H2, I2, r, q2⟩ := hh
  exact ⟨I2.kIn, run_fnS (us := .ref a :: us) (vs := .ref a :: vs) Fn hr hb (hx σ) I2 (.cons rfl r) q2⟩
end
/-! an own error with one field -/
/-- __init__ of such an error: self.router = router -/
def spXI (C : Addr) : Sp := fun vs H Q _ => ∃ (a : Addr) (y : V), vs = [.ref a, y] ∧ H a = some (exo a C none) ∧ ∀ dx, H dx = none → dx ≠ a → Q .non (upd (upd H dx (exd dx [("router", y)])) a (exo a C (some dx)))
/-- X(e) is made: where the error's dict is -/
theorem mk_err {C : Addr} {te : TE} {σ : L2.St} {H : Hp} {y : V} {W : XK} (h : Ev te σ H y) (k : ∀ d H', H d = none → Ex H H' → H' d = some (.xd [("router", y)]) → W (.ref C) (some d) H') : tMkO C (spXI C) [] (tCons te tNil) σ H W := by
  refine h H (Ex.refl H) _ fun H1 e => ⟨by show 1 ≤ 1000; decide, fun a ha => ?_⟩
  refine ⟨a, y, rfl, upd_same, fun dx hd hne => ⟨rfl, dx, [("router", y)], upd_same, by rw [upd_ne hne, upd_same], ?_, ?_⟩⟩
  · rw [upd_ne hne] at hd
    exact hd
  · have hd1 : H1 dx = none := by rw [upd_ne hne] at hd; exact hd
    refine k dx _ (fresh_back e hd1) (fun b o hb => ?_) upd_same
    have hb1 := e b o hb
    have nb : b ≠ dx := ne_of_none hb1 hd1
    have na : b ≠ a := ne_of_none hb1 ha
    rw [upd_ne nb, del_ne na, upd_ne na, upd_ne nb, upd_ne na]
    exact hb1
/-! parts of tuples -/
section
variable {K : PySem.W.Frag} {σ : L2.St} {H : Hp} {ta tb te : TE}
/-- what stands in a tuple (an old one or a new one) -/
def EvS (te : TE) (σ : L2.St) (H : Hp) (xs : List V) : Prop := ∀ H1, Ex H H1 → ∀ Q : VK, (∀ p H2, Ex H1 H2 → H2 p = some (.tup xs) → Q (.ref p) H2) → te σ H1 Q
theorem es_sl {a : Addr} {xs : List V} {tl th : TO} {lo hi : Option Int} (h : Ev te σ H (.ref a)) (h1 : EvO tl σ H lo) (h2 : EvO th σ H hi) (hs : H a = some (.tup xs)) : EvS (tSl (rSlA K) te tl th) σ H (cutV xs lo hi) := fun H1 e Q q =>
  h H1 e _ fun H2 e2 => h1 H2 (e.trans e2) _ fun H3 e3 => h2 H3 ((e.trans e2).trans e3) _ fun H4 e4 => by
    have hs4 := (((e.trans e2).trans e3).trans e4) _ _ hs
    refine ⟨a, xs, rfl, st_of hs4, fun hw => ?_, fun hw p hp => q p _ (((e2.trans e3).trans e4).trans (Ex.new hp)) upd_same⟩
    have ec : cutV xs lo hi = xs := by
      unfold cutV
      rw [hw.1, hw.2]
      simp
    rw [ec] at q
    exact q a H4 ((e2.trans e3).trans e4) hs4
theorem es_cat {xs ys : List V} (ha : EvS ta σ H xs) (hb : EvS tb σ H ys) (hz : xs.length + ys.length ≤ 100000) : EvS (tOp (rCatA K) ta tb) σ H (xs ++ ys) := fun H1 e Q q =>
  ha H1 e _ fun p H2 e2 hp => hb H2 (e.trans e2) _ fun p' H3 e3 hp' => by
    have hp3 := e3 _ _ hp
    refine ⟨p, p', xs, ys, rfl, rfl, st_of hp3, st_of hp', sz_of hz, fun hx => ?_, fun _ hy => ?_, fun _ _ r hr => q r _ ((e2.trans e3).trans (Ex.new hr)) upd_same⟩
    · rw [hx] at q
      exact q p' H3 (e2.trans e3) hp'
    · rw [hy, List.append_nil] at q
      exact q p H3 (e2.trans e3) hp3
theorem es_tup {t : TA} {xs : List V} (h : EvA t σ H xs) (hz : xs.length ≤ 100000) : EvS (tTup t) σ H xs := fun H1 e Q q => eu_tup h hz H1 e Q fun p H2 _ e2 hp => q p H2 e2 hp
theorem es_var {a : Addr} {xs : List V} (h : Ev te σ H (.ref a)) (hs : H a = some (.tup xs)) : EvS te σ H xs := fun H1 e Q q => h H1 e _ fun H2 e2 => q a H2 e2 ((e.trans e2) _ _ hs)
theorem es_mono {xs : List V} {H' : Hp} (e : Ex H H') (h : EvS te σ H xs) : EvS te σ H' xs := fun H1 e1 Q q => h H1 (e.trans e1) Q q
end
/-! x in t, t a tuple of data -/
section
variable {X : Cx}
def rInU (K : PySem.W.Frag) : R2 := fun x y H Q => ∃ d ds, Dp K H x d ∧ Dp K H y (.tuple ds) ∧ SeqAt.shaped d = true ∧ PyData.canLayAll0 ds = true ∧ Q (.bl (ds.any fun z => PyData.eqv z d)) H
def rNotInU (K : PySem.W.Frag) : R2 := fun x y H Q => ∃ d ds, Dp K H x d ∧ Dp K H y (.tuple ds) ∧ SeqAt.shaped d = true ∧ PyData.canLayAll0 ds = true ∧ Q (.bl (!ds.any fun z => PyData.eqv z d)) H
theorem op_inU (hu : X.A.units + 66 < cLine) : OpR X (compareOp .In) (rInU X.K) := fun pins s σ H x y v u Q I rx ry h => by
  obtain ⟨d, ds, hd, he, sd, se, q⟩ := h
  obtain ⟨as, r1⟩ := Dp.reads I d x v hd rx
  obtain ⟨bs, r2⟩ := Dp.reads I (.tuple ds) y u he ry
  have hdp := SeqAt.depth_of_shaped sd
  exact SeqAt.in_tuple_reads r2 r1 se (SeqAt.canLay_of_shaped sd) (by have := Nat.min_le_right (PyData.depthAll ds) d.depth; omega) ⟨.bl _, H, I, rfl, q⟩
theorem op_notInU (hu : X.A.units + 66 < cLine) : OpR X (compareOp .NotIn) (rNotInU X.K) := fun pins s σ H x y v u Q I rx ry h => by
  obtain ⟨d, ds, hd, he, sd, se, q⟩ := h
  obtain ⟨as, r1⟩ := Dp.reads I d x v hd rx
  obtain ⟨bs, r2⟩ := Dp.reads I (.tuple ds) y u he ry
  have hdp := SeqAt.depth_of_shaped sd
  exact SeqAt.notIn_tuple_reads r2 r1 se (SeqAt.canLay_of_shaped sd) (by have := Nat.min_le_right (PyData.depthAll ds) d.depth; omega) ⟨.bl _, H, I, rfl, q⟩
end
end Wk

set_option Elab.async false
set_option linter.all false
set_option maxRecDepth 100000
set_option maxHeartbeats 2000000
namespace Wk
open PySem PySem.Spec PyProof.Rows L2 Evl
theorem lay_ints : ∀ ns : List Int, PyData.canLayAll0 (ns.map PyData.int) = true
  | [] => by simp [PyData.canLayAll0]
  | n :: ns => by
    have h := lay_ints ns
    simp [PyData.canLayAll0, PyData.canLay0, h]
theorem depth_ints : ∀ ns : List Int, PyData.depthAll (ns.map PyData.int) = 0
  | [] => by simp [PyData.depthAll]
  | n :: ns => by
    have h := depth_ints ns
    simp [PyData.depthAll, PyData.depth, h]
theorem shaped_ints (ns : List Int) : SeqAt.shaped (.tuple (ns.map PyData.int)) = true := by
  unfold SeqAt.shaped
  have h1 := lay_ints ns
  have h2 := depth_ints ns
  simp [PyData.canLay0, PyData.depth, h1, h2]
theorem way_lay {n r : Int} {d : PyData} (h : wayB n r d = true) : d.canLay0 = true := by
  rw [(way_ints h).1]
  exact SeqAt.canLay_of_shaped (shaped_ints _)
theorem ways_lay {n r : Int} : ∀ {ds : List PyData}, ds.all (wayB n r) = true → PyData.canLayAll0 ds = true
  | [], _ => by simp [PyData.canLayAll0]
  | d :: ds, h => by
    have h' : wayB n r d = true ∧ ds.all (wayB n r) = true := by simpa using h
    simp [PyData.canLayAll0, way_lay h'.1, ways_lay h'.2]
theorem row_lay {n r : Int} {d : PyData} (h : rowB n r d = true) : ∃ ws, d = .tuple ws ∧ PyData.canLayAll0 ws = true ∧ ws.length ≤ 6 ∧ (r ≠ 0 → ws.all (wayB n r) = true) ∧ (r = 0 → ws = []) := by
  unfold rowB at h
  simp only [Bool.and_eq_true, decide_eq_true_eq] at h
  obtain ⟨⟨ht, h1⟩, h2⟩ := h
  cases d <;> first | (simp [isTu] at ht; done) | skip
  rename_i ws
  by_cases hr : r = 0
  · rw [if_pos hr] at h2
    have e : ws = [] := List.length_eq_zero_iff.mp (of_decide_eq_true h2)
    refine ⟨ws, rfl, by rw [e]; simp [PyData.canLayAll0], h1, fun z => absurd hr z, fun _ => e⟩
  · rw [if_neg hr] at h2
    have h3 := (Bool.and_eq_true_iff.mp h2).1
    exact ⟨ws, rfl, ways_lay h3, h1, fun _ => h3, fun z => absurd z hr⟩
/-- the rest of a way stands in the list of its router, or is the goal's -/
def restB (rows : List PyData) (w : PyData) : Bool := decide ((rts w).getD 1 0 = 0) || (itemsT (rows.getD ((rts w).getD 1 0).toNat .none)).any (fun z => PyData.eqv z (.tuple (((rts w).drop 1).map PyData.int)))
def Good (rows : List PyData) : Prop := ∀ (i : Nat) (row : PyData), rows[i]? = some row → rowB (rows.length : Int) (i : Int) row = true
theorem way_at {n r : Int} {w : PyData} {i : Nat} {x : Int} (h : wayB n r w = true) (e : (rts w)[i]? = some x) : 0 ≤ x ∧ x < n := by
  have hall := (way_ints h).2.1
  unfold rts at e
  rw [List.getElem?_map] at e
  cases hd : (itemsT w)[i]? with
  | none => rw [hd] at e; cases e
  | some d =>
    rw [hd] at e
    have hm : d ∈ itemsT w := List.mem_of_getElem? hd
    have hr : isR n d = true := List.all_eq_true.mp hall d hm
    unfold isR at hr
    simp only [Bool.and_eq_true, decide_eq_true_eq] at hr
    have ex : valI d = x := Option.some.inj e
    omega
theorem drop1 (ns : List Int) : cutV (ns.map V.int) (some 1) none = (ns.drop 1).map V.int := by
  unfold cutV
  have e1 : HT.sIx (ns.map V.int).length 0 (some 1) = min 1 (ns.map V.int).length := HT.sIx_nat _ _ 1
  rw [e1, HT.sIx_none]
  cases ns with
  | nil => rfl
  | cons x l =>
    simp
    exact List.take_of_length_le (by simp)
section
variable {P : Program} {w : World} {K : PySem.W.Frag} {mg : Str → Option Value} {base : Heap} {f : Addr} {fd : FuncData}
abbrev spRest : Sp := spP fun H vs z => ∃ (lv wv : V) (rows : List PyData) (w : PyData) (r : Int), vs = [lv, wv] ∧ Dq H lv (.tuple rows) ∧ Dq H wv w ∧ wayB (rows.length : Int) r w = true ∧ Good rows ∧ z = .bl (restB rows w)
abbrev sRest : Stmt := top 20
theorem scRest : FnScope ["lists", "way"] ["lists", "way"] (defScope sRest) := ⟨rfl, rfl, rfl, by decide +kernel, rfl, by decide +kernel, by decide +kernel⟩
theorem ok_rest (F : FnP K "has_let_rest" sRest f fd) : FnOk P w K mg base CX0 1 f fd ["lists", "way"] spRest := by
  refine F.ok scRest (fun vs H Q E h => ?_) (fun cdv A outer s H vs Q E hr h => ?_)
  · obtain ⟨z, ⟨lv, wv, rows, w, r, rfl, _⟩, _⟩ := h
    rfl
  · obtain ⟨z, ⟨lv, wv, rows, w, r, rfl, hl, hw, hway, hg, rfl⟩, k⟩ := h
    have hu : (A.deeper (envOfC "has_let_rest" (defScope sRest) s.heap.objs.size f cdv)).units + 66 < cLine := by have := hr.un; omega
    refine ⟨_, pss_one (ps_ret (pe_or (pe_cmpR op_eq (pe_ix ix_tup (pv 1) pe_int (fun _ _ => rfl)) pe_int (nomark _)) (pe_one (pe_cmpR (op_inU hu) (pe_slice sl_tupA (pv 1) (po_some pe_int) po_none) (pe_ix ix_tup (pv 0) (pe_ix ix_tup (pv 1) pe_int (fun _ _ => rfl)) (fun _ _ => rfl)) rfl)))), ?_⟩
    obtain ⟨ew, _, h2, _, _, _, _⟩ := way_ints hway
    unfold restB at k
    have hn1 : ∃ j, (rts w)[1]? = some j := ⟨_, List.getElem?_eq_getElem (by omega)⟩
    obtain ⟨j, hj⟩ := hn1
    obtain ⟨hj0, hjn⟩ := way_at hway hj
    have ejd : (rts w).getD 1 0 = j := by rw [List.getD_eq_getElem?_getD, hj]; rfl
    rw [ejd] at k
    generalize rts w = ns at *
    subst ew
    obtain ⟨a, xs, rfl, ha, hx⟩ := hw.tupI fun d hd es z => by
      obtain ⟨i, _, ei⟩ := List.mem_map.mp hd
      rw [← ei] at z
      cases z
    · have ex := hx.int_inv
      subst ex
      obtain ⟨b, ys, rfl, hb, hy⟩ := hl.seqT (K := K)
      · have v0 : Ev (tVar 0) (start ["lists", "way"] [.ref b, .ref a]) H (.ref b) := ev_var rfl
        have v1 : Ev (tVar 1) (start ["lists", "way"] [.ref b, .ref a]) H (.ref a) := ev_var rfl
        have hat : atI (ns.map V.int) 1 = some (.int j) := atI_nat (j := 1) (by rw [List.getElem?_map, hj]; rfl)
        have i1 : Ev (tOp (rIxT K) (tVar 1) (tC (.int 1))) (start ["lists", "way"] [.ref b, .ref a]) H (.int j) := ev_op v1 ev_c (rv_ixT (st_of ha) hat)
        have ed : decide (V.int j = V.int 0) = decide (j = 0) := by rw [decide_eq_decide]; exact ⟨fun z => by injection z, fun z => by rw [z]⟩
        refine s_ret (ev_is (ev_orV (a := decide (V.int j = V.int 0)) (ev_op i1 ev_c (rv_eq rfl)) fun hne => ?_) (by rw [ed])) k
        have hjl : j.toNat < rows.length := by omega
        have hrow : rows[j.toNat]? = some rows[j.toNat] := List.getElem?_eq_getElem hjl
        have hgd : rows.getD j.toNat .none = rows[j.toNat] := by rw [List.getD_eq_getElem?_getD, hrow]; rfl
        obtain ⟨ws, ew, lay, _⟩ := row_lay (hg _ _ hrow)
        obtain ⟨rv, hrv, hdr⟩ := hy.at hrow
        rw [hgd, ew]
        rw [ew] at hdr
        have hat2 : atI ys j = some rv := by
          have q := atI_nat (j := j.toNat) hrv
          rw [Int.toNat_of_nonneg hj0] at q
          exact q
        intro H1 e Q2 q
        refine es_sl (K := K) v1 (eo_some ev_c) eo_none ha H1 e _ fun p H2 e2 hp => ?_
        rw [drop1] at hp
        refine ev_op (Ev.mono (e.trans e2) v0) (Ev.mono (e.trans e2) i1) (rv_ixT (hb _ (e.trans e2)) hat2) H2 (Ex.refl H2) _ fun H3 e3 => ?_
        refine ⟨.tuple ((ns.drop 1).map PyData.int), ws, .tup (st_of (e3 _ _ hp)) (DqA.dp (lay_ints _) (DqA.ints _)), Dq.dp (by simpa [PyData.canLay0] using lay) (hdr.mono ((e.trans e2).trans e3)), shaped_ints _, lay, q H3 (e2.trans e3)⟩
end
end Wk

set_option Elab.async false
set_option linter.all false
set_option maxRecDepth 100000
set_option maxHeartbeats 2000000
namespace Wk
open PySem PySem.Spec PyProof.Rows L2 Evl
/-- what the text tells of an error class with one field, at C, its __init__ at fI -/
structure Err (P : Program) (w : World) (K : PySem.W.Frag) (mg : Str → Option Value) (base : Heap) (x : Str) (C : Addr) : Prop where
  g : mg x = some (.ref C)
  oex : OexC K C
  xf : XfC K C
  no : PySem.W.findIn K (.ref C) "router" = some none
  te : PySem.W.exmOne K (.ref C) (.ref C) = some true
  ini : ∃ (fI : Addr) (fd : FuncData), PySem.W.findIn K (.ref C) "__init__" = some (some (.ref fI)) ∧ PySem.W.typeIn K (.ref fI) = some (.type "function") ∧ FnOk P w K mg base CX0 1 fI fd ["self", "router"] (spXI C) ∧ Binds K fd ["self", "router"] []
theorem pmk_err {X : Cx} {x : Str} {C : Addr} {e : Expr} {ta : TA} {p pos : Pos} (T : Err X.prog X.w X.K X.mg X.base x C) (hr : Room 2 X.A) (hg : Gl X x) (ha : PA X [e] ta)
    (hdb : (x == ("__debug__" : Str)) = false := by decide) (he : starEach [e] X.env = (false, eval e X.env) :: starEach [] X.env := by rfl) (hpl : (backTo pos (starEach [] X.env)).any (·.1) = false := by rfl) : PMk X (.Call (.Name x p) [e] [] pos) (tMkO C (spXI C) [] ta) := by
  obtain ⟨fI, fd, h1, h2, h3, h4⟩ := T.ini
  exact pmk_oex T.oex h1 h2 h3 hr h4 .nil pass0 hg T.g ha hdb he hpl
/-- the first router whose item is wrong; the first with a way whose rest is not let -/
def fb (n : Int) : Nat → List PyData → Option Int
  | _, [] => none
  | i, d :: ds => if rowB n (i : Int) d = true then fb n (i + 1) ds else some (i : Int)
def sb (rows : List PyData) : Nat → List PyData → Option Int
  | _, [] => none
  | i, d :: ds => if (itemsT d).all (restB rows) = true then sb rows (i + 1) ds else some (i : Int)
def due2 (rows : List PyData) : Option Int := match fb (rows.length : Int) 0 rows with
  | some r => some r
  | none => sb rows 0 rows
def dueD (d : PyData) : Option Int := if isTu d = true ∧ 2 ≤ (itemsT d).length ∧ (itemsT d).length ≤ 8 then due2 (itemsT d) else some (-1)
theorem fb_drop {n : Int} : ∀ {ds : List PyData} {i j : Nat} {d : PyData}, ds[i]? = some d → fb n (j + i) (ds.drop i) = if rowB n ((j + i : Nat) : Int) d = true then fb n (j + (i + 1)) (ds.drop (i + 1)) else some ((j + i : Nat) : Int)
  | [], i, j, d, h => by simp at h
  | x :: ds, 0, j, d, h => by
    simp at h
    subst h
    rfl
  | x :: ds, i + 1, j, d, h => by
    have q := fb_drop (n := n) (ds := ds) (i := i) (j := j + 1) (d := d) (by simpa using h)
    simp only [List.drop_succ_cons]
    rw [show j + (i + 1) = j + 1 + i by omega, show j + (i + 1 + 1) = j + 1 + (i + 1) by omega]
    exact q
theorem sb_drop {rows : List PyData} : ∀ {ds : List PyData} {i j : Nat} {d : PyData}, ds[i]? = some d → sb rows (j + i) (ds.drop i) = if (itemsT d).all (restB rows) = true then sb rows (j + (i + 1)) (ds.drop (i + 1)) else some ((j + i : Nat) : Int)
  | [], i, j, d, h => by simp at h
  | x :: ds, 0, j, d, h => by
    simp at h
    subst h
    rfl
  | x :: ds, i + 1, j, d, h => by
    have q := sb_drop (rows := rows) (ds := ds) (i := i) (j := j + 1) (d := d) (by simpa using h)
    simp only [List.drop_succ_cons]
    rw [show j + (i + 1) = j + 1 + i by omega, show j + (i + 1 + 1) = j + 1 + (i + 1) by omega]
    exact q
theorem fb_good {n : Int} : ∀ {ds : List PyData} {j : Nat}, fb n j ds = none → ∀ (i : Nat) (d : PyData), ds[i]? = some d → rowB n ((j + i : Nat) : Int) d = true
  | [], _, _, i, d, h => by simp at h
  | x :: ds, j, hf, i, d, h => by
    unfold fb at hf
    by_cases hx : rowB n (j : Int) x = true
    · rw [if_pos hx] at hf
      cases i with
      | zero => simp at h; subst h; exact hx
      | succ i =>
        have q := fb_good hf i d (by simpa using h)
        rw [show j + (i + 1) = j + 1 + i by omega]
        exact q
    · rw [if_neg hx] at hf
      cases hf
theorem fb_Good {rows : List PyData} (h : fb (rows.length : Int) 0 rows = none) : Good rows := fun i row e => by
  have q := fb_good h i row e
  rw [Nat.zero_add] at q
  exact q
theorem g_two {i j : Nat} {x y : V} {σ : L2.St} {H : Hp} {k : L2.St → Hp → Prop} (h : k ((σ.set i (some x)).set j (some y)) H) : gCons (gName i) (gCons (gName j) gNil) [x, y] σ H k := ⟨_, _, rfl, ⟨_, _, rfl, ⟨rfl, h⟩⟩⟩
section
variable {P : Program} {w : World} {K : PySem.W.Frag} {mg : Str → Option Value} {base : Heap} {f : Addr} {fd : FuncData}
abbrev spSize : Sp := spP fun H vs z => ∃ (a : Int) (v : V) (d : PyData), vs = [.int a, v] ∧ Dq H v d ∧ z = .bl (isI d && (decide (a ≤ valI d) && decide (valI d ≤ 8)))
abbrev sSize : Stmt := top 12
theorem scSize : FnScope ["least", "thing"] ["least", "thing"] (defScope sSize) := ⟨rfl, rfl, rfl, by decide +kernel, rfl, by decide +kernel, by decide +kernel⟩
theorem ok_size {t8 : Tok} (hM : mg "MOST_ROUTERS" = some (.int 8 t8)) (C : Cal P w K mg base "is_between" ["least", "most", "thing"] 2 spBetween) (F : FnP K "is_size" sSize f fd) : FnOk P w K mg base CX0 3 f fd ["least", "thing"] spSize := by
  refine F.ok scSize (fun vs H Q E h => ?_) (fun cdv A outer s H vs Q E hr h => ?_)
  · obtain ⟨z, ⟨n, v, d, rfl, _⟩, _⟩ := h
    rfl
  · obtain ⟨z, ⟨n, v, d, rfl, hd, rfl⟩, k⟩ := h
    refine ⟨_, pss_one (ps_ret (pe_cal C hr (by rfl) (pa_cons (pv 0) (pa_cons (pe_glob (v := .int 8) (by rfl) hM ⟨_, rfl⟩) (pa_cons (pv 1) pa_nil))))), ?_⟩
    exact s_ret (ev_call (ea_cons (ev_var rfl) (ea_cons ev_c (ea_cons (ev_var rfl) ea_nil))) (spP_v fun H1 e => ⟨n, 8, v, d, rfl, hd.mono e, rfl⟩)) k
def spRefuse (CB : Addr) : Sp := fun vs H Q E => ∃ v d, vs = [v] ∧ Dq H v d ∧ (dueD d = none → ∀ H', Ex H H' → Q .non H') ∧ ∀ r, dueD d = some r → ∀ dx H', H dx = none → Ex H H' → H' dx = some (.xd [("router", .int r)]) → E (.ref CB) (some dx) H'
abbrev sRefuse : Stmt := top 18
abbrev nRefuse : List Str := ["lists", "router", "item", "way"]
theorem scRefuse : FnScope nRefuse ["lists"] (defScope sRefuse) := ⟨rfl, rfl, rfl, by decide +kernel, rfl, by decide +kernel, by decide +kernel⟩
theorem ok_refuse {CB : Addr} (B : Bl mg) {t2 : Tok} (hM : mg "LEAST_ROUTERS" = some (.int 2 t2)) (CS : Cal P w K mg base "is_size" ["least", "thing"] 3 spSize) (T : Err P w K mg base "BadWishes" CB) (C : Cal P w K mg base "is_way_list" ["size", "router", "thing"] 6 spRow) (C2 : Cal P w K mg base "has_let_rest" ["lists", "way"] 1 spRest)
    (F : FnP K "refuse_wrong_lists" sRefuse f fd) : FnOk P w K mg base (L2.CX P w) 7 f fd ["lists"] (spRefuse CB) := by
  refine F.ok scRefuse (fun vs H Q E h => ?_) (fun cdv A outer s H vs Q E hr h => ?_)
  · obtain ⟨v, d, rfl, _⟩ := h
    rfl
  · obtain ⟨v, d, rfl, hd, kN, kE⟩ := h
    have hr2 : Room 2 _ := hr.mono (by decide)
    have hr1 : Room 1 _ := hr.mono (by decide)
    refine ⟨_, pss_cons (ps_if (PW.pt (pw_or (pt_not (pt_val (pe_callB call_isi (by rfl) B.isi boot_isinstance (pa_cons (pv 0) (pa_cons (pe_bltn (v := .ty "tuple") (by rfl) B.tuple PyProof.Rows.boot_tuple rfl) pa_nil)))))
        (pw_or1 (pt_not (pt_val (pe_cal CS hr (by rfl) (pa_cons (pe_glob (v := .int 2) (by rfl) hM ⟨_, rfl⟩) (pa_cons (pe_callB call_len_seq (by rfl) B.len PySem.boot_len (pa_cons (pv 0) pa_nil)) pa_nil)))))))) (pss_one (ps_raise rfl (takes_of rfl rfl rfl rfl) (pmk_err T hr2 (by rfl) (pa_cons (pe_un un_neg pe_int) pa_nil)))) pss_nil)
      (pss_cons (ps_for (passes_of rfl) rfl (pi_enumT (by rfl) B.enum (pa_cons (pv 0) pa_nil)) (pg_tup rfl (pgs_cons (pg_name (i := 1) scRefuse.nd rfl (.inl rfl)) (pgs_cons (pg_name (i := 2) scRefuse.nd rfl (.inl rfl)) pgs_nil)))
        (pss_one (ps_if (pt_not (pt_val (pe_cal C hr (by rfl) (pa_cons (pe_callB call_len_seq (by rfl) B.len PySem.boot_len (pa_cons (pv 0) pa_nil)) (pa_cons (pv 1) (pa_cons (pv 2) pa_nil)))))) (pss_one (ps_raise rfl (takes_of rfl rfl rfl rfl) (pmk_err T hr2 (by rfl) (pa_cons (pv 1) pa_nil)))) pss_nil)))
      (pss_one (ps_for (passes_of rfl) rfl (pi_enumT (by rfl) B.enum (pa_cons (pv 0) pa_nil)) (pg_tup rfl (pgs_cons (pg_name (i := 1) scRefuse.nd rfl (.inl rfl)) (pgs_cons (pg_name (i := 2) scRefuse.nd rfl (.inl rfl)) pgs_nil)))
        (pss_one (ps_if (pt_not (pt_val (pe_callB (cr_all rfl) (by rfl) B.all boot_all (pa_cons (pe_lc (own := [("way", 3)]) (g := gName 3) (tt := tYes) rfl scRefuse.nd (pi_tup (pv 2)) (blkOk_by (N := nRefuse) (sc := defScope sRefuse) (by decide +kernel))
          (fun _ _ _ _ _ => pg_name (i := 3) scRefuse.nd rfl (Or.inl rfl)) (fun _ _ _ _ _ => pts_nil) (fun _ _ _ _ _ => pe_cal C2 hr1 (by rfl) (pa_cons (pv 0) (pa_cons (pv 3) pa_nil)))) pa_nil)))) (pss_one (ps_raise rfl (takes_of rfl rfl rfl rfl) (pmk_err T hr2 (by rfl) (pa_cons (pv 1) pa_nil)))) pss_nil))))), ?_⟩
    have v0 : ∀ {H1 : Hp} {o1 o2 o3 : Option V}, Ev (tVar 0) [some v, o1, o2, o3] H1 v := ev_var rfl
    have hlen : ∀ {H1 : Hp} {o1 o2 o3 : Option V}, Ex H H1 → isTu d = true → Ev (tCB (rLenS K) (tCons (tVar 0) tNil)) [some v, o1, o2, o3] H1 (.int ((itemsT d).length : Int)) := fun {H1 o1 o2 o3} e ht => by
      cases d <;> first | (simp [isTu] at ht; done) | skip
      rename_i ds
      obtain ⟨a, xs, rfl, h1, h2⟩ := hd.seqT (K := K)
      rw [show (itemsT (.tuple ds)).length = xs.length from h2.length.symm]
      exact ev_lenT v0 (h1 _ e)
    refine q_when (b := !isTu d || !(decide (2 ≤ ((itemsT d).length : Int)) && decide (((itemsT d).length : Int) ≤ 8))) (et_or (et_not (et_B (ev_isi (v0 (H1 := H)) hd (kit_tup d)))) fun ht => et_not (et_B (ev_call (ea_cons ev_c (ea_cons (hlen (Ex.refl H) (by simpa using ht)) ea_nil)) (spP_v fun H1 e => ⟨2, _, _, rfl, .int _, rfl⟩))))
      (fun hb H1 e => ?_) (fun hb H1 e => ?_)
    · refine mk_err (ev_un ev_c ru_neg) fun dx H' h0 e' hx => kE (-1) ?_ dx H' (fresh_back e h0) (e.trans e') hx
      unfold dueD
      rw [if_neg]
      intro z
      obtain ⟨z1, z2, z3⟩ := z
      simp [z1] at hb
      omega
    · have ht : isTu d = true := by simp at hb; exact hb.1
      have hl : 2 ≤ (itemsT d).length ∧ (itemsT d).length ≤ 8 := by simp [ht] at hb; omega
      have edue : dueD d = due2 (itemsT d) := by unfold dueD; rw [if_pos ⟨ht, hl⟩]
      rw [edue] at kN kE
      cases d <;> first | (simp [isTu] at ht; done) | skip
      rename_i rows
      have hdq := hd
      obtain ⟨a, xs, rfl, h1, h2⟩ := hd.seqT (K := K)
      have hlen' : ∀ {H1 : Hp} {o1 o2 o3 : Option V}, Ex H H1 → Ev (tCB (rLenS K) (tCons (tVar 0) tNil)) [some (.ref a), o1, o2, o3] H1 (.int (rows.length : Int)) := fun {_ _ _ _} e => hlen e rfl
      have kN' : due2 rows = none → ∀ H', Ex H H' → Q .non H' := kN
      have kE' : ∀ r, due2 rows = some r → ∀ dx H', H dx = none → Ex H H' → H' dx = some (.xd [("router", .int r)]) → E (.ref CB) (some dx) H' := kE
      have hl' : 2 ≤ rows.length ∧ rows.length ≤ 8 := hl
      clear kN kE hlen edue hl hb
      have hxl := h2.length
      refine q_forEn (K := K) (v0 (H1 := H1)) (h1 _ e) (fun i σ H' => Ex H H' ∧ (∃ o1 o2, σ = [some (.ref a), o1, o2, none]) ∧ fb (rows.length : Int) 0 rows = fb (rows.length : Int) i (rows.drop i)) (fun H2 e2 => ⟨e.trans e2, ⟨none, none, rfl⟩, rfl⟩) (fun i σ H' _ p => h1 _ p.1) ?_ ?_
      · rintro i z T σ H3 hz ⟨e3, ⟨o1, o2, rfl⟩, hf⟩ hT
        obtain ⟨dz, ed1, ed2⟩ := h2.get hz
        have e4 : Ex H3 (upd H3 T (.tup [.int (i : Nat), z])) := Ex.new hT
        refine ⟨T, _, rfl, st_of upd_same, rfl, g_two ?_⟩
        change tIfS _ _ _ _ [some (.ref a), some (.int (i : Nat)), some z, none] _
        have hdrop := fb_drop (n := (rows.length : Int)) (j := 0) ed1
        rw [Nat.zero_add, Nat.zero_add] at hdrop
        refine s_when (b := !rowB (rows.length : Int) (i : Int) dz) (et_not (et_B (ev_call (ea_cons (hlen' (e3.trans e4)) (ea_cons (ev_var rfl) (ea_cons (ev_var rfl) ea_nil))) (spP_v fun H5 e5 => ⟨_, _, z, dz, rfl, ed2.mono ((e3.trans e4).trans e5), rfl⟩)))) (fun hb H5 e5 => ?_) (fun hb H5 e5 => ?_)
        · refine mk_err (ev_var rfl) fun dx H' h0 e' hx => kE' (i : Int) ?_ dx H' (fresh_back ((e3.trans e4).trans e5) h0) (((e3.trans e4).trans e5).trans e') hx
          have hb' : rowB (rows.length : Int) (i : Int) dz = false := by simpa using hb
          unfold due2
          rw [hf, hdrop, hb']
          rfl
        · have hb' : rowB (rows.length : Int) (i : Int) dz = true := by simpa using hb
          refine ⟨(e3.trans e4).trans e5, ⟨_, _, rfl⟩, ?_⟩
          rw [hf, hdrop, hb']
          rfl
      · rintro σ H3 ⟨e3, ⟨o1, o2, rfl⟩, hf⟩
        have hfn : fb (rows.length : Int) 0 rows = none := by
          rw [hf, hxl, List.drop_length]
          rfl
        have hG := fb_Good hfn
        have edue : due2 rows = sb rows 0 rows := by unfold due2; rw [hfn]
        rw [edue] at kN' kE'
        refine s_forEn (K := K) (v0 (H1 := H3)) (h1 _ e3) (fun i σ H' => Ex H H' ∧ (∃ o1 o2, σ = [some (.ref a), o1, o2, none]) ∧ sb rows 0 rows = sb rows i (rows.drop i)) (fun H4 e4 => ⟨e3.trans e4, ⟨_, _, rfl⟩, rfl⟩) (fun i σ H' _ p => h1 _ p.1) ?_ ?_
        · rintro i z T σ H5 hz ⟨e5, ⟨p1, p2, rfl⟩, hs⟩ hT
          obtain ⟨dz, ed1, ed2⟩ := h2.get hz
          have e6 : Ex H5 (upd H5 T (.tup [.int (i : Nat), z])) := Ex.new hT
          refine ⟨T, _, rfl, st_of upd_same, rfl, g_two ?_⟩
          change tIfS _ _ _ _ [some (.ref a), some (.int (i : Nat)), some z, none] _
          have hdrop := sb_drop (rows := rows) (j := 0) ed1
          rw [Nat.zero_add, Nat.zero_add] at hdrop
          obtain ⟨ws, ew, lay, hwl, hways, hw0⟩ := row_lay (hG i dz ed1)
          subst ew
          have hwall : ∀ w ∈ ws, wayB (rows.length : Int) (i : Int) w = true := fun w hw => by
            by_cases hi0 : (i : Int) = 0
            · rw [hw0 hi0] at hw
              cases hw
            · exact List.all_eq_true.mp (hways hi0) w hw
          have ed3 := ed2.mono (e5.trans e6)
          obtain ⟨az, zs, ez9, hz1, hz2⟩ := ed3.seqT (K := K)
          subst ez9
          · have hzl := hz2.length
            refine s_when (b := !ws.all (restB rows)) (et_not (et_B ?_)) (fun hb H7 e7 => ?_) (fun hb H7 e7 => ?_)
            · have q := ev_allT (K := K) (H := upd H5 T (.tup [.int (i : Nat), .ref az])) (j := 3) (vs := [3]) (σ := [some (.ref a), some (.int (i : Nat)), some (.ref az), none]) (tl := tVar 2) (te := tCall spRest [] E0 (tCons (tVar 0) (tCons (tVar 3) tNil))) (fun k => ((ws[k]?).map (restB rows)).getD false) (ev_var rfl) (hz1 _ (Ex.refl _)) (by omega) (fun x => rfl)
                (fun k x H8 e8 hx => by
                  obtain ⟨dx, e9, e10⟩ := hz2.get hx
                  rw [e9]
                  exact ev_call (ea_cons (ev_var rfl) (ea_cons (ev_var rfl) ea_nil)) (spP_v fun H9 e11 => ⟨.ref a, x, rows, dx, (i : Int), rfl, hdq.mono (((e5.trans e6).trans e8).trans e11), (e10.mono e8).mono e11, hwall dx (List.mem_of_getElem? e9), hG, rfl⟩))
              rw [hzl, all_get] at q
              exact q
            · refine mk_err (ev_var rfl) fun dx H' h0 e' hx => kE' (i : Int) ?_ dx H' (fresh_back ((e5.trans e6).trans e7) h0) (((e5.trans e6).trans e7).trans e') hx
              have hb' : ws.all (restB rows) = false := by simpa using hb
              rw [hs, hdrop, show (itemsT (.tuple ws)).all (restB rows) = false from hb']
              rfl
            · have hb' : ws.all (restB rows) = true := by simpa using hb
              refine ⟨(e5.trans e6).trans e7, ⟨_, _, rfl⟩, ?_⟩
              rw [hs, hdrop, show (itemsT (.tuple ws)).all (restB rows) = true from hb']
              rfl
        · rintro σ H5 ⟨e5, ⟨p1, p2, rfl⟩, hs⟩
          refine kN' ?_ H5 e5
          rw [hs, hxl, List.drop_length]
          rfl
end
end Wk

set_option Elab.async false
set_option linter.all false
set_option maxRecDepth 100000
set_option maxHeartbeats 2000000
namespace Wk
open PySem PySem.Spec PyProof.Rows L2 Evl
abbrev FnM (K : PySem.W.Frag) (x q : Str) (st : Stmt) (f : Addr) (fd : FuncData) : Prop := FunD K x q (defArgs st) (defBody st) (defScope st) [] [] f fd
/-- the fields of wishes -/
def wf (n : Int) (v : V) : List (Str × V) := putF "_lists" v (putF "size" (.int n) [])
theorem wf_size (n : Int) (v : V) : (wf n v).lookup ("size" : Str) = some (.int n) := by
  unfold wf
  rw [lookup_putF, if_neg (by decide +kernel), lookup_putF, if_pos rfl]
theorem wf_lists (n : Int) (v : V) : (wf n v).lookup ("_lists" : Str) = some v := by
  unfold wf
  rw [lookup_putF, if_pos rfl]
theorem wf_no (n : Int) (v : V) {m : Str} (h1 : ¬ m = "_lists") (h2 : ¬ m = "size") : (wf n v).lookup m = none := by
  unfold wf
  rw [lookup_putF, if_neg h1, lookup_putF, if_neg h2]
  rfl
section
variable {P : Program} {w : World} {K : PySem.W.Frag} {mg : Str → Option Value} {base : Heap} {f : Addr} {fd : FuncData}
abbrev sXN : Stmt := inClass (top 3) 0
abbrev sXB : Stmt := inClass (top 4) 0
theorem scXN : FnScope ["self", "router"] ["self", "router"] (defScope sXN) := ⟨rfl, rfl, rfl, by decide +kernel, rfl, by decide +kernel, by decide +kernel⟩
theorem scXB : FnScope ["self", "router"] ["self", "router"] (defScope sXB) := ⟨rfl, rfl, rfl, by decide +kernel, rfl, by decide +kernel, by decide +kernel⟩
theorem ok_xn {C : Addr} (T : OexC K C) (no : PySem.W.findIn K (.ref C) "router" = some none) (F : FnM K "__init__" "NoRouter.__init__" sXN f fd) : FnOk P w K mg base CX0 1 f fd ["self", "router"] (spXI C) := by
  refine F.ok scXN (fun vs H Q E h => ?_) (fun cdv A outer s H vs Q E hr h => ?_)
  · obtain ⟨a, y, rfl, _⟩ := h
    rfl
  · obtain ⟨a, y, rfl, ha, k⟩ := h
    exact ⟨_, pss_one (ps_ost (pv 0) (pv 1)), y, rfl, .ref a, rfl, a, C, rfl, T, no, .inl ⟨ha, k⟩⟩
theorem ok_xb {C : Addr} (T : OexC K C) (no : PySem.W.findIn K (.ref C) "router" = some none) (F : FnM K "__init__" "BadWishes.__init__" sXB f fd) : FnOk P w K mg base CX0 1 f fd ["self", "router"] (spXI C) := by
  refine F.ok scXB (fun vs H Q E h => ?_) (fun cdv A outer s H vs Q E hr h => ?_)
  · obtain ⟨a, y, rfl, _⟩ := h
    rfl
  · obtain ⟨a, y, rfl, ha, k⟩ := h
    exact ⟨_, pss_one (ps_ost (pv 0) (pv 1)), y, rfl, .ref a, rfl, a, C, rfl, T, no, .inl ⟨ha, k⟩⟩
/-! Wishes.__init__ -/
structure CalX (P : Program) (w : World) (K : PySem.W.Frag) (mg : Str → Option Value) (base : Heap) (x : Str) (ps : List Str) (k : Nat) (sp : Sp) : Prop where
  ex : ∃ (f : Addr) (fd : FuncData), FnOk P w K mg base (L2.CX P w) k f fd ps sp ∧ mg x = some (.ref f) ∧ PySem.W.keepIn K (.ref f) = true ∧ Binds K fd ps []
def spWI (CW CB : Addr) : Sp := fun vs H Q E => ∃ (G : Hp) (p dx : Addr) (v : V) (d : PyData), vs = [.ref p, v] ∧ H p = some (.ins CW dx []) ∧ Ex G H ∧ G p = none ∧ Dq G v d ∧
  (dueD d = none → ∀ H', Ex G H' → H' p = some (.ins CW dx (wf ((itemsT d).length : Int) v)) → Q .non H') ∧ ∀ r, dueD d = some r → ∀ dx H', H dx = none → Ex H H' → H' dx = some (.xd [("router", .int r)]) → E (.ref CB) (some dx) H'
abbrev sWI : Stmt := inClass (top 17) 0
theorem scWI : FnScope ["self", "lists"] ["self", "lists"] (defScope sWI) := ⟨rfl, rfl, rfl, by decide +kernel, rfl, by decide +kernel, by decide +kernel⟩
theorem due_none {d : PyData} (h : dueD d = none) : isTu d = true ∧ 2 ≤ (itemsT d).length ∧ (itemsT d).length ≤ 8 ∧ due2 (itemsT d) = none := by
  unfold dueD at h
  by_cases c : isTu d = true ∧ 2 ≤ (itemsT d).length ∧ (itemsT d).length ≤ 8
  · rw [if_pos c] at h
    exact ⟨c.1, c.2.1, c.2.2, h⟩
  · rw [if_neg c] at h
    cases h
structure WTx (K : PySem.W.Frag) (mg : Str → Option Value) (CW : Addr) : Prop where
  cl : Cls K CW
  nS : NoAttr K CW "size"
  nL : NoAttr K CW "_lists"
  g : mg "Wishes" = some (.ref CW)
theorem ok_wi {CW CB : Addr} (B : Bl mg) (T : WTx K mg CW) (C : CalX P w K mg base "refuse_wrong_lists" ["lists"] 7 (spRefuse CB)) (F : FnM K "__init__" "Wishes.__init__" sWI f fd) : FnOk P w K mg base (L2.CX P w) 8 f fd ["self", "lists"] (spWI CW CB) := by
  obtain ⟨fR, fdR, FR, gR, kR, bR⟩ := C.ex
  refine F.ok scWI (fun vs H Q E h => ?_) (fun cdv A outer s H vs Q E hr h => ?_)
  · obtain ⟨G, p, dx, v, d, rfl, _⟩ := h
    rfl
  · obtain ⟨G, p, dx, v, d, rfl, hp, eG, gp, hd, kN, kE⟩ := h
    refine ⟨_, pss_cons (ps_expr (pe_call FR hr (by rfl) gR kR bR .nil (passes_call (takes_of rfl rfl rfl rfl) (fun _ _ _ _ h => h)) (pa_cons (pv 1) pa_nil)))
      (pss_cons (ps_fld (pv 0) (pe_callB call_len_seq (by rfl) B.len PySem.boot_len (pa_cons (pv 1) pa_nil)) rfl) (pss_one (ps_fld (pv 0) (pv 1) rfl))), ?_⟩
    refine ⟨v, rfl, v, d, rfl, hd.mono eG, fun hn H1 e1 => ?_, kE⟩
    obtain ⟨ht, hl2, hl8, hdu⟩ := due_none hn
    have hp1 := e1 _ _ hp
    have hd1 := hd.mono (eG.trans e1)
    have kN' := kN hn
    cases d <;> first | (simp [isTu] at ht; done) | skip
    rename_i rows
    obtain ⟨a, xs, uo, rfl, h1, hs1, hfm, h2⟩ := hd1.seqU
    have npa : a ≠ p := fun z => by
      rw [z, hp1] at h1
      have z2 := Option.some.inj h1
      rcases hfm with e | ⟨o, e⟩ <;> (rw [e] at z2; cases z2)
    refine ⟨.ref a, rfl, a, xs, rfl, .inr (hs1 _ _ h1), .ref p, rfl, p, CW, dx, [], rfl, hp1, T.cl, T.nS, (by show 0 < 1000; decide), ?_⟩
    refine ⟨.ref a, rfl, .ref p, rfl, p, CW, dx, _, rfl, upd_same, T.cl, T.nL, (by show 1 < 1000; decide), ?_⟩
    refine kN' _ (fun b o hb => ?_) ?_
    · have nb : b ≠ p := fun z => by rw [z, gp] at hb; cases hb
      rw [upd_ne nb, upd_ne nb]
      exact e1 _ _ (eG _ _ hb)
    · rw [upd_same, h2.length]
      rfl
/-! refuse_no_router -/
def spNoRt (CN : Addr) : Sp := fun vs H Q E => ∃ (n : Int) (v : V) (d : PyData), vs = [.int n, v] ∧ Dq H v d ∧ (isR n d = true → ∀ H', Ex H H' → Q .non H') ∧ (isR n d = false → ∀ dx H', H dx = none → Ex H H' → H' dx = some (.xd [("router", v)]) → E (.ref CN) (some dx) H')
abbrev sNoRt : Stmt := top 11
theorem scNoRt : FnScope ["size", "thing"] ["size", "thing"] (defScope sNoRt) := ⟨rfl, rfl, rfl, by decide +kernel, rfl, by decide +kernel, by decide +kernel⟩
theorem ok_noRt {CN : Addr} (TN : Err P w K mg base "NoRouter" CN) (C : Cal P w K mg base "is_router" ["size", "thing"] 3 spRouter) (F : FnP K "refuse_no_router" sNoRt f fd) : FnOk P w K mg base (L2.CX P w) 4 f fd ["size", "thing"] (spNoRt CN) := by
  refine F.ok scNoRt (fun vs H Q E h => ?_) (fun cdv A outer s H vs Q E hr h => ?_)
  · obtain ⟨n, v, d, rfl, _⟩ := h
    rfl
  · obtain ⟨n, v, d, rfl, hd, kQ, kE⟩ := h
    have hr2 : Room 2 _ := hr.mono (by decide)
    refine ⟨_, pss_one (ps_if (pt_not (pt_val (pe_cal C hr (by rfl) (pa_cons (pv 0) (pa_cons (pv 1) pa_nil))))) (pss_one (ps_raise rfl (takes_of rfl rfl rfl rfl) (pmk_err TN hr2 (by rfl) (pa_cons (pv 1) pa_nil)))) pss_nil), ?_⟩
    refine s_when (b := !isR n d) (et_not (et_B (ev_call (ea_cons (ev_var rfl) (ea_cons (ev_var rfl) ea_nil)) (spP_v fun H1 e => ⟨_, v, d, rfl, hd.mono e, rfl⟩)))) (fun hb H1 e => ?_) (fun hb H1 e => ?_)
    · exact mk_err (ev_var rfl) fun dx H' h0 e' hx => kE (by simpa using hb) dx H' (fresh_back e h0) (e.trans e') hx
    · exact kQ (by simpa using hb) H1 e
/-! Wishes.ways -/
def spWays (CW CN : Addr) : Sp := fun vs H Q E => ∃ (p dx : Addr) (lv v : V) (d : PyData) (rows : List PyData), vs = [.ref p, v] ∧ H p = some (.ins CW dx (wf (rows.length : Int) lv)) ∧ Dq H lv (.tuple rows) ∧ Dq H v d ∧
  (isR (rows.length : Int) d = true → ∀ v' row H', rows[(valI d).toNat]? = some row → Dq H v' row → Ex H H' → Q v' H') ∧ (isR (rows.length : Int) d = false → ∀ dx H', H dx = none → Ex H H' → H' dx = some (.xd [("router", v)]) → E (.ref CN) (some dx) H')
abbrev sWays : Stmt := inClass (top 17) 2
theorem scWays : FnScope ["self", "router"] ["self", "router"] (defScope sWays) := ⟨rfl, rfl, rfl, by decide +kernel, rfl, by decide +kernel, by decide +kernel⟩
theorem ok_ways {CW CN : Addr} (T : WTx K mg CW) (C : CalX P w K mg base "refuse_no_router" ["size", "thing"] 4 (spNoRt CN)) (F : FnM K "ways" "Wishes.ways" sWays f fd) : FnOk P w K mg base (L2.CX P w) 5 f fd ["self", "router"] (spWays CW CN) := by
  obtain ⟨fR, fdR, FR, gR, kR, bR⟩ := C.ex
  refine F.ok scWays (fun vs H Q E h => ?_) (fun cdv A outer s H vs Q E hr h => ?_)
  · obtain ⟨p, dx, lv, v, d, rows, rfl, _⟩ := h
    rfl
  · obtain ⟨p, dx, lv, v, d, rows, rfl, hp, hl, hd, kQ, kE⟩ := h
    have hr2 : Room 2 _ := hr.mono (by decide)
    refine ⟨_, pss_cons (ps_expr (pe_call FR hr (by rfl) gR kR bR .nil (passes_call (takes_of rfl rfl rfl rfl) (fun _ _ _ _ h => h)) (pa_cons (pe_fld (pv 0) rfl) (pa_cons (pv 1) pa_nil))))
      (pss_one (ps_ret (pe_ix ix_tup (pe_fld (pv 0) rfl) (pv 1) (fun _ _ => rfl)))), ?_⟩
    have v1 : ∀ {H1 : Hp}, Ev (tVar 1) (start ["self", "router"] [.ref p, v]) H1 v := ev_var rfl
    have fS : Ev (tFld K (tVar 0) "size") (start ["self", "router"] [.ref p, v]) H (.int (rows.length : Int)) := fun H1 e Q2 q => ⟨.ref p, rfl, p, CW, dx, _, _, rfl, e _ _ hp, T.cl, T.nS, wf_size _ _, q H1 (Ex.refl H1)⟩
    refine ⟨.ref p, rfl, p, CW, dx, _, _, rfl, hp, T.cl, T.nS, wf_size _ _, v, rfl, _, v, d, rfl, hd, fun hR H1 e => ?_, fun hb dx' H' h0 e' hx => kE hb dx' H' h0 e' hx⟩
    · skip
      have hR' := hR
      unfold isR at hR'
      simp only [Bool.and_eq_true, decide_eq_true_eq] at hR'
      obtain ⟨hi, h0, hn⟩ := hR'
      have ei := isI_eq hi
      generalize valI d = j at *
      subst ei
      cases hd
      obtain ⟨a, xs, rfl, ha, hx⟩ := hl.seqT (K := K)
      · have hjl : j.toNat < rows.length := by omega
        have hrow : rows[j.toNat]? = some rows[j.toNat] := List.getElem?_eq_getElem hjl
        obtain ⟨rv, hrv, hdr⟩ := hx.at hrow
        have hat : atI xs j = some rv := by
          have q := atI_nat (j := j.toNat) hrv
          rw [Int.toNat_of_nonneg h0] at q
          exact q
        have fL : Ev (tFld K (tVar 0) "_lists") (start ["self", "router"] [.ref p, .int j]) H1 (.ref a) := fun H2 e2 Q2 q => ⟨.ref p, rfl, p, CW, dx, _, _, rfl, e2 _ _ (e _ _ hp), T.cl, T.nL, wf_lists _ _, q H2 (Ex.refl H2)⟩
        exact s_ret (ev_op fL v1 (rv_ixT (ha _ e) hat)) fun H2 e2 => kQ hR rv _ H2 hrow hdr (e.trans e2)
end
end Wk

set_option Elab.async false
set_option linter.all false
set_option maxRecDepth 100000
set_option maxHeartbeats 4000000
namespace Wk
open PySem PySem.Spec PyProof.Rows L2 Evl SeqAt
/-! == of a sequence and the empty one: by the lengths alone -/
section
variable {X : Cx}
def rEqEL (K : PySem.W.Frag) : R2 := fun x y H Q => ∃ a b xs, x = .ref a ∧ y = .ref b ∧ SqL K H a xs ∧ SqL K H b [] ∧ Q (.bl xs.isEmpty) H
theorem op_eqEL (hu : X.A.units < cLine) : OpR X (compareOp .Eq) (rEqEL X.K) := fun pins s σ H x y v u Q I rx ry h => by
  obtain ⟨a, b, xs, rfl, rfl, ha, hb, q⟩ := h
  cases rx
  cases ry
  obtain ⟨its, r1, p1, _⟩ := I.list ha
  obtain ⟨its2, r2, p2, _⟩ := I.list hb
  cases r2
  cases r1 with
  | nil => exact eq_listAt (e := fun _ => true) p1.isList p2.isList rfl hu (fun j h1 _ => absurd h1 (by simp)) ⟨.bl true, H, I, rfl, q⟩
  | cons r rr => exact eq_list_lengthsAt p1.isList p2.isList (by simp) hu ⟨.bl false, H, I, rfl, q⟩
def rEqEU (K : PySem.W.Frag) : R2 := fun x y H Q => ∃ a b xs, x = .ref a ∧ y = .ref b ∧ SqT K H a xs ∧ SqT K H b [] ∧ Q (.bl xs.isEmpty) H
theorem op_eqEU (hu : X.A.units < cLine) : OpR X (compareOp .Eq) (rEqEU X.K) := fun pins s σ H x y v u Q I rx ry h => by
  obtain ⟨a, b, xs, rfl, rfl, ha, hb, q⟩ := h
  cases rx
  cases ry
  obtain ⟨its, r1, p1, _⟩ := I.tuple ha
  obtain ⟨its2, r2, p2, _⟩ := I.tuple hb
  cases r2
  refine eq_tupleAt (e := fun _ => true) p1 p2 hu (fun j _ h2 => absurd h2 (by simp)) ⟨.bl xs.isEmpty, H, I, ?_, q⟩
  cases r1 <;> rfl
def rNeEU (K : PySem.W.Frag) : R2 := fun x y H Q => ∃ a b xs, x = .ref a ∧ y = .ref b ∧ SqT K H a xs ∧ SqT K H b [] ∧ Q (.bl (!xs.isEmpty)) H
theorem op_neEU (hu : X.A.units < cLine) : OpR X (compareOp .NotEq) (rNeEU X.K) := fun pins s σ H x y v u Q I rx ry h => by
  obtain ⟨a, b, xs, rfl, rfl, ha, hb, q⟩ := h
  cases rx
  cases ry
  obtain ⟨its, r1, p1, _⟩ := I.tuple ha
  obtain ⟨its2, r2, p2, _⟩ := I.tuple hb
  cases r2
  refine RcNeAt.tuples (e := fun _ => true) p1 p2 hu (fun j _ h2 => absurd h2 (by simp)) X.prog X.w _ _ ⟨.bl (!xs.isEmpty), H, I, ?_, q⟩
  cases r1 <;> rfl
end
/-! a dict and a tuple are unlike -/
theorem dictEqTup (l b : Addr) (o : Obj) (hoc : o.cls = .type "dict") (its : Array Value) (n : Nat) (dd : Option Addr) (sl : Array (Option Value)) :
    Meets (Builtin.«dict.__eq__» ⟨[.ref l, .ref b], []⟩) (fun _ R s => s.heap.get? l = some o ∧ s.heap.get? b = some { cls := .type "tuple", dict := dd, data := .seq its n, slots := sl } ∧ R (.ok (.ret .notImplemented)) s) :=
  .of_wp fun prog w A R s h => by
    obtain ⟨hp, g, d, tk, os⟩ := s
    obtain ⟨hl, hb, h⟩ := h
    obtain ⟨oc, od, dt, os2⟩ := o
    simp only at hoc
    subst hoc
    have f1 := F.sub_tuple_dict
    wp_walk using wpAny_loadPart' hl, wpAny_loadPart' hb
    exact ⟨_, rfl, h⟩
theorem tupEqDict (l b : Addr) (o : Obj) (hoc : o.cls = .type "dict") (its : Array Value) (n : Nat) (dd : Option Addr) (sl : Array (Option Value)) :
    Meets (Builtin.«tuple.__eq__» ⟨[.ref b, .ref l], []⟩) (fun _ R s => s.heap.get? b = some { cls := .type "tuple", dict := dd, data := .seq its n, slots := sl } ∧ s.heap.get? l = some o ∧ R (.ok (.ret .notImplemented)) s) :=
  .of_wp fun prog w A R s h => by
    obtain ⟨hp, g, d, tk, os⟩ := s
    obtain ⟨hb, hl, h⟩ := h
    obtain ⟨oc, od, dt, os2⟩ := o
    simp only at hoc
    subst hoc
    have f1 := F.sub_dict_tuple
    wp_walk using wpAny_loadPart' hl, wpAny_loadPart' hb
    exact ⟨_, rfl, h⟩
section
variable {A : Around} {s : Shared}
theorem eqAt_dictTup {l b : Addr} {o : Obj} {its : Array Value} (hl : s.heap.get? l = some o) (hoc : o.cls = .type "dict") (hb : s.heap.IsTuple b its) (hu : A.units < cLine) : EqAt A s (.ref l) (.ref b) false := by
  obtain ⟨⟨c2, dd, dt, sl⟩, ho2, hc2, n, hd2⟩ := hb
  simp only at hc2 hd2
  subst hc2 hd2
  have hne : l ≠ b := fun z => by
    rw [z, ho2] at hl
    cases hl
    exact absurd hoc (by simp)
  refine EqAt.of_refs hne fun prog w E Q h => ?_
  exact rc_eq_decline_or (k := false) ⟨_, hl, hoc⟩ ⟨_, ho2, rfl⟩ (by decide) F.sub_tuple_dict F.slot_dict_eq F.slot_tuple_eq_refl
    (fun _ hq => call_meets F.slot_dict_eq ⟨_, hl, hoc⟩ F.entry_dict_eq (F.args_dict_eq_2 _ _) (dictEqTup l b o hoc its n dd sl) ⟨hl, ho2, hq⟩)
    (fun _ hq => call_meets F.slot_tuple_eq_refl ⟨_, ho2, rfl⟩ F.entry_tuple_eq (F.args_tuple_eq_2 _ _) (tupEqDict l b o hoc its n dd sl) ⟨ho2, hl, hq⟩)
    (fun _ hq => wpAny_isSame_ref_other hne hl ho2 (by rw [hoc]; simp) hq) (.inr hu) h
end
/-- an item of an edited row -/
def Itm (d : PyData) : Prop := d = .dict [] ∨ (d.canLay0 = true ∧ d.depth ≤ 8)
section
variable {X : Cx}
/-- x not in l, l a list of such items, x a tuple: a flag -/
def rNotInX (K : PySem.W.Frag) : R2 := fun x y H Q => ∃ a p ds vs es, x = .ref a ∧ y = .ref p ∧ H p = some (.lst vs) ∧ DqA H vs ds ∧ (∀ d ∈ ds, Itm d) ∧ Dq H (.ref a) (.tuple es) ∧ PyData.canLay0 (.tuple es) = true ∧ ∀ b : Bool, Q (.bl b) H
theorem op_notInX (hu : X.A.units + 66 < cLine) : OpR X (compareOp .NotIn) (rNotInX X.K) := fun pins s σ H x y v u Q I rx ry h => by
  obtain ⟨a, p, ds, vs, es, rfl, rfl, hp, hds, hi, hx, cx, q⟩ := h
  cases rx
  cases ry
  obtain ⟨its, r1, p1, _⟩ := I.list (sq_of hp)
  have hxp := hx
  obtain ⟨a1, xs1, ea1, h1, h2⟩ := hxp.seqT (K := X.K)
  cases ea1
  · obtain ⟨as, rx⟩ := Dp.reads I (.tuple es) (.ref a) (.ref a) (Dq.dp (K := X.K) cx hx) rfl
    obtain ⟨its2, r2, p2, _⟩ := I.tuple (h1 _ (Ex.refl _))
    have key : ∀ y ∈ its, ∃ b, EqAt X.A.in1 s y (.ref a) b := fun y hy => by
      obtain ⟨i, hiy⟩ := List.mem_iff_getElem?.mp hy
      have hil : i < vs.length := by
        have := (List.getElem?_eq_some_iff.mp hiy).1
        rw [r1.length]; exact this
      have hv : vs[i]? = some vs[i] := List.getElem?_eq_getElem hil
      obtain ⟨u2, hu2, ru⟩ := r1.get hv
      rw [hiy] at hu2
      cases hu2
      obtain ⟨d, ed, hd⟩ := hds.get hv
      rcases hi d (List.mem_of_getElem? ed) with z | ⟨z, zd⟩
      · subst z
        generalize hvv : vs[i] = vv at *
        cases hd with
        | dic hdd =>
          cases ru
          obtain ⟨_, _, vs2, _, o, es2, ep, g1, g2, _⟩ := (show ObjOk X.prog X.w H s.heap _ (.dK []) from I.hok _ _ hdd)
          exact ⟨false, eqAt_dictTup g1 g2.1 p2 (by show X.A.in1.units < cLine; simp; omega)⟩
      · obtain ⟨bs, ry⟩ := Dp.reads I d vs[i] y (Dq.dp (K := X.K) z hd) ru
        exact ⟨_, eqAt_reads d (.tuple es) X.A.in1 s y (.ref a) bs as ry rx z cx (by
          have hm := Nat.min_le_left d.depth (PyData.tuple es).depth
          show X.A.in1.units + _ < cLine
          simp
          omega)⟩
    have key2 : ∃ e : Value → Bool, ∀ y, y ∈ its.toArray → EqAt X.A.in1 s y (.ref a) (e y) := by
      refine ⟨fun y => @decide (EqAt X.A.in1 s y (.ref a) true) (Classical.propDecidable _), fun y hy => ?_⟩
      obtain ⟨b, hb⟩ := key y (by simpa using hy)
      by_cases c : EqAt X.A.in1 s y (.ref a) true
      · simp only [c, decide_true]
      · simp only [c, decide_false]
        cases b with
        | false => exact hb
        | true => exact absurd hb c
    obtain ⟨e, he⟩ := key2
    exact notIn_listAt e p1.isList he ⟨.bl _, H, I, rfl, q _⟩
end
end Wk

set_option Elab.async false
set_option linter.all false
set_option maxRecDepth 100000
set_option maxHeartbeats 2000000
namespace Wk
open PySem PySem.Spec PyProof.Rows L2 Evl
theorem eqv_ints : ∀ a b : List Int, PyData.eqvAll (a.map PyData.int) (b.map PyData.int) = decide (a = b)
  | [], [] => by simp [PyData.eqvAll]
  | [], _ :: _ => by simp [PyData.eqvAll]
  | _ :: _, [] => by simp [PyData.eqvAll]
  | x :: a, y :: b => by
    have ih := eqv_ints a b
    simp only [List.map_cons, PyData.eqvAll, PyData.eqv, ih]
    by_cases h : x = y
    · subst h; simp
    · have : (x == y) = false := by simpa using h
      simp [this, h]
theorem eqv_way {n r m q : Int} {d e : PyData} (h1 : wayB n r d = true) (h2 : wayB m q e = true) : PyData.eqv d e = decide (rts d = rts e) := by
  have e1 := (way_ints h1).1
  have e2 := (way_ints h2).1
  generalize hx : rts d = a at *
  generalize hy : rts e = b at *
  rw [e1, e2]
  show PyData.eqvAll _ _ = _
  exact eqv_ints a b
theorem inV_ints (x : Int) : ∀ ns : List Int, inV (.int x) (ns.map V.int) = decide (x ∈ ns)
  | [] => rfl
  | n :: ns => by
    have ih := inV_ints x ns
    unfold inV at *
    rw [List.map_cons, List.any_cons, ih]
    show ((n == x) || _) = _
    by_cases h : n = x
    · subst h; simp
    · have : (n == x) = false := by simpa using h
      rw [this]
      simp [Ne.symm h]
theorem cut_to (xs : List V) (i : Nat) (h : i ≤ xs.length) : cutV xs none (some (i : Int)) = xs.take i := by
  unfold cutV
  rw [HT.sIx_none, HT.sIx_nat, Nat.min_eq_left h]
  simp
theorem flat_ints (ns : List Int) : (ns.map V.int).all flatV = true := by
  rw [List.all_map, List.all_eq_true]
  intro x _
  rfl
theorem nd_take {α : Type} : ∀ {l : List α} {i : Nat} {x : α}, l.Nodup → l[i]? = some x → x ∉ l.take i
  | [], i, x, _, h, _ => by simp at h
  | y :: l, 0, x, _, _, hm => by simp at hm
  | y :: l, i + 1, x, hn, h, hm => by
    have hn' := List.nodup_cons.mp hn
    have h' : l[i]? = some x := by simpa using h
    rcases List.mem_cons.mp (show x ∈ y :: l.take i from hm) with e | e
    · exact hn'.1 (e ▸ List.mem_of_getElem? h')
    · exact nd_take hn'.2 h' e
theorem nd_snoc {α : Type} {l : List α} {x : α} (h : l.Nodup) (hx : x ∉ l) : (l ++ [x]).Nodup := by
  unfold List.Nodup
  rw [List.pairwise_append]
  refine ⟨h, List.pairwise_singleton _ _, fun a ha b hb => ?_⟩
  rw [List.mem_singleton] at hb
  intro e
  rw [← hb, ← e] at hx
  exact hx ha
theorem take_snoc {α : Type} {l : List α} {i : Nat} {x : α} (h : l[i]? = some x) : l.take (i + 1) = l.take i ++ [x] := by
  rw [List.take_add_one, h]
  rfl
theorem ev_inS {K : PySem.W.Frag} {σ : L2.St} {H : Hp} {ta tb : TE} {x : V} {xs : List V} (ha : Ev ta σ H x) (hb : EvS tb σ H xs) (hx : flatV x = true) (hf : xs.all flatV = true) : Ev (tOp (rIn K false) ta tb) σ H (.bl (inV x xs)) := fun H1 e Q q =>
  ha H1 e _ fun H2 e2 => hb H2 (e.trans e2) _ fun p H3 e3 hp => ⟨p, xs, rfl, .inr (st_of hp), hx, hf, q H3 (e2.trans e3)⟩
theorem any_rts {n r : Int} {d : PyData} (hd : wayB n r d = true) : ∀ {ds : List PyData}, ds.all (wayB n r) = true → (ds.any fun z => PyData.eqv z d) = decide (rts d ∈ ds.map rts)
  | [], _ => rfl
  | x :: ds, h => by
    have h' : wayB n r x = true ∧ ds.all (wayB n r) = true := by simpa using h
    rw [List.any_cons, any_rts hd h'.2, eqv_way h'.1 hd, List.map_cons]
    by_cases c : rts x = rts d
    · rw [decide_eq_true c, Bool.true_or]
      exact (decide_eq_true (by rw [c]; exact List.mem_cons_self)).symm
    · rw [decide_eq_false c, Bool.false_or]
      rw [decide_eq_decide]
      constructor
      · exact fun z => List.mem_cons_of_mem _ z
      · intro z
        rcases List.mem_cons.mp z with e | e
        · exact absurd e.symm c
        · exact e
theorem way_second {n r : Int} {w : PyData} (h : wayB n r w = true) : (rts w).getD 1 0 = 0 ↔ (rts w).length = 2 := by
  obtain ⟨_, _, h2, _, _, hlast, hnd⟩ := way_ints h
  generalize rts w = ns at *
  cases ns with
  | nil => simp at h2
  | cons a l =>
    cases l with
    | nil => simp at h2
    | cons b l =>
      cases l with
      | nil =>
        simp at hlast
        simp [hlast]
      | cons c l =>
        have hb : b ∉ c :: l := (List.nodup_cons.mp (List.nodup_cons.mp hnd).2).1
        have h0 : (0 : Int) ∈ c :: l := by
          have e : (c :: l).getLast? = some 0 := by
            rw [← hlast]
            simp [List.getLast?_cons_cons]
          exact List.mem_of_getLast? e
        constructor
        · intro z
          have z' : b = 0 := z
          rw [z'] at hb
          exact absurd h0 hb
        · intro z
          simp at z
/-- None, or the router -/
def dueV (o : Option Int) : V := match o with
  | none => .non
  | some r => .int r
/-- plain data: ints, texts, tuples of such -/
inductive Smp : Nat → PyData → Prop
  | int (n : Nat) (i : Int) : Smp n (.int i)
  | str (n : Nat) (z : Str) : Smp n (.str z)
  | tup (n : Nat) (ds : List PyData) : (∀ d ∈ ds, Smp n d) → ds.length ≤ 100 → Smp (n + 1) (.tuple ds)
section
variable {K : PySem.W.Frag} {σ : L2.St} {H : Hp} {ta : TE}
theorem ev_isi2 {v : V} {d : PyData} {n m : String} {b c : Bool} (h : Ev ta σ H v) (hd : Dq H v d) (h1 : kitB (tyN d) n = some b) (h2 : kitB (tyN d) m = some c) :
    Ev (tCB (rIsiT K) (tCons ta (tCons (tTup (tCons (tC (.ty n)) (tCons (tC (.ty m)) tNil))) tNil))) σ H (.bl (b || c)) := fun H1 e Q q =>
  h H1 e _ fun H2 e2 => ⟨by show 2 ≤ sizeLine; decide, fun p hp => ⟨v, p, [.ty n, .ty m], .type (tyN d), [.type n, .type m], b || c, rfl, upd_same, .cons (.ty n) (.cons (.ty m) .nil), (hd.mono ((e.trans e2).trans (Ex.new hp))).ty,
    kitAny_cons (kit_ty h1) (fun hb => kitAny_cons (kit_ty h2) (fun hc => by rw [hb, hc]; exact kitAny_nil) (fun hc => by rw [hc]; simp)) (fun hb => by rw [hb]; rfl), q _ (e2.trans (Ex.new hp))⟩⟩
end
theorem k_tl : kitB "tuple" "list" = some false := by decide +kernel
theorem k_tt : kitB "tuple" "tuple" = some true := by decide +kernel
theorem k_il : kitB "int" "list" = some false := by decide +kernel
theorem k_it : kitB "int" "tuple" = some false := by decide +kernel
theorem k_sl : kitB "str" "list" = some false := by decide +kernel
theorem k_st : kitB "str" "tuple" = some false := by decide +kernel
theorem k_ii : kitB "int" "int" = some true := by decide +kernel
theorem k_ib : kitB "int" "bool" = some false := by decide +kernel
theorem k_si : kitB "str" "int" = some false := by decide +kernel
theorem k_ss : kitB "str" "str" = some true := by decide +kernel
/-! the pool of numbers: the list at p with a count and the list at q of cells; G is what stays -/
structure Pl (G H : Hp) (p q : Addr) : Prop where
  ex : Ex G H
  gp : G p = none
  gq : G q = none
  ne : p ≠ q
  at_ : ∃ (n : Int × Int × Int × Int) (cs : List Int), H p = some (.lst [.ref q, .int n.1, .int n.2.1, .int n.2.2.1, .int n.2.2.2]) ∧ H q = some (.lst (cs.map V.int)) ∧ 0 ≤ n.1 ∧ cs.length ≤ 63
theorem Pl.np {G H : Hp} {p q a : Addr} (h : Pl G H p q) (ha : H a = none) : a ≠ p := fun z => by
  obtain ⟨n, cs, h1, _⟩ := h.at_
  rw [z, h1] at ha
  cases ha
theorem Pl.nq {G H : Hp} {p q a : Addr} (h : Pl G H p q) (ha : H a = none) : a ≠ q := fun z => by
  obtain ⟨n, cs, _, h2, _⟩ := h.at_
  rw [z, h2] at ha
  cases ha
theorem Pl.ext {G H H' : Hp} {p q : Addr} (h : Pl G H p q) (e : Ex H H') : Pl G H' p q := by
  obtain ⟨n, cs, h1, h2, r⟩ := h.at_
  exact ⟨h.ex.trans e, h.gp, h.gq, h.ne, n, cs, e _ _ h1, e _ _ h2, r⟩
/-- a new object that stays -/
theorem Pl.new {G H : Hp} {p q a : Addr} {o : HO} (h : Pl G H p q) (ha : H a = none) : Pl (upd G a o) (upd H a o) p q := by
  obtain ⟨n, cs, h1, h2, r⟩ := h.at_
  have np := h.np ha
  have nq := h.nq ha
  refine ⟨fun b u hb => ?_, by rw [upd_ne (Ne.symm np)]; exact h.gp, by rw [upd_ne (Ne.symm nq)]; exact h.gq, h.ne, n, cs, by rw [upd_ne (Ne.symm np)]; exact h1, by rw [upd_ne (Ne.symm nq)]; exact h2, r⟩
  by_cases c : b = a
  · rw [c, upd_same] at hb ⊢
    exact hb
  · rw [upd_ne c] at hb ⊢
    exact h.ex _ _ hb
/-- an object that does not stay is changed -/
theorem Pl.mut {G H : Hp} {p q a : Addr} {o : HO} (h : Pl G H p q) (ga : G a = none) (np : a ≠ p) (nq : a ≠ q) : Pl G (upd H a o) p q := by
  obtain ⟨n, cs, h1, h2, r⟩ := h.at_
  exact ⟨Ex.mut h.ex ga, h.gp, h.gq, h.ne, n, cs, by rw [upd_ne (Ne.symm np)]; exact h1, by rw [upd_ne (Ne.symm nq)]; exact h2, r⟩
/-- what an object holds now stays for a while -/
theorem Pl.hold {G H : Hp} {p q a : Addr} {o : HO} (h : Pl G H p q) (ha : H a = some o) (np : a ≠ p) (nq : a ≠ q) : Pl (upd G a o) H p q := by
  refine ⟨fun b u hb => ?_, by rw [upd_ne (Ne.symm np)]; exact h.gp, by rw [upd_ne (Ne.symm nq)]; exact h.gq, h.ne, h.at_⟩
  by_cases c : b = a
  · rw [c, upd_same] at hb
    cases hb
    rw [c]
    exact ha
  · rw [upd_ne c] at hb
    exact h.ex _ _ hb
/-- less stays -/
theorem Pl.less {G G' H : Hp} {p q : Addr} (h : Pl G H p q) (e : Ex G' G) : Pl G' H p q := ⟨e.trans h.ex, fresh_back e h.gp, fresh_back e h.gq, h.ne, h.at_⟩
theorem Ex.upd2 {G : Hp} {a : Addr} {o : HO} (h : G a = none) : Ex G (upd G a o) := Ex.new h
/-- all but the pool stays -/
def Off (p q : Addr) (H H' : Hp) : Prop := ∀ b o, b ≠ p → b ≠ q → H b = some o → H' b = some o
theorem Off.refl (p q : Addr) (H : Hp) : Off p q H H := fun _ _ _ _ h => h
theorem Off.trans {p q : Addr} {H H1 H2 : Hp} (a : Off p q H H1) (b : Off p q H1 H2) : Off p q H H2 := fun c o h1 h2 h => b c o h1 h2 (a c o h1 h2 h)
theorem Off.ex {p q : Addr} {H H1 : Hp} (e : Ex H H1) : Off p q H H1 := fun c o _ _ h => e c o h
open Classical in
noncomputable def Hd (H : Hp) (p q : Addr) : Hp := fun b => if b = p ∨ b = q then none else H b
theorem hd_none {H : Hp} {p q a : Addr} (h : Hd H p q a = none) (hp : a ≠ p) (hq : a ≠ q) : H a = none := by
  unfold Hd at h
  rw [if_neg (by simp [hp, hq])] at h
  exact h
theorem Pl.hd {G H : Hp} {p q : Addr} (h : Pl G H p q) : Pl (Hd H p q) H p q :=
  ⟨fun b o hb => by
    unfold Hd at hb
    split at hb
    · cases hb
    · exact hb, by unfold Hd; rw [if_pos (.inl rfl)], by unfold Hd; rw [if_pos (.inr rfl)], h.ne, h.at_⟩
theorem Pl.off {H H' : Hp} {p q : Addr} (h : Pl (Hd H p q) H' p q) : Off p q H H' := fun b o hp hq hb => h.ex b o (by unfold Hd; rw [if_neg (by simp [hp, hq])]; exact hb)
theorem Pl.back {G H H' : Hp} {p q : Addr} (h0 : Pl G H p q) (h : Pl (Hd H p q) H' p q) : Pl G H' p q := h.less fun b o hb => by
  have hp : b ≠ p := fun z => by rw [z, h0.gp] at hb; cases hb
  have hq : b ≠ q := fun z => by rw [z, h0.gq] at hb; cases hb
  unfold Hd
  rw [if_neg (by simp [hp, hq])]
  exact h0.ex _ _ hb
theorem eraseIdx_mp {α β : Type} (f : α → β) : ∀ (l : List α) (k : Nat), (l.map f).eraseIdx k = (l.eraseIdx k).map f
  | [], _ => rfl
  | _ :: _, 0 => rfl
  | x :: l, k + 1 => by
    show f x :: (l.map f).eraseIdx k = f x :: (l.eraseIdx k).map f
    rw [eraseIdx_mp f l k]
theorem seqIx {k n : Nat} (h : k < n) : seqIndex? (k : Int) n = some k := by
  have q := ixN_seq (n := n) (i := (k : Int)) (j := k) (by
    unfold ixN
    rw [if_pos (by omega), if_pos (by omega)]
    simp)
  exact q.1
theorem ix_listK {X : Cx} {K : PySem.W.Frag} (hK : X.K = K) : IxR X (rIxL K) := by
  subst hK
  exact ix_list
theorem ixNat {n : Nat} {x : Int} (h0 : 0 ≤ x) (h1 : x < n) : ixN n x = some x.toNat := by
  unfold ixN
  rw [if_pos h0, if_pos h1]
theorem at_ints {os : List Int} {j : Nat} (h : j < os.length) : atI (os.map V.int) (j : Int) = some (.int os[j]) := atI_nat (by rw [List.getElem?_map, List.getElem?_eq_getElem h]; rfl)
theorem g_name {i : Nat} {x : V} {σ : L2.St} {H : Hp} {k : L2.St → Hp → Prop} (h : k (σ.set i (some x)) H) : gName i x σ H k := h
theorem asg_lst1 {te : TE} {g : TG} {D : Ends} {σ : L2.St} {H : Hp} (h : te σ H fun x H1 => 1 ≤ sizeLine ∧ ∀ b, H1 b = none → g (.ref b) σ (upd H1 b (.lst [x])) D.nx) : tAsg (tLst (tCons te tNil)) g D σ H := h
theorem cb1 {r : List V → Hp → VK → Prop} {ta : TE} {σ : L2.St} {H : Hp} {Q : VK} (h : ta σ H fun x H1 => r [x] H1 Q) : tCB r (tCons ta tNil) σ H Q := h
theorem q_c {i : Nat} {v : V} {tz : TS} {D : Ends} {σ : L2.St} {H : Hp} (h : tz D (σ.set i (some v)) H) : tSeq (tAsg (tC v) (gName i)) tz D σ H := h
theorem call_tupleK {X : Cx} {K : PySem.W.Frag} (hK : X.K = K) : CallR X (.type "tuple") (fun xs H Q => ∃ p ys, xs = [.ref p] ∧ ((SqL K H p ys ∧ ∀ l, H l = none → Q (.ref l) (upd H l (.tup ys))) ∨ (SqT K H p ys ∧ Q (.ref p) H))) := by
  subst hK
  exact call_tuple_of
theorem ret_cb {r : List V → Hp → VK → Prop} {ta : TE} {D : Ends} {σ : L2.St} {H : Hp} (h : ta σ H fun x H1 => r [x] H1 D.rt) : tRet (tCB r (tCons ta tNil)) D σ H := h
/-! what stays grows by new things only -/
structure Gr (p q : Addr) (G H G' H' : Hp) : Prop where
  ex : Ex G G'
  nw : ∀ b, G b = none → H b ≠ none → G' b = none
  off : Off p q H H'
  pl : Pl G' H' p q
theorem Gr.refl {p q : Addr} {G H : Hp} (h : Pl G H p q) : Gr p q G H G H := ⟨Ex.refl _, fun _ h _ => h, Off.refl _ _ _, h⟩
theorem Gr.trans {p q : Addr} {G H G1 H1 G2 H2 : Hp} (a : Gr p q G H G1 H1) (b : Gr p q G1 H1 G2 H2) : Gr p q G H G2 H2 := by
  refine ⟨a.ex.trans b.ex, fun c hc hh => ?_, a.off.trans b.off, b.pl⟩
  by_cases cp : c = p
  · rw [cp]; exact b.pl.gp
  by_cases cq : c = q
  · rw [cq]; exact b.pl.gq
  refine b.nw c (a.nw c hc hh) ?_
  cases hx : H c with
  | none => exact absurd hx hh
  | some o => rw [a.off c o cp cq hx]; simp
theorem Gr.new {p q t : Addr} {G H : Hp} {o : HO} (h : Pl G H p q) (ht : H t = none) : Gr p q G H (upd G t o) (upd H t o) := by
  refine ⟨Ex.new (fresh_back h.ex ht), fun b hb hh => ?_, Off.ex (Ex.new ht), h.new ht⟩
  have nb : b ≠ t := fun z => hh (by rw [z]; exact ht)
  rw [upd_ne nb]
  exact hb
theorem Gr.ext {p q : Addr} {G H H' : Hp} (h : Pl G H p q) (e : Ex H H') : Gr p q G H G H' := ⟨Ex.refl _, fun _ h _ => h, Off.ex e, h.ext e⟩
theorem Gr.draw {p q : Addr} {G H H' : Hp} (h : Pl G H p q) (h' : Pl (Hd H p q) H' p q) : Gr p q G H G H' := ⟨Ex.refl _, fun _ h _ => h, h'.off, h.back h'⟩
/-! displays -/
def EvDt (p q : Addr) (te : TE) (σ : L2.St) (d : PyData) : Prop := ∀ G H, Pl G H p q → ∀ Q : VK, (∀ G' H' v, Gr p q G H G' H' → Dq G' v d → Q v H') → te σ H Q
def EvDA (p q : Addr) (ta : TA) (σ : L2.St) (ds : List PyData) : Prop := ∀ G H, Pl G H p q → ∀ Q : List V → Hp → Prop, (∀ G' H' vs, Gr p q G H G' H' → DqA G' vs ds → Q vs H') → ta σ H Q
section
variable {p q : Addr} {σ : L2.St} {te tb : TE} {ta : TA} {d : PyData} {ds es : List PyData}
theorem ed_c {v : V} (h : ∀ G, Dq G v d) : EvDt p q (tC v) σ d := fun G H hP Q k => k G H v (Gr.refl hP) (h G)
theorem ed_int {i : Nat} {x : Int} (h : σ[i]? = some (some (.int x))) : EvDt p q (tVar i) σ (.int x) := fun G H hP Q k => ⟨.int x, h, k G H _ (Gr.refl hP) (.int x)⟩
theorem ed_nil : EvDA p q tNil σ [] := fun G H hP Q k => k G H [] (Gr.refl hP) .nil
theorem ed_cons (h : EvDt p q te σ d) (hr : EvDA p q ta σ ds) : EvDA p q (tCons te ta) σ (d :: ds) := fun G H hP Q k =>
  h G H hP _ fun G1 H1 v g1 hv => hr G1 H1 g1.pl _ fun G2 H2 vs g2 hvs => k G2 H2 (v :: vs) (g1.trans g2) (.cons (hv.mono g2.ex) hvs)
theorem ed_tup (h : EvDA p q ta σ ds) (hl : ds.length ≤ 1000) (hn : ∀ d ∈ ds, ∀ es, d ≠ .tuple es) : EvDt p q (tTup ta) σ (.tuple ds) := fun G H hP Q k =>
  h G H hP _ fun G1 H1 vs g1 hvs => ⟨by have := hvs.length; rw [sizeLine_eq]; omega, fun t ht => k (upd G1 t (.tup vs)) _ (.ref t) (g1.trans (Gr.new g1.pl ht)) (.tup upd_same hn (hvs.mono (Gr.new (o := .tup vs) g1.pl ht).ex))⟩
theorem ed_lst (h : EvDA p q ta σ ds) (hl : ds.length ≤ 1000) : EvDt p q (tLst ta) σ (.list ds) := fun G H hP Q k =>
  h G H hP _ fun G1 H1 vs g1 hvs => ⟨by have := hvs.length; rw [sizeLine_eq]; omega, fun t ht => k (upd G1 t (.lst vs)) _ (.ref t) (g1.trans (Gr.new g1.pl ht)) (.lst upd_same (hvs.mono (Gr.new (o := .lst vs) g1.pl ht).ex))⟩
theorem ed_dict : EvDt p q tDNewK σ (.dict []) := fun G H hP Q k t ht => k (upd G t (.dK [])) _ (.ref t) (Gr.new hP ht) (.dic upd_same)
/-- things + [..] -/
theorem ed_cat (G0 : Hp) {v : V} {i : Nat} (hv : σ[i]? = some (some v)) (h0 : Dq G0 v (.list ds)) (hb : EvDt p q tb σ (.list es)) (hl : ds.length + es.length ≤ 1000) {H : Hp} (hP : Pl G0 H p q) {Q : VK} (k : ∀ G' H' v, Gr p q G0 H G' H' → Dq G' v (.list (ds ++ es)) → Q v H') : tOp rCat (tVar i) tb σ H Q := by
  refine ⟨v, hv, hb G0 H hP _ fun G1 H1 u g1 hu => ?_⟩
  have h1 := h0.mono g1.ex
  cases h1 with
  | lst a1 a2 =>
    cases hu with
    | lst b1 b2 =>
      rename_i aa xs ab ys
      have l1 := a2.length
      have l2 := b2.length
      refine ⟨aa, ab, xs, ys, rfl, rfl, g1.pl.ex _ _ a1, g1.pl.ex _ _ b1, by rw [sizeLine_eq]; omega, fun t ht => ?_⟩
      have gn := Gr.new (o := .lst (xs ++ ys)) g1.pl ht
      exact k _ _ (.ref t) (g1.trans gn) (.lst upd_same ((a2.append b2).mono gn.ex))
end
theorem q_asgD {p q : Addr} {i : Nat} {te : TE} {tz : TS} {D : Ends} {σ : L2.St} {G H : Hp} {d : PyData} (h : EvDt p q te σ d) (hP : Pl G H p q) (k : ∀ G' H' v, Gr p q G H G' H' → Dq G' v d → tz D (σ.set i (some v)) H') : tSeq (tAsg te (gName i)) tz D σ H := h G H hP _ k
theorem q_catD {p q : Addr} {i j : Nat} {tb : TE} {tz : TS} {D : Ends} {σ : L2.St} {H : Hp} {ds es : List PyData} (G0 : Hp) {v : V} (hv : σ[i]? = some (some v)) (h0 : Dq G0 v (.list ds)) (hb : EvDt p q tb σ (.list es)) (hl : ds.length + es.length ≤ 1000) (hP : Pl G0 H p q) (k : ∀ G' H' v, Gr p q G0 H G' H' → Dq G' v (.list (ds ++ es)) → tz D (σ.set j (some v)) H') : tSeq (tAsg (tOp rCat (tVar i) tb) (gName j)) tz D σ H := ed_cat G0 hv h0 hb hl hP k
theorem DqA.set {G : Hp} {v : V} {d : PyData} (hv : Dq G v d) : ∀ {ds : List PyData} {vs : List V} (i : Nat), DqA G vs ds → DqA G (vs.set i v) (ds.set i d)
  | [], _, i, .nil => by simp; exact .nil
  | _ :: _, _, 0, .cons h t => .cons hv t
  | _ :: _, _, i + 1, .cons h t => .cons h (DqA.set hv i t)
theorem DqA.erase {G : Hp} : ∀ {ds : List PyData} {vs : List V} (i : Nat), DqA G vs ds → DqA G (vs.eraseIdx i) (ds.eraseIdx i)
  | [], _, i, .nil => by simp; exact .nil
  | _ :: _, _, 0, .cons h t => t
  | _ :: _, _, i + 1, .cons h t => .cons h (DqA.erase i t)
theorem layAll : ∀ {ds : List PyData}, PyData.canLayAll0 ds = true ↔ ∀ d ∈ ds, d.canLay0 = true
  | [] => by simp [PyData.canLayAll0]
  | d :: ds => by
    have ih := layAll (ds := ds)
    simp [PyData.canLayAll0, ih]
theorem depAll {k : Nat} : ∀ {ds : List PyData}, PyData.depthAll ds ≤ k ↔ ∀ d ∈ ds, d.depth ≤ k
  | [] => by simp [PyData.depthAll]
  | d :: ds => by
    have ih := depAll (k := k) (ds := ds)
    simp only [PyData.depthAll, List.mem_cons, forall_eq_or_imp, ← ih]
    omega
theorem cut_from (xs : List V) (i : Nat) (h : i ≤ xs.length) : cutV xs (some (i : Int)) none = xs.drop i := by
  unfold cutV
  rw [HT.sIx_nat, HT.sIx_none, Nat.min_eq_left h]
  exact List.take_of_length_le (by simp)
theorem call_listK {X : Cx} {K : PySem.W.Frag} (hK : X.K = K) : CallR X (.type "list") (rListS K) := by
  subst hK
  exact call_list_of
theorem ret_op {r : R2} {ta tb : TE} {D : Ends} {σ : L2.St} {H : Hp} (h : ta σ H fun x H1 => tb σ H1 fun y H2 => r x y H2 D.rt) : tRet (tOp r ta tb) D σ H := h
theorem call_listK2 {X : Cx} {K : PySem.W.Frag} (hK : X.K = K) : CallR X (.type "list") (fun xs H Q => ∃ p ys, xs = [.ref p] ∧ (SqL K H p ys ∨ SqT K H p ys) ∧ ∀ l, H l = none → Q (.ref l) (upd H l (.lst ys))) := by
  subst hK
  exact call_list_of
theorem smp_ints (ns : List Int) (h : ns.length ≤ 100) : Smp 1 (.tuple (ns.map PyData.int)) := .tup 0 _ (fun d hd => by
  obtain ⟨i, _, rfl⟩ := List.mem_map.mp hd
  exact .int 0 i) (by rw [List.length_map]; exact h)
theorem smp_row {n r : Int} {d : PyData} (h : rowB n r d = true) : Smp 2 d := by
  obtain ⟨ws, rfl, _, hl, h1, h2⟩ := row_lay h
  refine .tup 1 ws (fun w hw => ?_) (by omega)
  by_cases hr : r = 0
  · rw [h2 hr] at hw
    cases hw
  · have := way_ints (List.all_eq_true.mp (h1 hr) w hw)
    rw [this.1]
    exact smp_ints _ (by omega)
theorem due_good {rows : List PyData} (h : dueD (.tuple rows) = none) : 2 ≤ rows.length ∧ rows.length ≤ 8 ∧ Good rows := by
  obtain ⟨_, h1, h2, h3⟩ := due_none h
  refine ⟨h1, h2, ?_⟩
  unfold due2 at h3
  cases hf : fb ((itemsT (.tuple rows)).length : Int) 0 (itemsT (.tuple rows)) with
  | some r => rw [hf] at h3; cases h3
  | none => exact fb_Good hf
/-- for x in a list that is made on the way -/
theorem q_forC {K : PySem.W.Frag} {tl : TE} {g : TG} {tu tz : TS} {D : Ends} {σ : L2.St} {H : Hp} (C : Addr → List V → Hp → Prop) (h : ∀ Q : VK, (∀ l xs H1, C l xs H1 → Q (.ref l) H1) → tl σ H Q)
    (hC : ∀ l xs H1, C l xs H1 → SqL K H1 l xs ∧ ∃ Pv : Nat → L2.St → Hp → Prop, Pv 0 σ H1 ∧ (∀ i σ' H', i ≤ xs.length → Pv i σ' H' → SqL K H' l xs) ∧ (∀ i x σ' H', xs[i]? = some x → Pv i σ' H' → g x σ' H' fun σ2 H2 => tu { D with nx := Pv (i + 1), ct := Pv (i + 1), bk := tz D } σ2 H2) ∧ (∀ σ' H', Pv xs.length σ' H' → tz D σ' H')) : tSeq (tFor (iList K tl) g tu) tz D σ H :=
  h _ fun l xs H1 c => by
    obtain ⟨hs, Pv, h0, hl, ht, hd⟩ := hC l xs H1 c
    exact ⟨l, rfl, ⟨xs, hs⟩, for_list Pv h0 hl ht hd⟩
end Wk

set_option Elab.async false
set_option linter.all false
set_option maxRecDepth 100000
set_option maxHeartbeats 2000000
namespace Wk
open PySem PySem.Spec PyProof.Rows L2 Evl
/-! lists of ways, as plain rows of ints -/
abbrev Wy := List Int
def wd (w : Wy) : PyData := .tuple (w.map PyData.int)
def rd (row : List Wy) : PyData := .tuple (row.map wd)
def pd (rows : List (List Wy)) : PyData := .tuple (rows.map rd)
/-- a way of router r below n -/
structure WyOk (n r : Nat) (w : Wy) : Prop where
  l2 : 2 ≤ w.length
  l8 : w.length ≤ 8
  hd : w[0]? = some (r : Int)
  lt : w.getLast? = some 0
  nd : w.Nodup
  rg : ∀ x ∈ w, 0 ≤ x ∧ x < (n : Int)
/-- good lists -/
structure GW (rows : List (List Wy)) : Prop where
  goal : ∀ row, rows[0]? = some row → row = []
  nd : ∀ (i : Nat) (row : List Wy), rows[i]? = some row → row.Nodup
  ok : ∀ (i : Nat) (row : List Wy), rows[i]? = some row → ∀ w ∈ row, WyOk rows.length i w
  rest : ∀ (i : Nat) (row : List Wy), rows[i]? = some row → ∀ w ∈ row, w.drop 1 = [0] ∨ ∃ (j : Nat) (row' : List Wy), w[1]? = some (j : Int) ∧ rows[j]? = some row' ∧ w.drop 1 ∈ row'
theorem rts_wd (w : Wy) : rts (wd w) = w := by
  simp [rts, wd, itemsT, valI, Function.comp_def]
theorem wayB_of {n r : Nat} {w : Wy} (h : WyOk n r w) : wayB (n : Int) (r : Int) (wd w) = true := by
  have e : (itemsT (wd w)).map valI = w := rts_wd w
  have hl : (itemsT (wd w)).length = w.length := by simp [wd, itemsT]
  have ha : (itemsT (wd w)).all (isR (n : Int)) = true := by
    rw [List.all_eq_true]
    intro d hd
    simp only [wd, itemsT, List.mem_map] at hd
    obtain ⟨x, hx, rfl⟩ := hd
    have := h.rg x hx
    show (true && (decide (0 ≤ x) && decide (x ≤ (n : Int) - 1))) = true
    rw [decide_eq_true this.1, decide_eq_true (show x ≤ (n : Int) - 1 by omega)]
    rfl
  unfold wayB
  rw [e, hl, ha, decide_eq_true h.l2, decide_eq_true h.l8, decide_eq_true h.hd, decide_eq_true h.lt, decide_eq_true h.nd]
  rfl
theorem wd_inj {a b : Wy} (h : wd a = wd b) : a = b := by
  rw [← rts_wd a, ← rts_wd b, h]
theorem map_rts (row : List Wy) : (row.map wd).map rts = row := by
  rw [List.map_map]
  exact (List.map_congr_left fun w _ => rts_wd w).trans (List.map_id row)
theorem rowB_of {rows : List (List Wy)} (h : GW rows) (h6 : ∀ row ∈ rows, row.length ≤ 6) {i : Nat} {row : List Wy} (e : rows[i]? = some row) : rowB (rows.length : Int) (i : Int) (rd row) = true := by
  have hi : itemsT (rd row) = row.map wd := rfl
  have hl : (itemsT (rd row)).length = row.length := by rw [hi, List.length_map]
  unfold rowB
  rw [hl, decide_eq_true (h6 row (List.mem_of_getElem? e)), hi, map_rts]
  by_cases c : (i : Int) = 0
  · rw [if_pos c]
    have i0 : i = 0 := by omega
    subst i0
    rw [h.goal row e]
    rfl
  · rw [if_neg c, decide_eq_true (h.nd i row e)]
    have ha : (row.map wd).all (wayB (rows.length : Int) (i : Int)) = true := by
      rw [List.all_eq_true]
      intro d hd
      obtain ⟨w, hw, rfl⟩ := List.mem_map.mp hd
      exact wayB_of (h.ok i row e w hw)
    rw [ha]
    rfl
theorem eqv_wd (a b : Wy) : PyData.eqv (wd a) (wd b) = decide (a = b) := eqv_ints a b
theorem getD_rows {rows : List (List Wy)} {j : Nat} {row : List Wy} (h : rows[j]? = some row) : (rows.map rd).getD j .none = rd row := by
  rw [List.getD_eq_getElem?_getD, List.getElem?_map, h]
  rfl
theorem restB_of {rows : List (List Wy)} (h : GW rows) {i : Nat} {row : List Wy} (e : rows[i]? = some row) {w : Wy} (hw : w ∈ row) : restB (rows.map rd) (wd w) = true := by
  unfold restB
  rw [rts_wd]
  have ok := h.ok i row e w hw
  rcases h.rest i row e w hw with z | ⟨j, row', h1, h2, h3⟩
  · have e1 : w.getD 1 0 = 0 := by
      have : w[1]? = some 0 := by
        have q : (w.drop 1)[0]? = some 0 := by rw [z]; rfl
        rw [List.getElem?_drop] at q
        exact q
      rw [List.getD_eq_getElem?_getD, this]
      rfl
    rw [e1]
    rfl
  · have e1 : w.getD 1 0 = (j : Int) := by rw [List.getD_eq_getElem?_getD, h1]; rfl
    rw [e1, Int.toNat_natCast, getD_rows h2]
    have : (itemsT (rd row')).any (fun z => PyData.eqv z (.tuple ((w.drop 1).map PyData.int))) = true := by
      rw [List.any_eq_true]
      refine ⟨wd (w.drop 1), List.mem_map.mpr ⟨_, h3, rfl⟩, ?_⟩
      show PyData.eqv (wd (w.drop 1)) (wd (w.drop 1)) = true
      rw [eqv_wd, decide_eq_true rfl]
    rw [this, Bool.or_true]
theorem fb_none {n : Int} : ∀ {ds : List PyData} {j : Nat}, (∀ (i : Nat) (d : PyData), ds[i]? = some d → rowB n ((j + i : Nat) : Int) d = true) → fb n j ds = none
  | [], _, _ => rfl
  | d :: ds, j, h => by
    have h0 := h 0 d rfl
    rw [Nat.add_zero] at h0
    unfold fb
    rw [if_pos h0]
    exact fb_none fun i d' e => by
      have q := h (i + 1) d' (by simpa using e)
      rw [show j + 1 + i = j + (i + 1) by omega]
      exact q
theorem sb_none {rows : List PyData} : ∀ {ds : List PyData} {j : Nat}, (∀ d ∈ ds, (itemsT d).all (restB rows) = true) → sb rows j ds = none
  | [], _, _ => rfl
  | d :: ds, j, h => by
    unfold sb
    rw [if_pos (h d List.mem_cons_self)]
    exact sb_none fun x hx => h x (List.mem_cons_of_mem _ hx)
/-- good lists are let -/
theorem due_pd {rows : List (List Wy)} (h : GW rows) (h2 : 2 ≤ rows.length) (h8 : rows.length ≤ 8) (h6 : ∀ row ∈ rows, row.length ≤ 6) : dueD (pd rows) = none := by
  have hl : (itemsT (pd rows)).length = rows.length := by simp [pd, itemsT]
  unfold dueD
  rw [if_pos ⟨rfl, by rw [hl]; exact h2, by rw [hl]; exact h8⟩]
  unfold due2
  rw [hl]
  have hf : fb (rows.length : Int) 0 (itemsT (pd rows)) = none := fb_none fun i d e => by
    have e' : (rows.map rd)[i]? = some d := e
    rw [List.getElem?_map] at e'
    cases hr : rows[i]? with
    | none => rw [hr] at e'; cases e'
    | some row =>
      rw [hr] at e'
      cases e'
      rw [Nat.zero_add]
      exact rowB_of h h6 hr
  rw [hf]
  refine sb_none fun d hd => ?_
  obtain ⟨row, hr, rfl⟩ := List.mem_map.mp (show d ∈ rows.map rd from hd)
  rw [List.all_eq_true]
  intro x hx
  obtain ⟨w, hw, rfl⟩ := List.mem_map.mp (show x ∈ row.map wd from hx)
  obtain ⟨i, hi⟩ := List.mem_iff_getElem?.mp hr
  exact restB_of h hi hw
/-- an order: 0 first, unlike routers -/
structure OsOk (n : Nat) (os : List Int) : Prop where
  len : os.length = n
  nd : os.Nodup
  hd : os[0]? = some 0
  rg : ∀ x ∈ os, 0 ≤ x ∧ x < (n : Int)
theorem OsOk.ne {n : Nat} {os : List Int} (h : OsOk n os) {i j : Nat} {x : Int} (hi : os[i]? = some x) (hj : os[j]? = some x) : i = j := by
  have hil := (List.getElem?_eq_some_iff.mp hi).1
  exact (List.getElem?_inj hil h.nd).mp (hi.trans hj.symm)
/-- a way more in the row of r -/
theorem gw_add {rows : List (List Wy)} (h : GW rows) {r : Nat} {row : List Wy} (hr : rows[r]? = some row) (h0 : r ≠ 0) {b : Wy} (hb : b = [0] ∨ ∃ (j : Nat) (row' : List Wy), rows[j]? = some row' ∧ b ∈ row') (hn : (r : Int) ∉ b) (hl : b.length ≤ 7) (hw : ((r : Int) :: b) ∉ row) (i : Nat) :
    GW (rows.set r (row.take i ++ [(r : Int) :: b] ++ row.drop i)) := by
  have hrl := (List.getElem?_eq_some_iff.mp hr).1
  have hmem : ∀ w, w ∈ row.take i ++ [(r : Int) :: b] ++ row.drop i ↔ w ∈ row ∨ w = (r : Int) :: b := fun w => by
    have q : w ∈ row ↔ w ∈ row.take i ∨ w ∈ row.drop i := by
      rw [← List.mem_append, List.take_append_drop]
    simp only [List.mem_append, List.mem_singleton, q]
    constructor
    · rintro ((z | z) | z)
      · exact .inl (.inl z)
      · exact .inr z
      · exact .inl (.inr z)
    · rintro ((z | z) | z)
      · exact .inl (.inl z)
      · exact .inr z
      · exact .inl (.inr z)
  have hget : ∀ (k : Nat) (row' : List Wy), (rows.set r (row.take i ++ [(r : Int) :: b] ++ row.drop i))[k]? = some row' → (k = r ∧ row' = row.take i ++ [(r : Int) :: b] ++ row.drop i) ∨ (k ≠ r ∧ rows[k]? = some row') := fun k row' e => by
    by_cases c : r = k
    · subst c
      rw [List.getElem?_set_self hrl] at e
      exact .inl ⟨rfl, (Option.some.inj e).symm⟩
    · rw [List.getElem?_set_ne c] at e
      exact .inr ⟨fun z => c z.symm, e⟩
  have hup : ∀ (k : Nat) (row' : List Wy) (w : Wy), rows[k]? = some row' → w ∈ row' → ∃ row2, (rows.set r (row.take i ++ [(r : Int) :: b] ++ row.drop i))[k]? = some row2 ∧ w ∈ row2 := fun k row' w e hm => by
    by_cases c : r = k
    · subst c
      rw [hr] at e
      cases e
      exact ⟨_, List.getElem?_set_self hrl, (hmem w).mpr (.inl hm)⟩
    · exact ⟨row', by rw [List.getElem?_set_ne c]; exact e, hm⟩
  have hlen : (rows.set r (row.take i ++ [(r : Int) :: b] ++ row.drop i)).length = rows.length := List.length_set ..
  have hbok : WyOk rows.length r ((r : Int) :: b) := by
    have hrg0 : (0 : Int) ≤ r ∧ (r : Int) < rows.length := ⟨by omega, by omega⟩
    rcases hb with rfl | ⟨j, row', hj, hbj⟩
    · refine ⟨by simp, by simp, rfl, rfl, ?_, fun x hx => ?_⟩
      · exact List.nodup_cons.mpr ⟨hn, by simp⟩
      · rcases List.mem_cons.mp hx with z | z
        · rw [z]; exact hrg0
        · rw [List.mem_singleton.mp z]; omega
    · have ok := h.ok j row' hj b hbj
      refine ⟨by have := ok.l2; simp; omega, by simp; omega, rfl, ?_, List.nodup_cons.mpr ⟨hn, ok.nd⟩, fun x hx => ?_⟩
      · cases b with
        | nil => have := ok.l2; simp at this
        | cons y l => rw [List.getLast?_cons_cons]; exact ok.lt
      · rcases List.mem_cons.mp hx with z | z
        · rw [z]; exact hrg0
        · exact ok.rg x z
  refine ⟨fun row' e => ?_, fun k row' e => ?_, fun k row' e w hm => ?_, fun k row' e w hm => ?_⟩
  · rcases hget 0 row' e with ⟨z, _⟩ | ⟨_, z⟩
    · exact absurd z.symm h0
    · exact h.goal row' z
  · rcases hget k row' e with ⟨_, z⟩ | ⟨_, z⟩
    · rw [z]
      have nd := h.nd r row hr
      have p1 : (row.take i ++ [(r : Int) :: b] ++ row.drop i).Perm (((r : Int) :: b) :: row) := by
        have p2 : (row.take i ++ [(r : Int) :: b] ++ row.drop i).Perm ([(r : Int) :: b] ++ row.take i ++ row.drop i) := List.Perm.append_right _ List.perm_append_comm
        have e2 : [(r : Int) :: b] ++ row.take i ++ row.drop i = ((r : Int) :: b) :: row := by
          rw [List.append_assoc, List.take_append_drop]
          rfl
        rw [e2] at p2
        exact p2
      exact p1.nodup_iff.mpr (List.nodup_cons.mpr ⟨hw, nd⟩)
    · exact h.nd k row' z
  · rw [hlen]
    rcases hget k row' e with ⟨z1, z2⟩ | ⟨_, z⟩
    · subst z1
      rw [z2] at hm
      rcases (hmem w).mp hm with y | y
      · exact h.ok k row hr w y
      · rw [y]; exact hbok
    · exact h.ok k row' z w hm
  · have key : ∀ (k' : Nat) (row'' : List Wy), rows[k']? = some row'' → w ∈ row'' → w.drop 1 = [0] ∨ ∃ (j : Nat) (row2 : List Wy), w[1]? = some (j : Int) ∧ (rows.set r (row.take i ++ [(r : Int) :: b] ++ row.drop i))[j]? = some row2 ∧ w.drop 1 ∈ row2 := fun k' row'' e' hm' => by
      rcases h.rest k' row'' e' w hm' with y | ⟨j, row3, y1, y2, y3⟩
      · exact .inl y
      · obtain ⟨row4, y4, y5⟩ := hup j row3 _ y2 y3
        exact .inr ⟨j, row4, y1, y4, y5⟩
    rcases hget k row' e with ⟨z1, z2⟩ | ⟨_, z⟩
    · subst z1
      rw [z2] at hm
      rcases (hmem w).mp hm with y | y
      · exact key k row hr y
      · rw [y]
        rcases hb with rfl | ⟨j, row3, hj, hbj⟩
        · exact .inl rfl
        · obtain ⟨row4, y4, y5⟩ := hup j row3 b hj hbj
          exact .inr ⟨j, row4, by show b[0]? = _; exact (h.ok j row3 hj b hbj).hd, y4, y5⟩
    · exact key k row' z hm
end Wk

set_option Elab.async false
set_option linter.all false
set_option maxRecDepth 100000
set_option maxHeartbeats 4000000
namespace Wk
open PySem PySem.Spec PyProof.Rows L2 Evl
abbrev plV (q : Addr) (i h t f : Int) : List V := [.ref q, .int i, .int h, .int t, .int f]
/-- the pool as it stands -/
structure PlA (G H : Hp) (p q : Addr) (cs : List Int) (i h t f : Int) : Prop where
  ex : Ex G H
  gp : G p = none
  gq : G q = none
  ne : p ≠ q
  hp : H p = some (.lst (plV q i h t f))
  hq : H q = some (.lst (cs.map V.int))
  i0 : 0 ≤ i
  le : cs.length ≤ 63
section
variable {G H H' : Hp} {p q : Addr} {cs : List Int} {i h t f : Int}
theorem Pl.a (x : Pl G H p q) : ∃ cs i h t f, PlA G H p q cs i h t f := by
  obtain ⟨n, cs, h1, h2, h3, h4⟩ := x.at_
  exact ⟨cs, n.1, n.2.1, n.2.2.1, n.2.2.2, x.ex, x.gp, x.gq, x.ne, h1, h2, h3, h4⟩
theorem PlA.pl (x : PlA G H p q cs i h t f) : Pl G H p q := ⟨x.ex, x.gp, x.gq, x.ne, (i, h, t, f), cs, x.hp, x.hq, x.i0, x.le⟩
theorem PlA.mono (x : PlA G H p q cs i h t f) (e : Ex H H') : PlA G H' p q cs i h t f := ⟨x.ex.trans e, x.gp, x.gq, x.ne, e _ _ x.hp, e _ _ x.hq, x.i0, x.le⟩
theorem PlA.set {i' h' t' f' : Int} (x : PlA G H p q cs i h t f) (hi : 0 ≤ i') : PlA G (upd H p (.lst (plV q i' h' t' f'))) p q cs i' h' t' f' :=
  ⟨Ex.mut x.ex x.gp, x.gp, x.gq, x.ne, upd_same, by rw [upd_ne (Ne.symm x.ne)]; exact x.hq, hi, x.le⟩
theorem PlA.ix {K : PySem.W.Frag} {σ : L2.St} {k : Nat} {v : V} {j : Nat} (x : PlA G H p q cs i h t f) (hσ : σ[j]? = some (some (.ref p))) (hv : (plV q i h t f)[k]? = some v) : Ev (tOp (rIxL K) (tVar j) (tC (.int (k : Int)))) σ H v :=
  ev_op (ev_var hσ) ev_c (rv_ixL (sq_of x.hp) (atI_nat hv))
end
/-- an int of what is one -/
abbrev tInt (te : TE) : TE := tCB (fun xs H Q => (∃ i, xs = [.int i] ∧ Q (.int i) H) ∨ ∃ k, xs = [.bl k] ∧ Q (.int (if k then 1 else 0)) H) (tCons te tNil)
theorem ev_int {σ : L2.St} {H : Hp} {te : TE} {n : Int} (h : Ev te σ H (.int n)) : Ev (tInt te) σ H (.int n) := ev_cb (ea_cons h ea_nil) fun H2 e2 Q2 q => .inl ⟨n, rfl, q H2 (Ex.refl H2)⟩
theorem modP (a b : Int) (h : 0 < b) : 0 ≤ a % b ∧ a % b < b := ⟨Int.emod_nonneg _ (by omega), Int.emod_lt_of_pos _ h⟩
section
variable {P : Program} {w : World} {K : PySem.W.Frag} {mg : Str → Option Value} {base : Heap} {f : Addr} {fd : FuncData}
/-! _law_pool -/
def spPool (K : PySem.W.Frag) : Sp := fun vs H Q _ => ∃ (a : Addr) (ns : List Int), vs = [.ref a] ∧ SqL K H a (ns.map V.int) ∧ ns.length ≤ 63 ∧ ∀ H' p q, Pl H H' p q → Q (.ref p) H'
abbrev sPool : Stmt := top 30
abbrev nPool : List Str := ["_law_script", "_law_cells", "_law_fold", "_law_cell"]
theorem scPool : FnScope nPool ["_law_script"] (defScope sPool) := ⟨rfl, rfl, rfl, by decide +kernel, rfl, by decide +kernel, by decide +kernel⟩
theorem ok_pool (B : Bl mg) (F : FnP K "_law_pool" sPool f fd) : FnOk P w K mg base CX0 1 f fd ["_law_script"] (spPool K) := by
  refine F.ok scPool (fun vs H Q E h => ?_) (fun cdv A outer s H vs Q E hr h => ?_)
  · obtain ⟨a, ns, rfl, _⟩ := h
    rfl
  · obtain ⟨a, ns, rfl, hs, hl, k⟩ := h
    refine ⟨_, pss_cons (ps_setLc (i := 1) (own := [("_law_cell", 3)]) (g := gName 3) (tt := tYes) rfl scPool.nd rfl rfl (sw_true rfl rfl rfl (by decide +kernel)) (pi_list (pv 0)) (blkOk_by (N := nPool) (sc := defScope sPool) (by decide +kernel))
          (fun _ _ _ _ _ => pg_name (i := 3) scPool.nd rfl (Or.inl rfl)) (fun _ _ _ _ _ => pts_nil)
          (fun _ _ _ _ _ => pe_ifExp (pt_cmpR op_ge (pv 3) pe_int (nomark _)) (pe_op op_mul pe_int (pe_callTy call_int1 (by rfl) B.int PyProof.Rows.boot_int (pa_cons (pv 3) pa_nil))) (pe_op op_sub (pe_op op_mul (pe_un un_neg pe_int) (pe_callTy call_int1 (by rfl) B.int PyProof.Rows.boot_int (pa_cons (pv 3) pa_nil))) pe_int)))
      (pss_cons (ps_set (i := 2) scPool.nd rfl (Or.inl rfl) pe_int)
      (pss_cons (ps_for (passes_of rfl) rfl (pi_list (pv 1)) (pg_name (i := 3) scPool.nd rfl (Or.inl rfl))
        (pss_one (ps_set (i := 2) scPool.nd rfl (Or.inl rfl) (pe_op op_mod (pe_callTy call_int1 (by rfl) B.int PyProof.Rows.boot_int (pa_cons (pe_op op_add (pe_op op_add (pe_op op_mul (pv 2) pe_int) (pv 3)) pe_int) pa_nil)) pe_int))))
      (pss_one (ps_ret (pe_lst (pa_cons (pv 1) (pa_cons pe_int (pa_cons pe_int (pa_cons pe_int (pa_cons (pv 2) pa_nil)))))))))), ?_⟩
    let cf : Nat → Int := fun i => if decide (0 ≤ ns.getD i 0) = true then 2 * ns.getD i 0 else -2 * ns.getD i 0 - 1
    refine q_asgL (el_lcL (K := K) (j := 3) (vs := [3]) (fun _ => true) (fun i => .int (cf i)) (ev_var rfl) hs (by rw [List.length_map]; omega) (fun x => rfl) (fun _ _ _ _ _ => et_yes) (fun i x H1 e hx _ => by
      rw [List.getElem?_map] at hx
      cases hn : ns[i]? with
      | none => rw [hn] at hx; cases hx
      | some n =>
        rw [hn] at hx
        obtain rfl : x = .int n := (Option.some.inj hx).symm
        show Ev _ _ _ (.int (if decide (0 ≤ ns.getD i 0) = true then 2 * ns.getD i 0 else -2 * ns.getD i 0 - 1))
        rw [show ns.getD i 0 = n by rw [List.getD_eq_getElem?_getD, hn]; rfl]
        refine ev_if (b := decide (0 ≤ n)) (et_test (ev_op (r := rI0 fun i j => .bl (decide (j ≤ i))) (ev_var rfl) ev_c rv_I0)) (fun hb => ?_) (fun hb => ?_)
        · rw [if_pos hb]
          exact ev_op ev_c (ev_int (ev_var rfl)) (rv_I (.inl ⟨by decide, by decide⟩))
        · rw [if_neg (by rw [hb]; decide)]
          exact ev_op (ev_op (ev_un ev_c ru_neg) (ev_int (ev_var rfl)) (rv_I (.inl ⟨by decide, by decide⟩))) ev_c rv_I0)) fun q H1 nq e1 hq1 => ?_
    rw [given_all, List.length_map] at hq1
    generalize hcs : (List.range ns.length).map cf = cs
    have hq2 : H1 q = some (.lst (cs.map V.int)) := by
      rw [hq1, ← hcs, List.map_map]
      rfl
    have hcl : cs.length ≤ 63 := by rw [← hcs]; simpa using hl
    refine q_c ?_
    change tSeq _ _ _ [some (.ref a), some (.ref q), some (.int 17), none] H1
    refine q_forL (K := K) (g := gName 3) (a := q) (xs := cs.map V.int) (ev_var rfl) (sq_of hq2) (fun i σ' H' => ∃ (z : Int) (o : Option V), σ' = [some (.ref a), some (.ref q), some (.int z), o] ∧ Ex H1 H') (fun H2 e2 => ⟨_, _, rfl, e2⟩) (fun i σ' H' _ hp => ?_) (fun i x σ' H' hx hp => ?_) (fun σ' H' hp => ?_)
    · obtain ⟨_, _, _, e2⟩ := hp
      exact sq_of (e2 _ _ hq2)
    · obtain ⟨z, o, rfl, e2⟩ := hp
      obtain ⟨c, rfl⟩ : ∃ c, x = V.int c := by
        obtain ⟨c, _, e⟩ := List.mem_map.mp (List.mem_of_getElem? hx)
        exact ⟨c, e.symm⟩
      show tAsg _ _ _ [some (.ref a), some (.ref q), some (.int z), some (.int c)] H'
      exact s_asg (ev_op (ev_int (ev_op (ev_op (ev_op (ev_var rfl) ev_c (rv_I (.inr ⟨by decide, by decide⟩))) (ev_var rfl) rv_I0) ev_c rv_I0)) ev_c (rv_I (by decide))) fun H3 e3 => ⟨_, _, rfl, e2.trans e3⟩
    · obtain ⟨z, o, rfl, e2⟩ := hp
      refine s_retL (el_lst (ea_cons (ev_var rfl) (ea_cons ev_c (ea_cons ev_c (ea_cons ev_c (ea_cons (ev_var rfl) ea_nil))))) (by show 5 ≤ 100000; decide)) fun p H3 hp e3 h3 => k H3 p q ?_
      have hq3 := (e2.trans e3) _ _ hq2
      exact (show PlA H H3 p q cs 0 0 0 z from ⟨(e1.trans e2).trans e3, fresh_back (e1.trans e2) hp, nq, (fun y => by rw [y, e2 _ _ hq2] at hp; cases hp), h3, hq3, by decide, hcl⟩).pl
/-! _law_mixed -/
def spMix : Sp := fun vs H Q _ => ∃ n t : Int, vs = [.int n, .int t] ∧ ∀ H' z, Ex H H' → Q (.int z) H'
abbrev sMix : Stmt := top 31
abbrev nMix : List Str := ["_law_number", "_law_turn", "_law_value"]
theorem scMix : FnScope nMix ["_law_number", "_law_turn"] (defScope sMix) := ⟨rfl, rfl, rfl, by decide +kernel, rfl, by decide +kernel, by decide +kernel⟩
theorem ok_mix (B : Bl mg) (F : FnP K "_law_mixed" sMix f fd) : FnOk P w K mg base CX0 1 f fd ["_law_number", "_law_turn"] spMix := by
  refine F.ok scMix (fun vs H Q E h => ?_) (fun cdv A outer s H vs Q E hr h => ?_)
  · obtain ⟨n, t, rfl, _⟩ := h
    rfl
  · obtain ⟨n, t, rfl, k⟩ := h
    refine ⟨_, pss_cons (ps_set (i := 2) scMix.nd rfl (Or.inl rfl) (pe_op op_mod (pe_callTy call_int1 (by rfl) B.int PyProof.Rows.boot_int (pa_cons (pe_op op_mul (pe_op op_add (pe_op op_add (pe_op op_mod (pe_callTy call_int1 (by rfl) B.int PyProof.Rows.boot_int (pa_cons (pv 0) pa_nil)) pe_int) (pe_op op_mul pe_int (pv 1))) pe_int) pe_int) pa_nil)) pe_int))
      (pss_cons (ps_set (i := 2) scMix.nd rfl (Or.inl rfl) (pe_op op_mod (pe_callTy call_int1 (by rfl) B.int PyProof.Rows.boot_int (pa_cons (pe_op op_mul (pv 2) (pe_op op_add (pe_op op_fdiv (pv 2) pe_int) pe_int)) pa_nil)) pe_int))
      (pss_cons (ps_set (i := 2) scMix.nd rfl (Or.inl rfl) (pe_op op_mod (pe_callTy call_int1 (by rfl) B.int PyProof.Rows.boot_int (pa_cons (pe_op op_mul (pv 2) (pe_op op_add (pe_op op_fdiv (pv 2) pe_int) pe_int)) pa_nil)) pe_int))
      (pss_one (ps_ret (pe_op op_fdiv (pv 2) pe_int))))), ?_⟩
    refine q_asg (ev_op (ev_int (ev_op (ev_op (ev_op (ev_op (ev_int (ev_var rfl)) ev_c (rv_I (by decide))) (ev_op ev_c (ev_var rfl) (rv_I (.inl ⟨by decide, by decide⟩))) rv_I0) ev_c rv_I0) ev_c (rv_I (.inr ⟨by decide, by decide⟩)))) ev_c (rv_I (by decide))) fun H1 e1 => ?_
    have m1 := modP ((n % 2147483647 + 7919 * t + 1) * 48271) 2147483647 (by decide)
    change tSeq _ _ _ [some (.int n), some (.int t), some (.int (((n % 2147483647 + 7919 * t + 1) * 48271) % 2147483647))] H1
    generalize ((n % 2147483647 + 7919 * t + 1) * 48271) % 2147483647 = y1 at m1 ⊢
    refine q_asg (ev_op (ev_int (ev_op (ev_var rfl) (ev_op (ev_op (ev_var rfl) ev_c (rv_I ⟨by decide, by decide⟩)) ev_c rv_I0) (rv_I (.inl ⟨by omega, by omega⟩)))) ev_c (rv_I (by decide))) fun H2 e2 => ?_
    have m2 := modP (y1 * (y1 / 1009 + 69621)) 2147483647 (by decide)
    change tSeq _ _ _ [some (.int n), some (.int t), some (.int ((y1 * (y1 / 1009 + 69621)) % 2147483647))] H2
    generalize (y1 * (y1 / 1009 + 69621)) % 2147483647 = y2 at m2 ⊢
    refine q_asg (ev_op (ev_int (ev_op (ev_var rfl) (ev_op (ev_op (ev_var rfl) ev_c (rv_I ⟨by decide, by decide⟩)) ev_c rv_I0) (rv_I (.inl ⟨by omega, by omega⟩)))) ev_c (rv_I (by decide))) fun H3 e3 => ?_
    exact s_ret (ev_op (ev_var rfl) ev_c (rv_I ⟨by decide, by decide⟩)) fun H4 e4 => k H4 _ (((e1.trans e2).trans e3).trans e4)
end
end Wk

set_option Elab.async false
set_option linter.all false
set_option maxRecDepth 100000
set_option maxHeartbeats 2000000
namespace Wk
open PySem PySem.Spec PyProof.Rows L2 Evl
/-! the list at R of the rows' lists -/
structure Rz (G H : Hp) (p q R : Addr) (rs : List Addr) (rows : List (List Wy)) : Prop where
  at_ : H R = some (.lst (rs.map V.ref))
  gR : G R = none
  Rp : R ≠ p
  Rq : R ≠ q
  nin : R ∉ rs
  nd : rs.Nodup
  len : rs.length = rows.length
  row : ∀ (i : Nat) (r : Addr) (row : List Wy), rs[i]? = some r → rows[i]? = some row → G r = none ∧ r ≠ p ∧ r ≠ q ∧ ∃ vs, H r = some (.lst vs) ∧ DqA G vs (row.map wd)
section
variable {G H H' : Hp} {p q R : Addr} {rs : List Addr} {rows : List (List Wy)}
theorem Rz.off (h : Rz G H p q R rs rows) (o : Off p q H H') : Rz G H' p q R rs rows := by
  refine ⟨o _ _ h.Rp h.Rq h.at_, h.gR, h.Rp, h.Rq, h.nin, h.nd, h.len, fun i r row hr hw => ?_⟩
  obtain ⟨g, rp, rq, vs, h1, h2⟩ := h.row i r row hr hw
  exact ⟨g, rp, rq, vs, o _ _ rp rq h1, h2⟩
theorem Rz.ext (h : Rz G H p q R rs rows) (e : Ex H H') : Rz G H' p q R rs rows := h.off (Off.ex e)
theorem Rz.at (h : Rz G H p q R rs rows) {i : Nat} (hi : i < rows.length) : ∃ r, rs[i]? = some r ∧ r ∈ rs := by
  have hl : i < rs.length := by rw [h.len]; exact hi
  exact ⟨rs[i], List.getElem?_eq_getElem hl, List.getElem_mem hl⟩
theorem Rz.mem (h : Rz G H p q R rs rows) {r : Addr} (hr : r ∈ rs) : G r = none ∧ r ≠ p ∧ r ≠ q ∧ ∃ vs, H r = some (.lst vs) := by
  obtain ⟨i, hi⟩ := List.mem_iff_getElem?.mp hr
  have hl := (List.getElem?_eq_some_iff.mp hi).1
  have hl2 : i < rows.length := by rw [← h.len]; exact hl
  obtain ⟨g, rp, rq, vs, h1, _⟩ := h.row i r _ hi (List.getElem?_eq_getElem hl2)
  exact ⟨g, rp, rq, vs, h1⟩
theorem Rz.new {t : Addr} {o : HO} (h : Rz G H p q R rs rows) (ht : H t = none) (gt : G t = none) : Rz (upd G t o) (upd H t o) p q R rs rows := by
  have h2 := h.ext (Ex.new (o := o) ht)
  have nR : R ≠ t := ne_of_none h.at_ ht
  refine ⟨h2.at_, by rw [upd_ne nR]; exact h.gR, h.Rp, h.Rq, h.nin, h.nd, h.len, fun i r row hr hw => ?_⟩
  obtain ⟨g, rp, rq, vs, h1, hd⟩ := h.row i r row hr hw
  have nr : r ≠ t := ne_of_none h1 ht
  exact ⟨by rw [upd_ne nr]; exact g, rp, rq, vs, by rw [upd_ne nr]; exact h1, hd.mono (Ex.new gt)⟩
theorem Rz.grow {G' : Hp} (h : Rz G H p q R rs rows) (e : Ex G G') (gR : G' R = none) (gr : ∀ r ∈ rs, G' r = none) : Rz G' H p q R rs rows := by
  refine ⟨h.at_, gR, h.Rp, h.Rq, h.nin, h.nd, h.len, fun i r row hr hw => ?_⟩
  obtain ⟨g, rp, rq, vs, h1, hd⟩ := h.row i r row hr hw
  exact ⟨gr r (List.mem_of_getElem? hr), rp, rq, vs, h1, hd.mono e⟩
/-- a row is changed -/
theorem Rz.mut {i : Nat} {r : Addr} {row' : List Wy} {vs : List V} (h : Rz G H p q R rs rows) (hr : rs[i]? = some r) (hd : DqA G vs (row'.map wd)) : Rz G (upd H r (.lst vs)) p q R rs (rows.set i row') := by
  have hm := List.mem_of_getElem? hr
  have nR : R ≠ r := fun z => h.nin (by rw [z]; exact hm)
  have hil : i < rs.length := (List.getElem?_eq_some_iff.mp hr).1
  refine ⟨by rw [upd_ne nR]; exact h.at_, h.gR, h.Rp, h.Rq, h.nin, h.nd, by rw [List.length_set]; exact h.len, fun k r2 row2 h2 w2 => ?_⟩
  by_cases c : i = k
  · subst c
    rw [hr] at h2
    cases h2
    rw [List.getElem?_set_self (by rw [← h.len]; exact hil)] at w2
    cases w2
    obtain ⟨g, rp, rq, _⟩ := h.mem hm
    exact ⟨g, rp, rq, vs, upd_same, hd⟩
  · rw [List.getElem?_set_ne c] at w2
    obtain ⟨g, rp, rq, vs2, h3, h4⟩ := h.row k r2 row2 h2 w2
    have nr : r2 ≠ r := fun z => c ((List.getElem?_inj hil h.nd).mp (by rw [hr, h2, z]))
    exact ⟨g, rp, rq, vs2, by rw [upd_ne nr]; exact h3, h4⟩
theorem nodup_set {α : Type} : ∀ {l : List α} {i : Nat} {b : α}, l.Nodup → b ∉ l → (l.set i b).Nodup
  | [], _, _, h, _ => h
  | x :: l, 0, b, h, hb => List.nodup_cons.mpr ⟨fun z => hb (List.mem_cons_of_mem _ z), (List.nodup_cons.mp h).2⟩
  | x :: l, i + 1, b, h, hb => by
    have h' := List.nodup_cons.mp h
    refine List.nodup_cons.mpr ⟨fun z => ?_, nodup_set h'.2 fun z => hb (List.mem_cons_of_mem _ z)⟩
    rcases List.mem_or_eq_of_mem_set z with y | y
    · exact h'.1 y
    · exact hb (by rw [← y]; exact List.mem_cons_self)
/-- a new list in the place of a row -/
theorem Rz.put {i : Nat} {b : Addr} {row' : List Wy} {vs : List V} (hP : Pl G H p q) (h : Rz G H p q R rs rows) (hi : i < rows.length) (hb : H b = none) (hd : DqA G vs (row'.map wd)) :
    Pl G (upd (upd H b (.lst vs)) R (.lst ((rs.map V.ref).set i (.ref b)))) p q ∧ Rz G (upd (upd H b (.lst vs)) R (.lst ((rs.map V.ref).set i (.ref b)))) p q R (rs.set i b) (rows.set i row') := by
  have e : Ex H (upd H b (.lst vs)) := Ex.new hb
  have h2 := h.ext e
  have gb := fresh_back hP.ex hb
  have bR : b ≠ R := Ne.symm (ne_of_none h.at_ hb)
  have hbn : b ∉ rs := fun z => by
    obtain ⟨_, _, _, vs', h1⟩ := h.mem z
    rw [hb] at h1
    cases h1
  have hil : i < rs.length := by rw [h.len]; exact hi
  refine ⟨(hP.ext e).mut h.gR h.Rp h.Rq, by rw [upd_same, List.map_set], h.gR, h.Rp, h.Rq, fun z => ?_, nodup_set h.nd hbn, by rw [List.length_set, List.length_set]; exact h.len, fun k r2 row2 h3 w2 => ?_⟩
  · rcases List.mem_or_eq_of_mem_set z with y | y
    · exact h.nin y
    · exact bR y.symm
  · by_cases c : i = k
    · subst c
      rw [List.getElem?_set_self hil] at h3
      cases h3
      rw [List.getElem?_set_self hi] at w2
      cases w2
      exact ⟨gb, hP.np hb, hP.nq hb, vs, by rw [upd_ne bR, upd_same], hd⟩
    · rw [List.getElem?_set_ne c] at h3 w2
      obtain ⟨g, rp, rq, vs2, h4, h5⟩ := h2.row k r2 row2 h3 w2
      have nr : r2 ≠ R := fun z => h.nin (by rw [← z]; exact List.mem_of_getElem? h3)
      exact ⟨g, rp, rq, vs2, by rw [upd_ne nr]; exact h4, h5⟩
end
theorem erase_perm {α : Type} : ∀ (l : List α) (m : Nat) (h : m < l.length), (l[m] :: l.eraseIdx m).Perm l
  | x :: l, 0, h => List.Perm.refl _
  | x :: l, m + 1, h => by
    have h' : m < l.length := by simpa using h
    exact (List.Perm.swap x l[m] (l.eraseIdx m)).trans ((erase_perm l m h').cons x)
section
variable {P : Program} {w : World} {K : PySem.W.Frag} {mg : Str → Option Value} {base : Heap} {f : Addr} {fd : FuncData}
/-! _law_order -/
def spOrder : Sp := fun vs H Q _ => ∃ (G : Hp) (p q : Addr) (n : Nat), vs = [.ref p, .int (n : Int)] ∧ Pl G H p q ∧ 2 ≤ n ∧ n ≤ 8 ∧ ∀ H' a (os : List Int), Pl G H' p q → Off p q H H' → H a = none → H' a = some (.lst (os.map V.int)) → OsOk n os → Q (.ref a) H'
abbrev nOrder : List Str := ["_law_pool_here", "_law_size", "_law_left", "_law_order_here", "_law_count"]
end
end Wk

set_option Elab.async false
set_option linter.all false
set_option maxRecDepth 100000
set_option maxHeartbeats 2000000
namespace Wk
open PySem PySem.Spec PyProof.Rows L2 Evl
theorem GW.empty {rows : List (List Wy)} (h : ∀ row ∈ rows, row = []) : GW rows := by
  have key : ∀ (i : Nat) (row : List Wy), rows[i]? = some row → row = [] := fun i row e => h row (List.mem_of_getElem? e)
  refine ⟨fun row e => key 0 row e, fun i row e => by rw [key i row e]; exact List.nodup_nil, fun i row e w hw => ?_, fun i row e w hw => ?_⟩
  · rw [key i row e] at hw; cases hw
  · rw [key i row e] at hw; cases hw
/-- a ring that is being planted -/
structure RingI (n many : Nat) (os : List Int) (i : Nat) (rows : List (List Wy)) : Prop where
  len : rows.length = n
  shape : ∀ (j : Nat) (row : List Wy), rows[j]? = some row → row = [] ∨ ∃ (k : Nat) (x y : Int), 1 ≤ k ∧ k ≤ many ∧ os[k]? = some x ∧ os[k % many + 1]? = some y ∧ x = (j : Int) ∧ row = [[x, y, 0], [x, 0]]
  done : ∀ (k : Nat) (x : Int), 1 ≤ k → k ≤ i → os[k]? = some x → ∃ row, rows[x.toNat]? = some row ∧ [x, 0] ∈ row
theorem ring_start {n many : Nat} {os : List Int} {rows : List (List Wy)} (hl : rows.length = n) (h : ∀ row ∈ rows, row = []) : RingI n many os 0 rows :=
  ⟨hl, fun j row e => .inl (h row (List.mem_of_getElem? e)), fun k x h1 h2 => by omega⟩
theorem ring_turn {n many : Nat} {os : List Int} {i : Nat} {rows : List (List Wy)} (ho : OsOk n os) (h : RingI n many os i rows) (hi : i + 1 ≤ many) {x y : Int} (hx : os[i + 1]? = some x) (hy : os[(i + 1) % many + 1]? = some y) : RingI n many os (i + 1) (rows.set x.toNat [[x, y, 0], [x, 0]]) := by
  have rx := ho.rg x (List.mem_of_getElem? hx)
  have hxl : x.toNat < rows.length := by rw [h.len]; omega
  refine ⟨by rw [List.length_set]; exact h.len, fun j row e => ?_, fun k z h1 h2 hz => ?_⟩
  · by_cases c : x.toNat = j
    · subst c
      rw [List.getElem?_set_self hxl] at e
      exact .inr ⟨i + 1, x, y, by omega, hi, hx, hy, by omega, (Option.some.inj e).symm⟩
    · rw [List.getElem?_set_ne c] at e
      exact h.shape j row e
  · by_cases c : k = i + 1
    · subst c
      rw [hx] at hz
      cases hz
      exact ⟨_, List.getElem?_set_self hxl, by simp⟩
    · obtain ⟨row, e1, e2⟩ := h.done k z h1 (by omega) hz
      have rz := ho.rg z (List.mem_of_getElem? hz)
      have ne : x.toNat ≠ z.toNat := fun q => c (ho.ne hz (by rw [hx]; congr 1; omega))
      exact ⟨row, by rw [List.getElem?_set_ne ne]; exact e1, e2⟩
theorem ring_end {n many : Nat} {os : List Int} {rows : List (List Wy)} (ho : OsOk n os) (h2 : 2 ≤ many) (hn : many + 1 ≤ n) (h : RingI n many os many rows) : GW rows ∧ ∀ row ∈ rows, row.length ≤ 2 := by
  have idx : ∀ k, 1 ≤ k → k ≤ many → 1 ≤ k % many + 1 ∧ k % many + 1 ≤ many ∧ k % many + 1 ≠ k := fun k k1 k2 => by
    by_cases c : k = many
    · subst c
      rw [Nat.mod_self]
      omega
    · rw [Nat.mod_eq_of_lt (by omega)]
      omega
  have nz : ∀ (k : Nat) (x : Int), 1 ≤ k → os[k]? = some x → x ≠ 0 := fun k x k1 hx z => by
    rw [z] at hx
    have := ho.ne hx ho.hd
    omega
  refine ⟨⟨fun row e => ?_, fun i row e => ?_, fun i row e w hw => ?_, fun i row e w hw => ?_⟩, fun row hr => ?_⟩
  · rcases h.shape 0 row e with z | ⟨k, x, y, k1, k2, hx, hy, e1, e2⟩
    · exact z
    · exact absurd e1 (nz k x k1 hx)
  · rcases h.shape i row e with z | ⟨k, x, y, k1, k2, hx, hy, e1, e2⟩
    · rw [z]; exact List.nodup_nil
    · rw [e2]
      simp
  · rcases h.shape i row e with z | ⟨k, x, y, k1, k2, hx, hy, e1, e2⟩
    · rw [z] at hw; cases hw
    · obtain ⟨m1, m2, m3⟩ := idx k k1 k2
      have x0 := nz k x k1 hx
      have y0 := nz _ y m1 hy
      have xy : x ≠ y := fun z => m3 (ho.ne hy (by rw [hx, z]))
      have rx := ho.rg x (List.mem_of_getElem? hx)
      have ry := ho.rg y (List.mem_of_getElem? hy)
      rw [h.len]
      rw [e2] at hw
      rcases List.mem_cons.mp hw with z | z
      · rw [z]
        refine ⟨by simp, by simp, by simp [e1], rfl, by simp [xy, x0, y0], fun u hu => ?_⟩
        simp only [List.mem_cons, List.not_mem_nil, or_false] at hu
        rcases hu with rfl | rfl | rfl <;> omega
      · rw [List.mem_singleton.mp z]
        refine ⟨by simp, by simp, by simp [e1], rfl, by simp [x0], fun u hu => ?_⟩
        simp only [List.mem_cons, List.not_mem_nil, or_false] at hu
        rcases hu with rfl | rfl <;> omega
  · rcases h.shape i row e with z | ⟨k, x, y, k1, k2, hx, hy, e1, e2⟩
    · rw [z] at hw; cases hw
    · obtain ⟨m1, m2, m3⟩ := idx k k1 k2
      have ry := ho.rg y (List.mem_of_getElem? hy)
      rw [e2] at hw
      rcases List.mem_cons.mp hw with z | z
      · rw [z]
        obtain ⟨row', r1, r2⟩ := h.done _ y m1 m2 hy
        refine .inr ⟨y.toNat, row', ?_, r1, r2⟩
        show some y = some ((y.toNat : Nat) : Int)
        congr 1
        omega
      · rw [List.mem_singleton.mp z]
        exact .inl rfl
  · obtain ⟨i, hi⟩ := List.mem_iff_getElem?.mp hr
    rcases h.shape i row hi with z | ⟨k, x, y, k1, k2, hx, hy, e1, e2⟩
    · rw [z]; simp
    · rw [e2]; simp
/-- a chain that is being planted -/
def chn (os : List Int) (k : Nat) : Wy := (os.take (k + 1)).reverse
structure ChI (n : Nat) (os : List Int) (i : Nat) (rows : List (List Wy)) : Prop where
  len : rows.length = n
  shape : ∀ (j : Nat) (row : List Wy), rows[j]? = some row → row = [] ∨ ∃ (k : Nat) (x : Int), 1 ≤ k ∧ k ≤ i ∧ os[k]? = some x ∧ x = (j : Int) ∧ row = [chn os k]
  done : ∀ (k : Nat) (x : Int), 1 ≤ k → k ≤ i → os[k]? = some x → rows[x.toNat]? = some [chn os k]
theorem ch_start {n : Nat} {os : List Int} {rows : List (List Wy)} (hl : rows.length = n) (h : ∀ row ∈ rows, row = []) : ChI n os 0 rows :=
  ⟨hl, fun j row e => .inl (h row (List.mem_of_getElem? e)), fun k x h1 h2 => by omega⟩
theorem ch_turn {n : Nat} {os : List Int} {i : Nat} {rows : List (List Wy)} (ho : OsOk n os) (h : ChI n os i rows) {x : Int} (hx : os[i + 1]? = some x) : ChI n os (i + 1) (rows.set x.toNat [chn os (i + 1)]) := by
  have rx := ho.rg x (List.mem_of_getElem? hx)
  have hxl : x.toNat < rows.length := by rw [h.len]; omega
  refine ⟨by rw [List.length_set]; exact h.len, fun j row e => ?_, fun k z h1 h2 hz => ?_⟩
  · by_cases c : x.toNat = j
    · subst c
      rw [List.getElem?_set_self hxl] at e
      exact .inr ⟨i + 1, x, by omega, by omega, hx, by omega, (Option.some.inj e).symm⟩
    · rw [List.getElem?_set_ne c] at e
      rcases h.shape j row e with z | ⟨k, y, k1, k2, r⟩
      · exact .inl z
      · exact .inr ⟨k, y, k1, by omega, r⟩
  · by_cases c : k = i + 1
    · subst c
      rw [hx] at hz
      cases hz
      exact List.getElem?_set_self hxl
    · have e1 := h.done k z h1 (by omega) hz
      have rz := ho.rg z (List.mem_of_getElem? hz)
      have ne : x.toNat ≠ z.toNat := fun q => c (ho.ne hz (by rw [hx]; congr 1; omega))
      rw [List.getElem?_set_ne ne]
      exact e1
theorem chn_len {os : List Int} {k : Nat} (h : k < os.length) : (chn os k).length = k + 1 := by
  unfold chn
  rw [List.length_reverse, List.length_take]
  omega
theorem chn_get {os : List Int} {k i : Nat} (h : k < os.length) (hi : i ≤ k) : (chn os k)[i]? = os[k - i]? := by
  unfold chn
  rw [List.getElem?_reverse (by rw [List.length_take]; omega), List.length_take, Nat.min_eq_left (by omega), List.getElem?_take, if_pos (by omega)]
  congr 1
theorem chn_drop {os : List Int} {k : Nat} (h : k + 1 < os.length) : (chn os (k + 1)).drop 1 = chn os k := by
  have e : os.take (k + 1 + 1) = os.take (k + 1) ++ [os[k + 1]] := by
    rw [List.take_add_one, List.getElem?_eq_getElem h]
    rfl
  unfold chn
  rw [e, List.reverse_append]
  rfl
theorem ch_end {n : Nat} {os : List Int} {i : Nat} {rows : List (List Wy)} (ho : OsOk n os) (h8 : n ≤ 8) (h : ChI n os i rows) : GW rows ∧ ∀ row ∈ rows, row.length ≤ 2 := by
  have nz : ∀ (k : Nat) (x : Int), 1 ≤ k → os[k]? = some x → x ≠ 0 := fun k x k1 hx z => by
    rw [z] at hx
    have := ho.ne hx ho.hd
    omega
  have hol := ho.len
  refine ⟨⟨fun row e => ?_, fun i row e => ?_, fun i row e w hw => ?_, fun i row e w hw => ?_⟩, fun row hr => ?_⟩
  · rcases h.shape 0 row e with z | ⟨k, x, k1, k2, hx, e1, e2⟩
    · exact z
    · exact absurd e1 (nz k x k1 hx)
  · rcases h.shape i row e with z | ⟨k, x, k1, k2, hx, e1, e2⟩
    · rw [z]; exact List.nodup_nil
    · rw [e2]
      simp
  · rcases h.shape i row e with z | ⟨k, x, k1, k2, hx, e1, e2⟩
    · rw [z] at hw; cases hw
    · have hk := (List.getElem?_eq_some_iff.mp hx).1
      rw [h.len]
      rw [e2] at hw
      rw [List.mem_singleton.mp hw]
      refine ⟨by rw [chn_len hk]; omega, by rw [chn_len hk]; omega, by rw [chn_get hk (Nat.zero_le k), Nat.sub_zero, hx, e1], ?_, ?_, fun u hu => ?_⟩
      · rw [List.getLast?_eq_getElem?, chn_len hk, chn_get hk (by omega), show k - (k + 1 - 1) = 0 by omega]
        exact ho.hd
      · unfold chn List.Nodup
        rw [List.pairwise_reverse]
        exact ((List.take_sublist (k + 1) os).nodup ho.nd).imp (fun h e => h e.symm)
      · unfold chn at hu
        exact ho.rg u (List.mem_of_mem_take (List.mem_reverse.mp hu))
  · rcases h.shape i row e with z | ⟨k, x, k1, k2, hx, e1, e2⟩
    · rw [z] at hw; cases hw
    · have hk := (List.getElem?_eq_some_iff.mp hx).1
      rw [e2] at hw
      rw [List.mem_singleton.mp hw]
      obtain ⟨k', rfl⟩ : ∃ k', k = k' + 1 := ⟨k - 1, by omega⟩
      by_cases c : k' = 0
      · subst c
        left
        rw [chn_drop hk]
        cases os with
        | nil => simp at hk
        | cons a l =>
          have := ho.hd
          simp at this
          simp [chn, this]
      · right
        have hk' : k' < os.length := by omega
        have hy : os[k']? = some os[k'] := List.getElem?_eq_getElem hk'
        have ry := ho.rg _ (List.mem_of_getElem? hy)
        refine ⟨(os[k']).toNat, [chn os k'], ?_, h.done k' _ (by omega) (by omega) hy, by rw [chn_drop hk]; exact List.mem_singleton.mpr rfl⟩
        rw [chn_get hk (by omega), show k' + 1 - 1 = k' by omega, hy]
        congr 1
        omega
  · obtain ⟨j, hj⟩ := List.mem_iff_getElem?.mp hr
    rcases h.shape j row hj with z | ⟨k, x, k1, k2, hx, e1, e2⟩
    · rw [z]; simp
    · rw [e2]; simp
theorem chn_range {os : List Int} {i : Nat} (h : 1 + i < os.length) : (List.range (1 + (i : Int) + 1).toNat).map (fun s => os.getD (1 + i - s) 0) = chn os (i + 1) := by
  apply List.ext_getElem?
  intro j
  have e : (1 + (i : Int) + 1).toNat = i + 2 := by omega
  rw [e, List.getElem?_map]
  by_cases c : j < i + 2
  · rw [List.getElem?_range c, chn_get (by omega) (by omega)]
    have hl : 1 + i - j < os.length := by omega
    show some (os.getD (1 + i - j) 0) = os[i + 1 - j]?
    rw [List.getD_eq_getElem?_getD, show i + 1 - j = 1 + i - j by omega, List.getElem?_eq_getElem hl]
    rfl
  · rw [List.getElem?_eq_none (by simp; omega), List.getElem?_eq_none (by rw [chn_len (by omega)]; omega)]
    rfl
section
variable {P : Program} {w : World} {K : PySem.W.Frag} {mg : Str → Option Value} {base : Heap} {f : Addr} {fd : FuncData}
/-! _law_planted -/
def spPlanted : Sp := fun vs H Q _ => ∃ (G : Hp) (p q : Addr) (n : Nat), vs = [.ref p, .int (n : Int)] ∧ Pl G H p q ∧ 2 ≤ n ∧ n ≤ 8 ∧ ∀ G' H' R rs rows, Ex G G' → Pl G' H' p q → Rz G' H' p q R rs rows → rows.length = n → GW rows → (∀ row ∈ rows, row.length ≤ 2) → Q (.ref R) H'
abbrev nPlanted : List Str := ["_law_pool_here", "_law_size", "_law_lists_here", "_law_kind", "_law_order_here", "_law_many", "_law_k", "_law_router", "_law_step"]
end
end Wk

set_option Elab.async false
set_option linter.all false
set_option maxRecDepth 100000
set_option maxHeartbeats 2000000
namespace Wk
open PySem PySem.Spec PyProof.Rows L2 Evl
theorem lay_wds (ws : List Wy) : PyData.canLayAll0 (ws.map wd) = true := layAll.mpr fun d hd => by
  obtain ⟨w, _, rfl⟩ := List.mem_map.mp hd
  simp [wd, PyData.canLay0, lay_ints]
theorem dep_wds (ws : List Wy) : PyData.depthAll (ws.map wd) ≤ 1 := depAll.mpr fun d hd => by
  obtain ⟨w, _, rfl⟩ := List.mem_map.mp hd
  simp [wd, PyData.depth, depth_ints]
theorem shaped_wds (ws : List Wy) : SeqAt.shaped (.list (ws.map wd)) = true := by
  unfold SeqAt.shaped
  have h1 := lay_wds ws
  have h2 := dep_wds ws
  have : decide ((PyData.list (ws.map wd)).depth ≤ 64) = true := decide_eq_true (by simp only [PyData.depth]; omega)
  rw [this]
  simp [PyData.canLay0, h1]
theorem any_wd (ws : List Wy) (x : Wy) : ((ws.map wd).any fun z => PyData.eqv z (wd x)) = decide (x ∈ ws) := by
  induction ws with
  | nil => rfl
  | cons a l ih =>
    rw [List.map_cons, List.any_cons, ih, eqv_wd]
    by_cases h : a = x
    · subst h; simp
    · rw [decide_eq_false h, Bool.false_or, decide_eq_decide]
      constructor
      · exact fun z => List.mem_cons_of_mem _ z
      · intro z
        rcases List.mem_cons.mp z with e | e
        · exact absurd e.symm h
        · exact e
theorem DqA.wds_inv {G : Hp} : ∀ {ws : List Wy} {vs : List V} {i : Nat} {v : V}, DqA G vs (ws.map wd) → vs[i]? = some v → ∃ w, ws[i]? = some w ∧ Dq G v (wd w) := fun {ws vs i v} h e => by
  obtain ⟨d, e1, e2⟩ := h.get e
  rw [List.getElem?_map] at e1
  cases hw : ws[i]? with
  | none => rw [hw] at e1; cases e1
  | some w =>
    rw [hw] at e1
    cases e1
    exact ⟨w, rfl, e2⟩
theorem wd_ref {G : Hp} {v : V} {w : Wy} (h : Dq G v (wd w)) : ∃ a, v = .ref a ∧ G a = some (.tup (w.map V.int)) := by
  unfold wd at h
  obtain ⟨a, xs, rfl, h1, h2⟩ := h.tupI fun d hd es z => by
    obtain ⟨i, _, ei⟩ := List.mem_map.mp hd
    rw [← ei] at z
    cases z
  exact ⟨_, rfl, by rw [h1, h2.int_inv]⟩
theorem wd_of {G : Hp} {a : Addr} {w : Wy} (h : G a = some (.tup (w.map V.int))) : Dq G (.ref a) (wd w) := Dq.tint h
/-- what may stand behind a new router -/
def Bs (rows : List (List Wy)) (b : Wy) : Prop := b = [0] ∨ ∃ (j : Nat) (row' : List Wy), rows[j]? = some row' ∧ b ∈ row'
section
variable {P : Program} {w : World} {K : PySem.W.Frag} {mg : Str → Option Value} {base : Heap} {f : Addr} {fd : FuncData}
/-! _law_add -/
def spAdd : Sp := fun vs H Q _ => ∃ (G : Hp) (p q R : Addr) (rs : List Addr) (rows : List (List Wy)) (L : Nat) (cap : Int), vs = [.ref p, .ref R, .int (L : Int), .int cap] ∧ Pl G H p q ∧ Rz G H p q R rs rows ∧ 2 ≤ rows.length ∧ rows.length ≤ 8 ∧ L ≤ 6 ∧ GW rows ∧ (∀ row ∈ rows, row.length ≤ L) ∧
  ∀ G' H' rows', Ex G G' → Pl G' H' p q → Rz G' H' p q R rs rows' → rows'.length = rows.length → GW rows' → (∀ row ∈ rows', row.length ≤ L) → Q .non H'
abbrev nAdd : List Str := ["_law_pool_here", "_law_lists_here", "_law_limit", "_law_cap", "_law_bases", "_law_takings", "_law_row", "_law_router", "_law_base", "_law_place", "_law_way"]
/-! _law_lists -/
def spLists : Sp := fun vs H Q _ => ∃ (G : Hp) (p q : Addr) (M L : Nat) (cap : Int), vs = [.ref p, .int (M : Int), .int (L : Int), .int cap] ∧ Pl G H p q ∧ 2 ≤ M ∧ M ≤ 8 ∧ 2 ≤ L ∧ L ≤ 6 ∧ ∀ G' H' v rows, Ex G G' → Pl G' H' p q → Dq G' v (pd rows) → 2 ≤ rows.length → rows.length ≤ M → GW rows → (∀ row ∈ rows, row.length ≤ L) → Q v H'
abbrev nLists : List Str := ["_law_pool_here", "_law_most", "_law_limit", "_law_cap", "_law_size", "_law_lists_here", "_law_count", "_law_row"]
/-- tuple(row) for each row: the new tuples stay -/
structure Tupz (G0 H : Hp) (p q R : Addr) (rs : List Addr) (rows : List (List Wy)) (D : Addr) (i : Nat) : Prop where
  ex : ∃ (G : Hp) (ts : List V), Ex G0 G ∧ Pl G H p q ∧ Rz G H p q R rs rows ∧ H D = some (.lst ts) ∧ G D = none ∧ D ≠ p ∧ D ≠ q ∧ DqA G ts ((rows.take i).map rd)
theorem tupz_start {G H : Hp} {p q R D : Addr} {rs : List Addr} {rows : List (List Wy)} (hP : Pl G H p q) (hW : Rz G H p q R rs rows) (hD : H D = none) : Tupz G (upd H D (.lst [])) p q R rs rows D 0 :=
  ⟨G, [], Ex.refl _, hP.ext (Ex.new hD), hW.ext (Ex.new hD), upd_same, fresh_back hP.ex hD, hP.np hD, hP.nq hD, .nil⟩
end
end Wk

set_option Elab.async false
set_option linter.all false
set_option maxRecDepth 100000
set_option maxHeartbeats 2000000
namespace Wk
open PySem PySem.Spec PyProof.Rows L2 Evl
mutual
theorem Dp.up {K : PySem.W.Frag} {G H : Hp} (e : Ex G H) : ∀ {d : PyData} {v : V}, Dp K G v d → Dp K H v d
  | .none, _, .non => .non
  | .bool _, _, .bl b => .bl b
  | .int _, _, .int i => .int i
  | .str _, _, .str x => .str x
  | .list _, _, .lst h a => .lst (ex_l e h) (DpAll.up e a)
  | .tuple _, _, .tup h a => .tup (ex_t e h) (DpAll.up e a)
theorem DpAll.up {K : PySem.W.Frag} {G H : Hp} (e : Ex G H) : ∀ {ds : List PyData} {vs : List V}, DpAll K G vs ds → DpAll K H vs ds
  | [], _, .nil => .nil
  | _ :: _, _, .cons h t => .cons (Dp.up e h) (DpAll.up e t)
end
theorem dpa_len {K : PySem.W.Frag} {G : Hp} : ∀ {ds : List PyData} {vs : List V}, DpAll K G vs ds → vs.length = ds.length
  | [], _, .nil => rfl
  | _ :: _, _, .cons _ t => congrArg Nat.succ (dpa_len t)
theorem dpa_at {K : PySem.W.Frag} {G : Hp} : ∀ {ds : List PyData} {vs : List V} {i : Nat} {d : PyData}, DpAll K G vs ds → ds[i]? = some d → ∃ v, vs[i]? = some v ∧ Dp K G v d
  | [], _, i, d, .nil, e => by simp at e
  | x :: _, v :: _, 0, d, .cons h t, e => ⟨v, rfl, by simp at e; subst e; exact h⟩
  | _ :: _, _ :: _, i + 1, d, .cons h t, e => by
    obtain ⟨v, e1, e2⟩ := dpa_at t (i := i) (by simpa using e)
    exact ⟨v, by simpa using e1, e2⟩
theorem dpa_app {K : PySem.W.Frag} {G : Hp} : ∀ {ds es : List PyData} {vs us : List V}, DpAll K G vs ds → DpAll K G us es → DpAll K G (vs ++ us) (ds ++ es)
  | [], _, _, _, .nil, h => h
  | _ :: _, _, _, _, .cons h t, u => .cons h (dpa_app t u)
theorem dpa_ints {K : PySem.W.Frag} {G : Hp} : ∀ {ns : List Int} {vs : List V}, DpAll K G vs (ns.map PyData.int) → vs = ns.map V.int
  | [], _, .nil => rfl
  | _ :: _, _, .cons (.int n) t => by rw [dpa_ints t]; rfl
theorem dp_wd {K : PySem.W.Frag} {G : Hp} {v : V} {w : Wy} (h : Dp K G v (wd w)) : ∃ a, v = .ref a ∧ SqT K G a (w.map V.int) := by
  unfold wd at h
  cases h with
  | tup h1 h2 =>
    rw [dpa_ints h2] at h1
    exact ⟨_, rfl, h1⟩
theorem dp_of_wd {K : PySem.W.Frag} {G : Hp} {a : Addr} {w : Wy} (h : SqT K G a (w.map V.int)) : Dp K G (.ref a) (wd w) := .tup h (DqA.dp (lay_ints w) (DqA.ints w))
section
variable {K : PySem.W.Frag} {σ : L2.St} {H : Hp} {te tl : TE}
/-- [e for i, x in enumerate(t)] -/
theorem el_lcEnT {a : Addr} {xs : List V} {i j : Nat} {vs : List Nat} (v : Nat → V) (h : Ev tl σ H (.ref a)) (hx : SqT K H a xs) (hz : xs.length ≤ 40000) (hw : ∀ x y, wipe (((wipe σ vs).set i (some x)).set j (some y)) vs = wipe σ vs)
    (he : ∀ (k : Nat) (x : V) H1, Ex H H1 → xs[k]? = some x → Ev te (((wipe σ vs).set i (some (.int (k : Nat)))).set j (some x)) H1 (v k)) :
    EvL (tLc (iEnumT K (tCons tl tNil)) (gTup K 2 (gCons (gName i) (gCons (gName j) gNil))) tYes te vs) σ H (given xs.length (fun _ => true) v) := fun H0 e Q q => h H0 e _ fun H1 e1 => ⟨a, xs, rfl, ex_t (e.trans e1) hx, fun Dl hD =>
  lc_it (walk_enumT (K := K) (a := a) (xs := xs)) (Cw H1 (fun _ => true) v Dl) ⟨hD, Ex.new hD, upd_same⟩ (fun i H' _ p => ex_t ((e.trans e1).trans p.2.1) hx)
    (fun k z H' H2 hk p y => by
      obtain ⟨T, u, y, rfl, hT, rfl, hu, hy⟩ := y
      cases hu
      have eT : Ex H' (upd H' T (.tup [.int (k : Nat), y])) := Ex.new hT
      refine ⟨T, _, rfl, st_of upd_same, rfl, g_two ⟨hw _ _, ?_⟩⟩
      exact cw_turn ⟨p.1, p.2.1.trans eT, eT _ _ p.2.2⟩ (by omega) et_yes (fun _ => he k y H1 (e.trans e1) hy))
    (fun H' p => q Dl H' (fresh_back e1 p.1) (e1.trans p.2.1) p.2.2)⟩
theorem ev_allEnT {a : Addr} {xs : List V} {i j : Nat} {vs : List Nat} (g : Nat → Bool) (h : Ev tl σ H (.ref a)) (hx : SqT K H a xs) (hz : xs.length ≤ 40000) (hw : ∀ x y, wipe (((wipe σ vs).set i (some x)).set j (some y)) vs = wipe σ vs)
    (he : ∀ (k : Nat) (x : V) H1, Ex H H1 → xs[k]? = some x → Ev te (((wipe σ vs).set i (some (.int (k : Nat)))).set j (some x)) H1 (.bl (g k))) :
    Ev (tCB (rAll K) (tCons (tLc (iEnumT K (tCons tl tNil)) (gTup K 2 (gCons (gName i) (gCons (gName j) gNil))) tYes te vs) tNil)) σ H (.bl (((List.range xs.length).map g).all id)) :=
  ev_allL (by
    have q := el_lcEnT (K := K) (te := te) (fun k => .bl (g k)) h hx hz hw he
    rw [given_all] at q
    rw [List.map_map]
    exact q)
/-- a tuple that is read: an old one, a new one, one of the module's -/
def EvQ (K : PySem.W.Frag) (te : TE) (σ : L2.St) (H : Hp) (xs : List V) : Prop := ∀ H1, Ex H H1 → ∀ Q : VK, (∀ p H2, Ex H1 H2 → SqT K H2 p xs → Q (.ref p) H2) → te σ H1 Q
theorem eq_sl {a : Addr} {xs : List V} {tl th : TO} {lo hi : Option Int} (h : Ev te σ H (.ref a)) (h1 : EvO tl σ H lo) (h2 : EvO th σ H hi) (hs : SqT K H a xs) : EvQ K (tSl (rSlA K) te tl th) σ H (cutV xs lo hi) := fun H1 e Q q =>
  h H1 e _ fun H2 e2 => h1 H2 (e.trans e2) _ fun H3 e3 => h2 H3 ((e.trans e2).trans e3) _ fun H4 e4 => by
    have hs4 := ex_t (((e.trans e2).trans e3).trans e4) hs
    refine ⟨a, xs, rfl, hs4, fun hw => ?_, fun hw p hp => q p _ (((e2.trans e3).trans e4).trans (Ex.new hp)) (st_of upd_same)⟩
    have ec : cutV xs lo hi = xs := by
      unfold cutV
      rw [hw.1, hw.2]
      simp
    rw [ec] at q
    exact q a H4 ((e2.trans e3).trans e4) hs4
theorem ev_opQ {ta tb : TE} {r : R2} {x z : V} {xs : List V} (ha : Ev ta σ H x) (hb : EvQ K tb σ H xs) (hr : ∀ p H1, SqT K H1 p xs → Ex H H1 → RV r x (.ref p) H1 z) : Ev (tOp r ta tb) σ H z := fun H1 e Q q =>
  ha H1 e _ fun H2 e2 => hb H2 (e.trans e2) _ fun p H3 e3 hp => hr p H3 hp ((e.trans e2).trans e3) H3 (Ex.refl H3) Q fun H4 e4 => q H4 ((e2.trans e3).trans e4)
/-- for x in a tuple that is told on the way -/
theorem q_forCT {g : TG} {tu tz : TS} {D : Ends} (C : Addr → List V → Hp → Prop) (h : ∀ Q : VK, (∀ l xs H1, C l xs H1 → Q (.ref l) H1) → tl σ H Q)
    (hC : ∀ l xs H1, C l xs H1 → SqT K H1 l xs ∧ ∃ Pv : Nat → L2.St → Hp → Prop, Pv 0 σ H1 ∧ (∀ i σ' H', i ≤ xs.length → Pv i σ' H' → SqT K H' l xs) ∧ (∀ i x σ' H', xs[i]? = some x → Pv i σ' H' → g x σ' H' fun σ2 H2 => tu { D with nx := Pv (i + 1), ct := Pv (i + 1), bk := tz D } σ2 H2) ∧ (∀ σ' H', Pv xs.length σ' H' → tz D σ' H')) : tSeq (tFor (iTup K tl) g tu) tz D σ H :=
  h _ fun l xs H1 c => by
    obtain ⟨hs, Pv, h0, hl, ht, hd⟩ := hC l xs H1 c
    exact ⟨l, rfl, ⟨xs, hs⟩, for_tup Pv h0 hl ht hd⟩
end
/-! wishes in the heap -/
structure WO (CW : Addr) (H : Hp) (v : V) (rows : List (List Wy)) : Prop where
  ex : ∃ w dx lv, v = .ref w ∧ H w = some (.ins CW dx (wf (rows.length : Int) lv)) ∧ Dq H lv (pd rows)
  g : GW rows
  n2 : 2 ≤ rows.length
  n8 : rows.length ≤ 8
  r6 : ∀ row ∈ rows, row.length ≤ 6
theorem WO.up {CW : Addr} {H H' : Hp} {v : V} {rows : List (List Wy)} (h : WO CW H v rows) (e : Ex H H') : WO CW H' v rows := by
  obtain ⟨w, dx, lv, h1, h2, h3⟩ := h.ex
  exact ⟨⟨w, dx, lv, h1, e _ _ h2, h3.mono e⟩, h.g, h.n2, h.n8, h.r6⟩
theorem ev_wsize {K : PySem.W.Frag} {mg : Str → Option Value} {CW : Addr} {σ : L2.St} {H : Hp} {te : TE} {v : V} {rows : List (List Wy)} (T : WTx K mg CW) (h : Ev te σ H v) (hw : WO CW H v rows) : Ev (tFld K te "size") σ H (.int (rows.length : Int)) := fun H1 e Q q =>
  h H1 e _ fun H2 e2 => by
    obtain ⟨w, dx, lv, rfl, h2, h3⟩ := (hw.up (e.trans e2)).ex
    exact ⟨w, CW, dx, _, _, rfl, h2, T.cl, T.nS, wf_size _ _, q H2 e2⟩
/-- wishes.ways(router) -/
theorem t_ways {CW CN : Addr} {W : L2.St → XK} {σ : L2.St} {H : Hp} {ta ti : TE} {v : V} {rows : List (List Wy)} {i : Nat} {row : List Wy} {Q : VK} (ha : Ev ta σ H v) (hw : WO CW H v rows) (hi : Ev ti σ H (.int (i : Int))) (hr : rows[i]? = some row) (k : ∀ u H', Ex H H' → Dq H' u (rd row) → Q u H') :
    tMeAt CW "ways" (spWays CW CN) W ta (tCons ti tNil) σ H Q := ha H (Ex.refl H) _ fun H1 e1 => by
  obtain ⟨w, dx, lv, rfl, h2, h3⟩ := (hw.up e1).ex
  refine ⟨w, dx, _, rfl, h2, wf_no _ _ (by decide +kernel) (by decide +kernel), hi H1 e1 _ fun H2 e2 => ?_⟩
  have hil := (List.getElem?_eq_some_iff.mp hr).1
  have hR : isR (((rows.map rd).length : Nat) : Int) (.int (i : Int)) = true := by
    rw [List.length_map]
    show (true && (decide (0 ≤ (i : Int)) && decide ((i : Int) ≤ (rows.length : Int) - 1))) = true
    rw [decide_eq_true (show 0 ≤ (i : Int) by omega), decide_eq_true (show (i : Int) ≤ (rows.length : Int) - 1 by omega)]
    rfl
  refine ⟨w, dx, lv, .int (i : Int), .int (i : Int), rows.map rd, rfl, by rw [List.length_map]; exact e2 _ _ h2, h3.mono e2, .int _, fun _ u d H3 hd hu e3 => ?_, fun z => ?_⟩
  · have ed : d = rd row := by
      rw [show (valI (.int (i : Int))).toNat = i by simp [valI], List.getElem?_map, hr] at hd
      exact (Option.some.inj hd).symm
    subst ed
    exact k u H3 ((e1.trans e2).trans e3) (hu.mono e3)
  · rw [hR] at z
    cases z
/-! data or wishes -/
def Tg (CW : Addr) (H : Hp) (v : V) : Option PyData → Prop
  | some d => Dq H v d
  | none => ∃ a dx fs, v = .ref a ∧ H a = some (.ins CW dx fs)
theorem Tg.up {CW : Addr} {H H' : Hp} {v : V} {o : Option PyData} (h : Tg CW H v o) (e : Ex H H') : Tg CW H' v o := by
  cases o with
  | some d => exact Dq.mono e h
  | none =>
    obtain ⟨a, dx, fs, h1, h2⟩ := h
    exact ⟨a, dx, fs, h1, e _ _ h2⟩
/-- what isinstance asks of the class -/
structure ITx (K : PySem.W.Frag) (CW : Addr) : Prop where
  cl : Cls K CW
  ha : PySem.W.findIn K (.ref CW) "__class__" = some (some (.builtin "object.__class__"))
  hn : PySem.W.specialIn K (.builtin "object.__class__") "__get__" = some (some (.builtin "getset_descriptor.__get__"))
  ht : PySem.W.takesIn K (.builtin "object.__class__") = some true
  hm : PySem.W.mroIn K CW (.type "object") = some true
  kt : PySem.W.kitOne K (.ref CW) (.type "tuple") = some false
def tgT : Option PyData → Bool
  | some d => isTu d
  | none => false
theorem ev_isiT {K : PySem.W.Frag} {CW : Addr} {σ : L2.St} {H : Hp} {ta : TE} {v : V} {o : Option PyData} (T : ITx K CW) (h : Ev ta σ H v) (hv : Tg CW H v o) : Ev (tCB (rIsi K) (tCons ta (tCons (tC (.ty "tuple")) tNil))) σ H (.bl (tgT o)) := by
  cases o with
  | some d => exact ev_isi h hv (kit_tup d)
  | none =>
    obtain ⟨a, dx, fs, rfl, h2⟩ := hv
    exact fun H1 e Q q => h H1 e _ fun H2 e2 => ⟨.ref a, .ty "tuple", .ref CW, .type "tuple", false, rfl, .ty "tuple", .base (.ins ((e.trans e2) _ _ h2) T.cl T.ha T.hn T.ht T.hm), T.kt, q H2 e2⟩
/-! takings, as plain rows -/
def od : Option Wy → PyData
  | none => .none
  | some w => wd w
def chW (rows : List (List Wy)) (i : Nat) : List Wy := if i = 0 then [[0]] else rows.getD i [] ++ [[]]
structure TkO (rows : List (List Wy)) (t : List (Option Wy)) : Prop where
  len : t.length = rows.length
  ok : ∀ (i : Nat) (x : Wy), t[i]? = some (some x) → x ∈ chW rows i
def hit (t : List (Option Wy)) (w : Wy) : Bool := decide (t.getD (w.getD 1 0).toNat none = some (w.drop 1))
def csL (t : List (Option Wy)) (own : Wy) : List Wy → Bool
  | [] => false
  | w :: ws => if w = own then false else if hit t w = true then true else csL t own ws
def csB (rows : List (List Wy)) (t : List (Option Wy)) (i : Nat) : Bool := match t.getD i none with
  | none => false
  | some own => if own ≠ [] ∧ t.getD (own.getD 1 0).toNat none ≠ none ∧ hit t own = false then true else csL t own (rows.getD i [])
theorem csL_drop {t : List (Option Wy)} {own : Wy} : ∀ {ws : List Wy} {i : Nat} {w : Wy}, ws[i]? = some w → csL t own (ws.drop i) = if w = own then false else if hit t w = true then true else csL t own (ws.drop (i + 1))
  | [], i, w, h => by simp at h
  | x :: ws, 0, w, h => by
    simp at h
    subst h
    rfl
  | x :: ws, i + 1, w, h => by
    simp only [List.drop_succ_cons]
    exact csL_drop (by simpa using h)
theorem ways_in {rows : List (List Wy)} (hG : GW rows) {i : Nat} {row : List Wy} {w : Wy} (hr : rows[i]? = some row) (hw : w ∈ row) : ∃ j : Nat, w[1]? = some (j : Int) ∧ w.getD 1 0 = (j : Int) ∧ j < rows.length ∧ w ≠ [] := by
  have ok := hG.ok i row hr w hw
  have h1 : w[1]? = some (w[1]'(by have := ok.l2; omega)) := List.getElem?_eq_getElem _
  have rg := ok.rg _ (List.mem_of_getElem? h1)
  generalize w[1]'(by have := ok.l2; omega) = x at *
  refine ⟨x.toNat, by rw [h1]; congr 1; omega, by rw [List.getD_eq_getElem?_getD, h1]; show x = _; omega, by omega, fun z => ?_⟩
  have := ok.l2
  rw [z] at this
  simp at this
theorem shaped_wd (w : Wy) : SeqAt.shaped (wd w) = true := shaped_ints w
theorem shaped_od (o : Option Wy) : SeqAt.shaped (od o) = true := by
  cases o with
  | none => rfl
  | some w => exact shaped_wd w
theorem eqv_od (o : Option Wy) (w : Wy) : PyData.eqv (od o) (wd w) = decide (o = some w) := by
  cases o with
  | none => simp [od, wd, PyData.eqv]
  | some u =>
    show PyData.eqv (wd u) (wd w) = _
    rw [eqv_wd]
    simp
end Wk

set_option Elab.async false
set_option linter.all false
set_option maxRecDepth 100000
set_option maxHeartbeats 4000000
namespace Wk
open PySem PySem.Spec PyProof.Rows L2 Evl
/-! facts of own errors -/
def exB (K : PySem.W.Frag) (C : Addr) : Bool := (match K.lookup C with
  | some o => (match o.cls, o.data, o.slots.toList with
    | .type t, .cls cd, [_, _, _, _, some (.builtin n), _] => decide (t = "type") && (decide (n = "ValueError.__new__") && (cd.hasDict && (!cd.hasDel && (match cd.mro with
      | .ref c :: bm => decide (c = C) && PySem.HandSPX.refsVE bm
      | _ => false))))
    | _, _, _ => false)
  | none => false) && (He.eqO (PySem.W.findIn K (.ref C) "__setattr__") (some (some (.builtin "object.__setattr__"))) && (decide (PySem.W.subIn K (.ref C) (.type "BaseException") = some true) && (decide (PySem.W.typeIn K (.ref C) = some (.type "type")) && (PySem.W.keepIn K (.ref C) && xfB K C))))
theorem exB_ok {K : PySem.W.Frag} {C : Addr} (h : exB K C = true) : OexC K C ∧ XfC K C := by
  unfold exB at h
  obtain ⟨h1, h⟩ := He.ba h
  obtain ⟨h2, h⟩ := He.ba h
  obtain ⟨h3, h⟩ := He.ba h
  obtain ⟨h4, h⟩ := He.ba h
  obtain ⟨h5, h6⟩ := He.ba h
  refine ⟨⟨?_, He.eqO_ok h2, of_decide_eq_true h3, of_decide_eq_true h4, h5⟩, xfB_ok h6⟩
  cases hl : K.lookup C with
  | none =>
    rw [hl] at h1
    cases h1
  | some o =>
    rw [hl] at h1
    obtain ⟨oc, od, dt, ⟨sl⟩⟩ := o
    dsimp only at h1
    split at h1
    · rename_i t cd k0 k1 k2 k3 n k5
      obtain ⟨z1, h1⟩ := He.ba h1
      obtain ⟨z2, h1⟩ := He.ba h1
      obtain ⟨z3, h1⟩ := He.ba h1
      obtain ⟨z4, h1⟩ := He.ba h1
      split at h1
      · rename_i c bm hm
        obtain ⟨z5, z6⟩ := He.ba h1
        obtain ⟨x1, x2, x3, x4, x5, x6, x7, x8, x9, x10, x11⟩ := cd
        dsimp only at z3 z4 hm
        have y1 := of_decide_eq_true z1
        have y2 := of_decide_eq_true z2
        have y5 := of_decide_eq_true z5
        have y4 : x11 = false := by simpa using z4
        subst y1 y2 y5 y4 z3 hm
        exact ⟨x1, x5, x4, x2, bm, x7, x8, x9, x10, od, k0, k1, k2, k3, k5, rfl, z6⟩
      · cases h1
    · cases h1
/-! what isinstance asks of an own class -/
def insB (K : PySem.W.Frag) (C : Addr) : Bool := He.eqO (PySem.W.findIn K (.ref C) "__class__") (some (some (.builtin "object.__class__"))) && (He.eqO (PySem.W.specialIn K (.builtin "object.__class__") "__get__") (some (some (.builtin "getset_descriptor.__get__"))) && (decide (PySem.W.takesIn K (.builtin "object.__class__") = some true) &&
  (decide (PySem.W.mroIn K C (.type "object") = some true) && decide (PySem.W.kitOne K (.ref C) (.type "tuple") = some false))))
theorem insB_ok {K : PySem.W.Frag} {C : Addr} (cl : Cls K C) (h : insB K C = true) : ITx K C := by
  obtain ⟨h1, h⟩ := He.ba h
  obtain ⟨h2, h⟩ := He.ba h
  obtain ⟨h3, h⟩ := He.ba h
  obtain ⟨h4, h5⟩ := He.ba h
  exact ⟨cl, He.eqO_ok h1, He.eqO_ok h2, of_decide_eq_true h3, of_decide_eq_true h4, of_decide_eq_true h5⟩
/-! the head's facts with more of them -/
abbrev AlX : Type := He.AlD × Bool
def obsX (n : Nat) (fa : List He.Fa) (fn : List He.DefD) (eb : PySem.W.Frag → Bool) (g : Addr → Option Obj) : AlX := (He.obsDG n fa fn g, eb (He.frG g (He.asD g n)))
def hookX (n : Nat) (fa : List He.Fa) (fn : List He.DefD) (eb : PySem.W.Frag → Bool) : PySem.W.Hook where
  α := AlX
  obs := fun s => obsX n fa fn eb s.heap.get?
  val := fun _ => (He.valD fn, true)
  says := fun _ h => ∃ K : PySem.W.Frag, K.In h ∧ He.SaysD fa fn K ∧ eb K = true
  of := fun _ _ e => ⟨_, He.frG_in, congrArg Prod.fst e, congrArg Prod.snd e⟩
  keeps := fun _ _ _ ⟨K, hK, c⟩ k => ⟨K, PySem.W.Frag.In.keeps hK k, c⟩
theorem obsX_eq {n : Nat} {fa : List He.Fa} {fn : List He.DefD} {eb : PySem.W.Frag → Bool} {g : Addr → Option Obj} {s : Shared} (h : ∀ a, g a = s.heap.get? a) : obsX n fa fn eb g = (hookX n fa fn eb).obs s := by
  have e : g = s.heap.get? := funext h
  rw [e]
  rfl
theorem calOf {P : Program} {w : World} {K : PySem.W.Frag} {mg : Str → Option Value} {base : Heap} {x q : Str} {params : Arguments} {body : List Stmt} {scope : Scope} {f : Addr} {fd : FuncData} {ps : List Str} {k : Nat} {sp : Sp} (F : FunD K x q params body scope [] [] f fd) (o : FnOk P w K mg base CX0 k f fd ps sp) (g : mg x = some (.ref f)) (b : Binds K fd ps []) : Cal P w K mg base x ps k sp := ⟨⟨f, fd, o, g, F.kp, b⟩⟩
def dG (x : Str) (i : Nat) : He.DefD := ⟨(x, none), x, x, defArgs (top i), defBody (top i), defScope (top i), [], []⟩
def dM (c m q : Str) (i j : Nat) : He.DefD := ⟨(c, some m), m, q, defArgs (inClass (top i) j), defBody (inClass (top i) j), defScope (inClass (top i) j), [], []⟩
end Wk

set_option Elab.async false
set_option linter.all false
set_option maxRecDepth 100000
set_option maxHeartbeats 4000000
namespace Wk
open PySem PySem.Spec PyProof.Rows L2 Evl
def insO (K : PySem.W.Frag) (C : Addr) : Bool := decide (PySem.W.kitOne K (.ref C) (.ref C) = some true)
theorem insO_ok {K : PySem.W.Frag} {C : Addr} (h : insO K C = true) : PySem.W.kitOne K (.ref C) (.ref C) = some true := of_decide_eq_true h
end Wk

set_option Elab.async false
set_option linter.all false
set_option maxRecDepth 100000
set_option maxHeartbeats 0
namespace Wk
open PySem PySem.Spec PyProof.Rows L2 Evl
def fn : List He.DefD := ([dG "is_integer" 7, dG "is_between" 8, dG "is_integer_tuple" 9, dG "is_router" 10, dG "refuse_no_router" 11, dG "is_size" 12, dG "is_way" 13, dG "refuse_wrong_lists" 18, dG "is_way_list" 19, dG "has_let_rest" 20, dG "let_ways" 21, dG "is_let_way" 22, dG "ends" 23, dG "goings_on" 25, dG "wished_more" 26, dG "ladder" 27, dG "is_ladder" 28, dG "_law_pool" 30, dG "_law_mixed" 31, dG "_law_draw" 32, dG "_law_shuffled" 33, dG "_law_plan" 34, dG "_law_lists" 35, dG "_law_pairs" 36, dG "_law_ways" 37, dG "_law_heights" 38, dG "_law_is_ladder" 39, dG "law" 40, dM "Wishes" "__init__" "Wishes.__init__" 17 0, dM "Wishes" "__eq__" "Wishes.__eq__" 17 1] : List He.DefD) ++ ([dM "Wishes" "ways" "Wishes.ways" 17 2, dM "NoRouter" "__init__" "NoRouter.__init__" 3 0, dM "BadWishes" "__init__" "BadWishes.__init__" 4 0] : List He.DefD)
def fa : List He.Fa := ([.glo "is_integer", .glo "is_between", .glo "is_integer_tuple", .glo "is_router", .glo "refuse_no_router", .glo "is_size", .glo "is_way", .glo "refuse_wrong_lists", .glo "is_way_list", .glo "has_let_rest", .glo "let_ways", .glo "is_let_way", .glo "ends", .glo "goings_on", .glo "wished_more", .glo "ladder", .glo "is_ladder", .glo "_law_pool", .glo "_law_mixed", .glo "_law_draw", .glo "_law_shuffled", .glo "_law_plan", .glo "_law_lists", .glo "_law_pairs", .glo "_law_ways", .glo "_law_heights", .glo "_law_is_ladder", .glo "law", .free "isinstance", .free "len"] : List He.Fa) ++ ([.free "tuple", .free "list", .free "int", .free "bool", .free "str", .free "all", .free "set", .free "enumerate", .free "range", .free "abs", .free "min", .free "repr", .free "sorted", .free "max", .free "dict", .int "MOST_ROUTERS" 8, .int "MOST_WAYS" 6, .int "LEAST_ROUTERS" 2, .glo "Wishes", .cls "Wishes", .mkr "Wishes", .meth "Wishes" "ways", .meth "Wishes" "__eq__", .noat "Wishes" "size", .noat "Wishes" "_lists", .glo "BadWishes", .glo "NoRouter", .exm "BadWishes" "BadWishes" true, .exm "NoRouter" "NoRouter" true, .noat "NoRouter" "router"] : List He.Fa) ++ ([.noat "BadWishes" "router", .meth "NoRouter" "__init__", .meth "BadWishes" "__init__"] : List He.Fa)
def eb (K : PySem.W.Frag) : Bool := exB K (He.ga K "NoRouter") && (exB K (He.ga K "BadWishes") && (insB K (He.ga K "Wishes") && insO K (He.ga K "Wishes")))
abbrev R : PySem.W.OpenRow := PySem.W.OpenLaw.row PySem.Challenge.rw_wishreels_k33_ladders_made
def tf : List He.Defn := [("_law_lists", none)]
abbrev hk : PySem.W.Hook := He.hookX 4 fa fn [] tf eb
def ob (s : PySem.W.SharedT) : He.AlX := He.obsX 4 fa fn [] tf eb (HandSHeadRun.getT s)
theorem ob_eq (s : PySem.W.SharedT) : ob s = hk.obs s.abs := He.obsX_eq (HandSHeadRun.getT_eq s)
def loose0 : List Str := ["_wall", "__name__", "WishError", "NoRouter", "BadWishes", "MOST_ROUTERS", "is_integer", "is_between", "is_integer_tuple", "is_router", "refuse_no_router", "is_size", "is_way", "LEAST_ROUTERS", "MOST_WAYS", "Wishes", "refuse_wrong_lists", "is_way_list", "has_let_rest", "let_ways", "is_let_way", "ends", "goings_on", "wished_more", "ladder", "is_ladder", "_law_pool", "_law_mixed", "_law_draw", "_law_shuffled"]
def loose1 : List Str := ["_law_plan", "_law_lists", "_law_pairs", "_law_ways", "_law_heights", "_law_is_ladder"]
def loose : List Str := loose0 ++ loose1
theorem run (w : World) : HandSHeadRun.RunEq R (PySem.W.view R.prog [40]) hk ob 9000 loose w := by
  intro os
  kernel_rfl
end Wk

set_option Elab.async false
set_option linter.all false
set_option maxRecDepth 100000
set_option maxHeartbeats 4000000
namespace Wk
open PySem PySem.Spec PyProof.Rows L2 Evl
section
variable {P : Program} {w : World} {K : PySem.W.Frag} {mg : Str → Option Value} {base : Heap} {f : Addr} {fd : FuncData}
/-! _law_draw -/
def spDraw : Sp := fun vs H Q _ => ∃ (G : Hp) (p q : Addr) (z : Int), vs = [.ref p, .int z] ∧ Pl G H p q ∧ 0 < z ∧ z ≤ 1000000000 ∧ ∀ H' (i : Int), Pl G H' p q → 0 ≤ i → i < z → Q (.int i) H'
abbrev sDraw : Stmt := top 32
abbrev nDraw : List Str := ["_law_pool_here", "_law_many", "_law_cell", "_law_digit"]
theorem scDraw : FnScope nDraw ["_law_pool_here", "_law_many"] (defScope sDraw) := ⟨rfl, rfl, rfl, by decide +kernel, rfl, by decide +kernel, by decide +kernel⟩
theorem ok_draw (B : Bl mg) (C : Cal P w K mg base "_law_mixed" ["_law_number", "_law_turn"] 1 spMix) (F : FnP K "_law_draw" sDraw f fd) : FnOk P w K mg base CX0 2 f fd ["_law_pool_here", "_law_many"] spDraw := by
  refine F.ok scDraw (fun vs H Q E h => ?_) (fun cdv A outer s H vs Q E hr h => ?_)
  · obtain ⟨G, p, q, z, rfl, _⟩ := h
    rfl
  · obtain ⟨G, p, q, z, rfl, hP, hz, hz2, k⟩ := h
    refine ⟨_, pss_cons (ps_asg (pe_op op_add (pe_ix (ix_listK (K := K) rfl) (pv 0) pe_int (fun _ _ => rfl)) pe_int) (pg_sub (pv 0) pe_int set_list))
      (pss_cut (ps_if (PW.pt (pw_and (pt_cmpR op_eq (pe_ix (ix_listK (K := K) rfl) (pv 0) pe_int (fun _ _ => rfl)) pe_int (nomark _)) (pw_and1 (pt_cmpR op_lt (pe_ix (ix_listK (K := K) rfl) (pv 0) pe_int (fun _ _ => rfl)) (pe_callB call_len_seq (by rfl) B.len PySem.boot_len (pa_cons (pe_ix (ix_listK (K := K) rfl) (pv 0) pe_int (fun _ _ => rfl)) pa_nil)) (nomark _)))))
          (pss_cons (ps_set (i := 2) scDraw.nd rfl (Or.inl rfl) (pe_ix (ix_listK (K := K) rfl) (pe_ix (ix_listK (K := K) rfl) (pv 0) pe_int (fun _ _ => rfl)) (pe_ix (ix_listK (K := K) rfl) (pv 0) pe_int (fun _ _ => rfl)) (fun _ _ => rfl)))
          (pss_cons (ps_asg (pe_op op_add (pe_ix (ix_listK (K := K) rfl) (pv 0) pe_int (fun _ _ => rfl)) pe_int) (pg_sub (pv 0) pe_int set_list))
          (pss_cons (ps_if (pt_cmpR op_lt (pv 2) (pe_op op_pow pe_int pe_int) (nomark _)) (pss_one (ps_ret (pe_op op_mod (pe_callTy call_int1 (by rfl) B.int PyProof.Rows.boot_int (pa_cons (pe_cal C hr (by rfl) (pa_cons (pv 2) (pa_cons (pe_ix (ix_listK (K := K) rfl) (pv 0) pe_int (fun _ _ => rfl)) pa_nil))) pa_nil)) (pv 1)))) pss_nil)
          (pss_one (ps_asg (pe_op op_fdiv (pv 2) pe_int) (pg_sub (pv 0) pe_int set_list)))))) pss_nil)
      (pss_cons (ps_if (pt_cmpR op_gt (pe_ix (ix_listK (K := K) rfl) (pv 0) pe_int (fun _ _ => rfl)) pe_int (nomark _))
          (pss_cons (ps_set (i := 3) scDraw.nd rfl (Or.inl rfl) (pe_op op_mod (pe_callTy call_int1 (by rfl) B.int PyProof.Rows.boot_int (pa_cons (pe_ix (ix_listK (K := K) rfl) (pv 0) pe_int (fun _ _ => rfl)) pa_nil)) (pv 1)))
          (pss_cons (ps_asg (pe_op op_fdiv (pe_ix (ix_listK (K := K) rfl) (pv 0) pe_int (fun _ _ => rfl)) (pv 1)) (pg_sub (pv 0) pe_int set_list))
          (pss_one (ps_ret (pv 3))))) pss_nil)
      (pss_one (ps_ret (pe_op op_mod (pe_callTy call_int1 (by rfl) B.int PyProof.Rows.boot_int (pa_cons (pe_cal C hr (by rfl) (pa_cons (pe_ix (ix_listK (K := K) rfl) (pv 0) pe_int (fun _ _ => rfl)) (pa_cons (pe_ix (ix_listK (K := K) rfl) (pv 0) pe_int (fun _ _ => rfl)) pa_nil))) pa_nil)) (pv 1)))))), ?_⟩
    obtain ⟨cs, i, h, t, f', x⟩ := hP.a
    refine q_setL (l := p) (xs := plV q i h t f') (j := 3) x.hp (ev_op (x.ix (k := 3) rfl rfl) ev_c rv_I0) (ev_var rfl) ev_c (by show 3 < 5; decide) fun H1 e1 => ?_
    have x1 := (x.mono e1).set (i' := i) (h' := h) (t' := t + 1) (f' := f') x.i0
    change tCut _ _ _ [some (.ref p), some (.int z), none, none] (upd H1 p (.lst (plV q i h (t + 1) f')))
    generalize upd H1 p (.lst (plV q i h (t + 1) f')) = H2 at *
    -- what a mixed cell gives
    have mix : ∀ {H3 : Hp} {σ : L2.St} {j k1 k2 : Nat} {te1 te2 : TE} {n1 n2 : Int} {D : Ends}, Pl G H3 p q → σ[1]? = some (some (.int z)) → Ev te1 σ H3 (.int n1) → Ev te2 σ H3 (.int n2) → D.rt = Q → tRet (tOp (rI (fun _ j => 0 < j) fun i j => .int (i % j)) (tInt (tCall spMix [] E0 (tCons te1 (tCons te2 tNil)))) (tVar 1)) D σ H3 := fun {H3 σ j k1 k2 te1 te2 n1 n2 D} hp3 hσ h1 h2 hD => by
      refine h1 H3 (Ex.refl _) _ fun H4 e4 => h2 H4 e4 _ fun H5 e5 => ⟨n1, n2, rfl, fun H6 y e6 => .inl ⟨y, rfl, .int z, hσ, y, z, rfl, rfl, hz, ?_⟩⟩
      rw [hD]
      have m := modP y z hz
      exact k H6 _ (hp3.ext ((e4.trans e5).trans e6)) m.1 m.2
    refine q_cut (M := fun σ' H' => ∃ (i h t f : Int) (o2 : Option V), σ' = [some (.ref p), some (.int z), o2, none] ∧ PlA G H' p q cs i h t f) ?_ fun σ' H' hm => ?_
    · have c1 : EvT (tTest (tOp rEq (tOp (rIxL K) (tVar 0) (tC (.int 2))) (tC (.int 0)))) [some (.ref p), some (.int z), none, none] H2 (decide (V.int h = V.int 0)) := et_test (ev_op (x1.ix (k := 2) rfl rfl) ev_c (rv_eq rfl))
      have c2 : EvT (tTest (tOp (rI0 fun i j => .bl (decide (i < j))) (tOp (rIxL K) (tVar 0) (tC (.int 1))) (tCB (rLenS K) (tCons (tOp (rIxL K) (tVar 0) (tC (.int 0))) tNil)))) [some (.ref p), some (.int z), none, none] H2 (decide (i < ((cs.map V.int).length : Int))) :=
        et_test (ev_op (x1.ix (k := 1) rfl rfl) (ev_len (K := K) (x1.ix (k := 0) rfl rfl) (sq_of x1.hq)) rv_I0)
      refine s_when (b := decide (V.int h = V.int 0) && decide (i < ((cs.map V.int).length : Int))) (et_and c1 fun _ => c2) (fun hb H3 e3 => ?_) (fun hb H3 e3 => ⟨_, _, _, _, _, rfl, x1.mono e3⟩)
      have hi : i < ((cs.map V.int).length : Int) := by
        have : (decide (V.int h = V.int 0) && decide (i < ((cs.map V.int).length : Int))) = true := hb
        rw [Bool.and_eq_true] at this
        exact of_decide_eq_true this.2
      rw [List.length_map] at hi
      obtain ⟨j, rfl⟩ : ∃ j : Nat, i = (j : Int) := ⟨i.toNat, by have := x.i0; omega⟩
      have hj : j < cs.length := by omega
      have x3 := x1.mono e3
      refine q_asg (v := .int cs[j]) (ev_op (x3.ix (k := 0) rfl rfl) (x3.ix (k := 1) rfl rfl) (rv_ixL (sq_of x3.hq) (at_ints hj))) fun H4 e4 => ?_
      have x4 := x3.mono e4
      generalize cs[j] = c
      change tSeq _ _ _ [some (.ref p), some (.int z), some (.int c), none] H4
      refine q_setL (l := p) (xs := plV q (j : Int) h (t + 1) f') (j := 1) x4.hp (ev_op (x4.ix (k := 1) rfl rfl) ev_c rv_I0) (ev_var rfl) ev_c (by show 1 < 5; decide) fun H5 e5 => ?_
      have x5 := (x4.mono e5).set (i' := (j : Int) + 1) (h' := h) (t' := t + 1) (f' := f') (by omega)
      change tSeq _ _ _ [some (.ref p), some (.int z), some (.int c), none] (upd H5 p (.lst (plV q ((j : Int) + 1) h (t + 1) f')))
      generalize upd H5 p (.lst (plV q ((j : Int) + 1) h (t + 1) f')) = H6 at *
      refine q_when (b := decide (c < 10 ^ (18 : Int).toNat)) (et_test (ev_op (r := rI0 fun i j => .bl (decide (i < j))) (ev_var rfl) (ev_op ev_c ev_c (rv_I ⟨by decide, by decide, by decide⟩)) rv_I0)) (fun _ H7 e7 => ?_) (fun _ H7 e7 => ?_)
      · have x7 := x5.mono e7
        exact mix (j := 0) (k1 := 0) (k2 := 0) x7.pl rfl (ev_var rfl) (x7.ix (k := 3) rfl rfl) rfl
      · have x7 := x5.mono e7
        refine s_setL (l := p) (xs := plV q ((j : Int) + 1) h (t + 1) f') (j := 2) x7.hp (ev_op (ev_var rfl) ev_c (rv_I ⟨by decide, by decide⟩)) (ev_var rfl) ev_c (by show 2 < 5; decide) fun H8 e8 => ?_
        exact ⟨_, _, _, _, _, rfl, (x7.mono e8).set (i' := (j : Int) + 1) (h' := c / 2) (t' := t + 1) (f' := f') (by omega)⟩
    · obtain ⟨i, h, t, f', o2, rfl, y⟩ := hm
      refine q_when (b := decide (0 < h)) (et_test (ev_op (r := rI0 fun i j => .bl (decide (j < i))) (y.ix (k := 2) rfl rfl) ev_c rv_I0)) (fun _ H7 e7 => ?_) (fun _ H7 e7 => ?_)
      · have y7 := y.mono e7
        refine q_asg (ev_op (ev_int (y7.ix (k := 2) rfl rfl)) (ev_var rfl) (rv_I hz)) fun H8 e8 => ?_
        have y8 := y7.mono e8
        have m := modP h z hz
        change tSeq _ _ _ [some (.ref p), some (.int z), o2, some (.int (h % z))] H8
        refine q_setL (l := p) (xs := plV q i h t f') (j := 2) y8.hp (ev_op (y8.ix (k := 2) rfl rfl) (ev_var rfl) (rv_I ⟨hz, by omega⟩)) (ev_var rfl) ev_c (by show 2 < 5; decide) fun H9 e9 => ?_
        have y9 := (y8.mono e9).set (i' := i) (h' := h / z) (t' := t) (f' := f') y.i0
        change tRet _ _ [some (.ref p), some (.int z), o2, some (.int (h % z))] (upd H9 p (.lst (plV q i (h / z) t f')))
        exact s_ret (ev_var rfl) fun HA eA => k HA _ (y9.mono eA).pl m.1 m.2
      · have y7 := y.mono e7
        exact mix (j := 0) (k1 := 0) (k2 := 0) y7.pl rfl (y7.ix (k := 4) rfl rfl) (y7.ix (k := 3) rfl rfl) rfl
end
/-- a draw, as a call -/
theorem ev_draw {G H : Hp} {p q : Addr} {z : Int} {Q : VK} (h : Pl G H p q) (hz : 0 < z) (hz2 : z ≤ 1000000000) (k : ∀ H' (i : Int), Pl G H' p q → Off p q H H' → 0 ≤ i → i < z → Q (.int i) H') (E : XK) : spDraw [.ref p, .int z] H Q E :=
  ⟨Hd H p q, p, q, z, rfl, h.hd, hz, hz2, fun H' i hP h0 h1 => k H' i (h.back hP) hP.off h0 h1⟩
end Wk

set_option Elab.async false
set_option linter.all false
set_option maxRecDepth 100000
set_option maxHeartbeats 4000000
namespace Wk
open PySem PySem.Spec PyProof.Rows L2 Evl
section
variable {P : Program} {w : World} {K : PySem.W.Frag} {mg : Str → Option Value} {base : Heap} {f : Addr} {fd : FuncData}
/-! _law_shuffled -/
def spShuf (K : PySem.W.Frag) : Sp := fun vs H Q _ => ∃ (G : Hp) (p q a : Addr) (us : List V), vs = [.ref p, .ref a] ∧ Pl G H p q ∧ SqL K H a us ∧ us.length ≤ 1000 ∧ ∀ H' b (os : List V), Pl G H' p q → Off p q H H' → H b = none → H' b = some (.lst os) → os.Perm us → Q (.ref b) H'
abbrev sShuf : Stmt := top 33
abbrev nShuf : List Str := ["_law_pool_here", "_law_row", "_law_rest", "_law_drawn", "_law_k"]
theorem scShuf : FnScope nShuf ["_law_pool_here", "_law_row"] (defScope sShuf) := ⟨rfl, rfl, rfl, by decide +kernel, rfl, by decide +kernel, by decide +kernel⟩
theorem ok_shuf (B : Bl mg) (C : Cal P w K mg base "_law_draw" ["_law_pool_here", "_law_many"] 2 spDraw) (F : FnP K "_law_shuffled" sShuf f fd) : FnOk P w K mg base CX0 3 f fd ["_law_pool_here", "_law_row"] (spShuf K) := by
  refine F.ok scShuf (fun vs H Q E h => ?_) (fun cdv A outer s H vs Q E hr h => ?_)
  · obtain ⟨G, p, q, a, us, rfl, _⟩ := h
    rfl
  · obtain ⟨G, p, q, a, us, rfl, hP, ha, hu, k⟩ := h
    refine ⟨_, pss_cons (ps_set (i := 2) scShuf.nd rfl (Or.inl rfl) (pe_callTy (call_listK2 (K := K) rfl) (by rfl) B.list PyProof.Rows.boot_list (pa_cons (pv 1) pa_nil)))
      (pss_cons (ps_set (i := 3) scShuf.nd rfl (Or.inl rfl) (pe_lst pa_nil))
      (pss_cons (ps_for (passes_of rfl) rfl (pi_range1 (by rfl) B.range (pa_cons (pe_callB call_len_seq (by rfl) B.len PySem.boot_len (pa_cons (pv 1) pa_nil)) pa_nil)) (pg_name (i := 4) scShuf.nd rfl (Or.inl rfl))
        (pss_one (ps_expr (pe_bm PySem.F.plainAttrs_list PySem.F.slot_list_append PySem.F.type_list_append mt_append (pv 3) (pa_cons
          (pe_bm PySem.F.plainAttrs_list PySem.F.slot_list_pop PySem.F.type_list_pop mt_popAt (pv 2) (pa_cons (pe_cal C hr (by rfl) (pa_cons (pv 0) (pa_cons (pe_callB call_len_seq (by rfl) B.len PySem.boot_len (pa_cons (pv 2) pa_nil)) pa_nil))) pa_nil)) pa_nil)))))
      (pss_one (ps_ret (pv 3))))), ?_⟩
    refine ⟨.ref a, rfl, a, us, rfl, .inl ha, fun a1 ha1 => ?_⟩
    refine ⟨by show 0 ≤ sizeLine; decide, fun a2 ha2 => ?_⟩
    have n12 : a1 ≠ a2 := fun z => by rw [← z, upd_same] at ha2; cases ha2
    have ha2' : H a2 = none := by rw [upd_ne (Ne.symm n12)] at ha2; exact ha2
    have ga1 := fresh_back hP.ex ha1
    have ga2 := fresh_back hP.ex ha2'
    have p1 := hP.np ha1
    have q1 := hP.nq ha1
    have p2 := hP.np ha2'
    have q2 := hP.nq ha2'
    change tSeq _ _ _ [some (.ref p), some (.ref a), some (.ref a1), some (.ref a2), none] _
    have eH : Ex H (upd (upd H a1 (.lst us)) a2 (.lst [])) := (Ex.new ha1).trans (Ex.new ha2)
    refine q_forR1 (ea_cons (ev_len (K := K) (ev_var rfl) (ex_l eH ha)) ea_nil) (n := (us.length : Int)) (by omega) (fun i σ' H' => ∃ (ls os : List V) (o : Option V), σ' = [some (.ref p), some (.ref a), some (.ref a1), some (.ref a2), o] ∧ Pl G H' p q ∧ Off p q H H' ∧ H' a1 = some (.lst ls) ∧ H' a2 = some (.lst os) ∧ ls.length + i = us.length ∧ os.length = i ∧ (os ++ ls).Perm us) ?_ ?_ ?_
    · intro H1 e1
      exact ⟨_, [], none, rfl, (hP.ext eH).ext e1, Off.ex (eH.trans e1), e1 _ _ (by rw [upd_ne n12, upd_same]), e1 _ _ upd_same, by simp, rfl, List.Perm.refl _⟩
    · rintro i σ' H1 hi ⟨ls, os, o, rfl, hP1, hO, h1, h2, hl, hol, hpm⟩
      have hlp : 0 < ls.length := by omega
      refine ⟨.ref a2, rfl, .inl ⟨rfl, _, sq_of h2⟩, .ref a1, rfl, .inl ⟨rfl, _, sq_of h1⟩, .ref p, rfl, .ref a1, rfl, a1, _, rfl, .inl (sq_of h1), ?_⟩
      refine ⟨Hd H1 p q, p, q, (ls.length : Int), rfl, hP1.hd, by omega, by omega, fun H2 j hP0 hj0 hj1 => ?_⟩
      have hP2 := hP1.back hP0
      have hO2 := hP0.off
      obtain ⟨m, rfl⟩ : ∃ m : Nat, j = (m : Int) := ⟨j.toNat, by omega⟩
      have hm : m < ls.length := by omega
      have h1' := hO2 _ _ p1 q1 h1
      have h2' := hO2 _ _ p2 q2 h2
      refine ⟨a1, _, (m : Int), m, ls[m], rfl, rfl, h1', by omega, by omega, seqIx hm, List.getElem?_eq_getElem hm, ?_⟩
      refine ⟨a2, _, ls[m], rfl, rfl, by rw [upd_ne (Ne.symm n12)]; exact h2', by rw [sizeLine_eq]; omega, ?_⟩
      have hpm2 : ((os ++ [ls[m]]) ++ ls.eraseIdx m).Perm us := by
        rw [List.append_assoc]
        exact ((erase_perm ls m hm).append_left os).trans hpm
      refine ⟨ls.eraseIdx m, os ++ [ls[m]], _, rfl, (hP2.mut ga1 p1 q1).mut ga2 p2 q2, fun b u hb1 hb2 hb => ?_, by rw [upd_ne n12, upd_same], upd_same, by rw [List.length_eraseIdx_of_lt hm]; omega, by simp; omega, hpm2⟩
      have nb1 : b ≠ a1 := ne_of_none hb ha1
      have nb2 : b ≠ a2 := ne_of_none hb ha2'
      rw [upd_ne nb2, upd_ne nb1]
      exact hO2 _ _ hb1 hb2 (hO _ _ hb1 hb2 hb)
    · rintro σ' H1 ⟨ls, os, o, rfl, hP1, hO, h1, h2, hl, hol, hpm⟩
      have hls : ls = [] := List.length_eq_zero_iff.mp (by omega)
      subst hls
      rw [List.append_nil] at hpm
      exact ⟨.ref a2, rfl, k H1 a2 os hP1 hO ha2' h2 hpm⟩
end
end Wk

set_option Elab.async false
set_option linter.all false
set_option maxRecDepth 100000
set_option maxHeartbeats 4000000
namespace Wk
open PySem PySem.Spec PyProof.Rows L2 Evl
/-! new data, nothing drawn -/
def EvN (te : TE) (σ : L2.St) (H : Hp) (d : PyData) : Prop := ∀ H1, Ex H H1 → ∀ Q : VK, (∀ v H2, Ex H1 H2 → Dq H2 v d → Q v H2) → te σ H1 Q
def EvNA (ta : TA) (σ : L2.St) (H : Hp) (ds : List PyData) : Prop := ∀ H1, Ex H H1 → ∀ Q : List V → Hp → Prop, (∀ vs H2, Ex H1 H2 → vs.length = ds.length → DqA H2 vs ds → Q vs H2) → ta σ H1 Q
section
variable {σ : L2.St} {H : Hp} {te : TE} {ta : TA} {d : PyData} {ds : List PyData}
theorem en_nil : EvNA tNil σ H [] := fun H1 e Q q => q [] H1 (Ex.refl _) rfl .nil
theorem en_cons (h : EvN te σ H d) (hr : EvNA ta σ H ds) : EvNA (tCons te ta) σ H (d :: ds) := fun H1 e Q q =>
  h H1 e _ fun v H2 e2 hv => hr H2 (e.trans e2) _ fun vs H3 e3 hl hvs => q (v :: vs) H3 (e2.trans e3) (by simp [hl]) (.cons (hv.mono e3) hvs)
theorem en_int {i : Int} : EvN (tC (.int i)) σ H (.int i) := fun H1 e Q q => q _ H1 (Ex.refl _) (.int i)
theorem en_tup (h : EvNA ta σ H ds) (hl : ds.length ≤ 1000) (hn : ∀ d ∈ ds, ∀ es, d ≠ .tuple es) : EvN (tTup ta) σ H (.tuple ds) := fun H1 e Q q => h H1 e _ fun vs H2 e2 hv hvs =>
  ⟨sz_of (by omega), fun p hp => q _ _ (e2.trans (Ex.new hp)) (.tup upd_same hn (hvs.mono (Ex.new hp)))⟩
theorem en_lst (h : EvNA ta σ H ds) (hl : ds.length ≤ 1000) : EvN (tLst ta) σ H (.list ds) := fun H1 e Q q => h H1 e _ fun vs H2 e2 hv hvs =>
  ⟨sz_of (by omega), fun p hp => q _ _ (e2.trans (Ex.new hp)) (.lst upd_same (hvs.mono (Ex.new hp)))⟩
theorem q_asgN {i : Nat} {tz : TS} {D : Ends} (h : EvN te σ H d) (k : ∀ v H1, Ex H H1 → Dq H1 v d → tz D (σ.set i (some v)) H1) : tSeq (tAsg te (gName i)) tz D σ H := h H (Ex.refl H) _ k
end
theorem pw2 {X : Cx} {i0 i1 : Int} {j0 j1 k : Nat} {p0 p1 pos : Pos} : PE X (.Tuple [.Constant (.int i0) j0 p0, .Constant (.int i1) j1 p1] k pos) (tTup (tCons (tC (.int i0)) (tCons (tC (.int i1)) tNil))) := pe_tup (pa_cons pe_int (pa_cons pe_int pa_nil))
theorem ew2 {σ : L2.St} {H : Hp} {i0 i1 : Int} : EvN (tTup (tCons (tC (.int i0)) (tCons (tC (.int i1)) tNil))) σ H (wd [i0, i1]) := en_tup (en_cons en_int (en_cons en_int en_nil)) (by simp) (nt_ints _)
theorem pw3 {X : Cx} {i0 i1 i2 : Int} {j0 j1 j2 k : Nat} {p0 p1 p2 pos : Pos} : PE X (.Tuple [.Constant (.int i0) j0 p0, .Constant (.int i1) j1 p1, .Constant (.int i2) j2 p2] k pos) (tTup (tCons (tC (.int i0)) (tCons (tC (.int i1)) (tCons (tC (.int i2)) tNil)))) := pe_tup (pa_cons pe_int (pa_cons pe_int (pa_cons pe_int pa_nil)))
theorem ew3 {σ : L2.St} {H : Hp} {i0 i1 i2 : Int} : EvN (tTup (tCons (tC (.int i0)) (tCons (tC (.int i1)) (tCons (tC (.int i2)) tNil)))) σ H (wd [i0, i1, i2]) := en_tup (en_cons en_int (en_cons en_int (en_cons en_int en_nil))) (by simp) (nt_ints _)
theorem pw4 {X : Cx} {i0 i1 i2 i3 : Int} {j0 j1 j2 j3 k : Nat} {p0 p1 p2 p3 pos : Pos} : PE X (.Tuple [.Constant (.int i0) j0 p0, .Constant (.int i1) j1 p1, .Constant (.int i2) j2 p2, .Constant (.int i3) j3 p3] k pos) (tTup (tCons (tC (.int i0)) (tCons (tC (.int i1)) (tCons (tC (.int i2)) (tCons (tC (.int i3)) tNil))))) := pe_tup (pa_cons pe_int (pa_cons pe_int (pa_cons pe_int (pa_cons pe_int pa_nil))))
theorem ew4 {σ : L2.St} {H : Hp} {i0 i1 i2 i3 : Int} : EvN (tTup (tCons (tC (.int i0)) (tCons (tC (.int i1)) (tCons (tC (.int i2)) (tCons (tC (.int i3)) tNil))))) σ H (wd [i0, i1, i2, i3]) := en_tup (en_cons en_int (en_cons en_int (en_cons en_int (en_cons en_int en_nil)))) (by simp) (nt_ints _)
theorem pw5 {X : Cx} {i0 i1 i2 i3 i4 : Int} {j0 j1 j2 j3 j4 k : Nat} {p0 p1 p2 p3 p4 pos : Pos} : PE X (.Tuple [.Constant (.int i0) j0 p0, .Constant (.int i1) j1 p1, .Constant (.int i2) j2 p2, .Constant (.int i3) j3 p3, .Constant (.int i4) j4 p4] k pos) (tTup (tCons (tC (.int i0)) (tCons (tC (.int i1)) (tCons (tC (.int i2)) (tCons (tC (.int i3)) (tCons (tC (.int i4)) tNil)))))) := pe_tup (pa_cons pe_int (pa_cons pe_int (pa_cons pe_int (pa_cons pe_int (pa_cons pe_int pa_nil)))))
theorem ew5 {σ : L2.St} {H : Hp} {i0 i1 i2 i3 i4 : Int} : EvN (tTup (tCons (tC (.int i0)) (tCons (tC (.int i1)) (tCons (tC (.int i2)) (tCons (tC (.int i3)) (tCons (tC (.int i4)) tNil)))))) σ H (wd [i0, i1, i2, i3, i4]) := en_tup (en_cons en_int (en_cons en_int (en_cons en_int (en_cons en_int (en_cons en_int en_nil))))) (by simp) (nt_ints _)
/-- the plans of ways -/
def plans : List (List Wy) := [[[1, 2, 0], [1, 0], [2, 1, 0], [2, 0]], [[1, 2, 0], [1, 0], [2, 3, 0], [2, 0], [3, 1, 0], [3, 0]], [[1, 2, 0], [1, 0], [2, 3, 1, 0], [2, 0], [3, 4, 1, 0], [3, 1, 0], [4, 1, 0]], [[1, 2, 0], [1, 4, 0], [2, 4, 3, 0], [2, 0], [3, 1, 4, 0], [3, 0], [4, 3, 0], [4, 0]], [[1, 2, 3, 4, 0], [1, 3, 0], [2, 1, 3, 0], [2, 3, 4, 0], [3, 0], [3, 4, 0], [4, 0]], [[1, 5, 4, 2, 0], [1, 0], [2, 4, 5, 3, 0], [2, 0], [3, 1, 0], [3, 0], [4, 2, 0], [4, 5, 3, 0], [5, 3, 0], [5, 4, 2, 0]], [[1, 2, 0], [1, 0], [2, 3, 0], [2, 0], [3, 4, 0], [3, 0], [4, 1, 0], [4, 0]], []]
theorem plans_all : ∀ p ∈ plans, p.length ≤ 10 ∧ p.Nodup ∧ ∀ w ∈ p, 2 ≤ w.length ∧ w.length ≤ 6 ∧ w.Nodup ∧ w.getLast? = some 0 ∧ (∀ x ∈ w, 0 ≤ x ∧ x < 6) ∧ (w.drop 1 = [0] ∨ w.drop 1 ∈ p) ∧ (∀ x ∈ w.take 1, 1 ≤ x) := by decide +kernel
theorem plans_two : ∀ p ∈ plans, ∀ r ∈ ([0, 1, 2, 3, 4, 5, 6, 7] : List Int), (p.filter fun w => decide (w[0]? = some r)).length ≤ 2 := by decide +kernel
section
variable {P : Program} {w : World} {K : PySem.W.Frag} {mg : Str → Option Value} {base : Heap} {f : Addr} {fd : FuncData}
/-! _law_plan -/
def spPlan : Sp := fun vs H Q _ => ∃ k : Nat, vs = [.int (k : Int)] ∧ k < 8 ∧ ∀ H' l us, Ex H H' → H' l = some (.lst us) → DqA H' us ((plans.getD k []).map wd) → Q (.ref l) H'
abbrev sPlan : Stmt := top 34
abbrev nPlan : List Str := ["_law_kind", "_law_plans"]
theorem scPlan : FnScope nPlan ["_law_kind"] (defScope sPlan) := ⟨rfl, rfl, rfl, by decide +kernel, rfl, by decide +kernel, by decide +kernel⟩
theorem ok_plan (F : FnP K "_law_plan" sPlan f fd) : FnOk P w K mg base CX0 1 f fd ["_law_kind"] spPlan := by
  refine F.ok scPlan (fun vs H Q E h => ?_) (fun cdv A outer s H vs Q E hr h => ?_)
  · obtain ⟨k, rfl, _⟩ := h
    rfl
  · obtain ⟨kk, rfl, hk, k⟩ := h
    refine ⟨_, pss_cons (ps_set (i := 1) scPlan.nd rfl (Or.inl rfl) (pe_lst (pa_cons (pe_lst (pa_cons pw3 (pa_cons pw2 (pa_cons pw3 (pa_cons pw2 pa_nil))))) (pa_cons (pe_lst (pa_cons pw3 (pa_cons pw2 (pa_cons pw3 (pa_cons pw2 (pa_cons pw3 (pa_cons pw2 pa_nil))))))) (pa_cons (pe_lst (pa_cons pw3 (pa_cons pw2 (pa_cons pw4 (pa_cons pw2 (pa_cons pw4 (pa_cons pw3 (pa_cons pw3 pa_nil)))))))) (pa_cons (pe_lst (pa_cons pw3 (pa_cons pw3 (pa_cons pw4 (pa_cons pw2 (pa_cons pw4 (pa_cons pw2 (pa_cons pw3 (pa_cons pw2 pa_nil))))))))) (pa_cons (pe_lst (pa_cons pw5 (pa_cons pw3 (pa_cons pw4 (pa_cons pw4 (pa_cons pw2 (pa_cons pw3 (pa_cons pw2 pa_nil)))))))) (pa_cons (pe_lst (pa_cons pw5 (pa_cons pw2 (pa_cons pw5 (pa_cons pw2 (pa_cons pw3 (pa_cons pw2 (pa_cons pw3 (pa_cons pw4 (pa_cons pw3 (pa_cons pw4 pa_nil))))))))))) (pa_cons (pe_lst (pa_cons pw3 (pa_cons pw2 (pa_cons pw3 (pa_cons pw2 (pa_cons pw3 (pa_cons pw2 (pa_cons pw3 (pa_cons pw2 pa_nil))))))))) (pa_cons (pe_lst pa_nil) pa_nil)))))))))) (pss_one (ps_ret (pe_ix (ix_listK (K := K) rfl) (pv 1) (pv 0) (fun _ _ => rfl)))), ?_⟩
    refine q_asgN (d := .list (plans.map fun p => PyData.list (p.map wd))) (en_lst (en_cons (en_lst (en_cons ew3 (en_cons ew2 (en_cons ew3 (en_cons ew2 en_nil)))) (by simp)) (en_cons (en_lst (en_cons ew3 (en_cons ew2 (en_cons ew3 (en_cons ew2 (en_cons ew3 (en_cons ew2 en_nil)))))) (by simp)) (en_cons (en_lst (en_cons ew3 (en_cons ew2 (en_cons ew4 (en_cons ew2 (en_cons ew4 (en_cons ew3 (en_cons ew3 en_nil))))))) (by simp)) (en_cons (en_lst (en_cons ew3 (en_cons ew3 (en_cons ew4 (en_cons ew2 (en_cons ew4 (en_cons ew2 (en_cons ew3 (en_cons ew2 en_nil)))))))) (by simp)) (en_cons (en_lst (en_cons ew5 (en_cons ew3 (en_cons ew4 (en_cons ew4 (en_cons ew2 (en_cons ew3 (en_cons ew2 en_nil))))))) (by simp)) (en_cons (en_lst (en_cons ew5 (en_cons ew2 (en_cons ew5 (en_cons ew2 (en_cons ew3 (en_cons ew2 (en_cons ew3 (en_cons ew4 (en_cons ew3 (en_cons ew4 en_nil)))))))))) (by simp)) (en_cons (en_lst (en_cons ew3 (en_cons ew2 (en_cons ew3 (en_cons ew2 (en_cons ew3 (en_cons ew2 (en_cons ew3 (en_cons ew2 en_nil)))))))) (by simp)) (en_cons (en_lst en_nil (by simp)) en_nil)))))))) (by decide)) fun v H1 e1 hv => ?_
    change tRet _ _ [some (.int (kk : Int)), some v] H1
    cases hv with
    | lst h1 h2 =>
      rename_i a xs
      have hl : xs.length = 8 := by rw [h2.length]; rfl
      have hp : plans[kk]? = some (plans.getD kk []) := by
        rw [List.getD_eq_getElem?_getD, List.getElem?_eq_getElem (show kk < plans.length from hk)]
        rfl
      obtain ⟨x, hx, hdd⟩ := h2.at (i := kk) (d := .list ((plans.getD kk []).map wd)) (by rw [List.getElem?_map, hp]; rfl)
      refine s_ret (ev_op (ev_var rfl) (ev_var rfl) (rv_ixL (sq_of h1) (atI_nat hx))) fun H2 e2 => ?_
      cases hdd with
      | lst h3 h4 => exact k H2 _ _ (e1.trans e2) (e2 _ _ h3) (h4.mono e2)
end
end Wk

set_option Elab.async false
set_option linter.all false
set_option maxRecDepth 100000
set_option maxHeartbeats 4000000
/-! a lambda with parameters, made in a def, called by min(.., key=..) -/
namespace LmP
open PySem PySem.Spec PyProof.Rows L2 LamX NdefX
/-- the object at f is the lambda of the words F (its body is e) -/
abbrev lfd (F : NF) (e : Expr) (pm ctv : Value) : FuncData := PySem.W.kla_fn "<lambda>" F.qual F.params e F.scope F.cl pm (.ref F.c) ctv
def LmO (f : Addr) (F : NF) (e : Expr) : HO := .ext fun h => ∃ (od : Option Addr) (sl : Array (Option Value)) (pm ctv : Value), h.get? f = some (⟨.type "function", od, .func (lfd F e pm ctv), sl⟩ : Obj)
theorem lmO_ne {f : Addr} {F : NF} {e : Expr} (ps : Array Value) : LmO f F e ≠ .tbl ps := fun z => by
  unfold LmO at z
  cases z
theorem lmO_at {P : Program} {w : World} {H : Hp} {h : Heap} {f : Addr} {F : NF} {e : Expr} (hok : HOk P w H h) (z : H f = some (LmO f F e)) : ∃ (od : Option Addr) (sl : Array (Option Value)) (pm ctv : Value), h.get? f = some (⟨.type "function", od, .func (lfd F e pm ctv), sl⟩ : Obj) := by
  obtain ⟨z, _, _⟩ := hok f _ z
  exact z
section
variable {X : Cx} {pins : List (Addr × Obj)} {σ : L2.St} {H : Hp} {s : Shared}
theorem inv_lm {F : NF} {e : Expr} {o : Obj} {t' : Nat} {pm ctv : Value} (I : Inv X pins σ H s) (ho : o = { cls := .type "function", data := .func (lfd F e pm ctv) }) :
    Inv X pins σ (upd H s.heap.objs.size (LmO s.heap.objs.size F e)) { s with heap := s.heap.push o, toks := t' } := by
  subst ho
  refine I.laid (a := s.heap.objs.size) (fun b u e => Heap.get?_push_of_some _ e) (Nat.le_refl _) ?_
  have q : (s.heap.push ({ cls := .type "function", data := .func (lfd F e pm ctv) } : Obj)).get? s.heap.objs.size = some ({ cls := .type "function", data := .func (lfd F e pm ctv) } : Obj) := Heap.get?_push_size _ rfl
  exact ⟨⟨_, _, pm, ctv, q⟩, ⟨_, q⟩, fun h1 h2 ⟨od, sl, p, t, z⟩ st => ⟨od, sl, p, t, st _ z⟩⟩
/-- the words of a lambda in X -/
abbrev lmF (X : Cx) (params : Arguments) (scope : Scope) (c' : Addr) : NF := ⟨"<lambda>", X.env.qual ++ "<lambda>", params, [], scope, cloFrom X.env.cells scope.names [], c'⟩
/-- the lambda is made and known from then on -/
theorem lam_make3 {T : List (Addr × Str)} {c P : Addr} {params : Arguments} {body : Expr} {scope : Scope} {pos : Pos} {E : Value → Shared → Prop} {Q : Value → Shared → Prop} (I : Inv X pins σ H s) (TB : TabB X.base X.mg c P) (hcode : X.env.code = .ref c)
    (hm : (P, X.env.qual ++ "<lambda>") ∈ T) (hu : ∀ p ∈ T, p.1 = P → p.2 = X.env.qual ++ "<lambda>") (hT : Tabs T H) (hdef : defaultsOf params X.env = ([], [])) (hfree : ∀ y ∈ scope.names, y.2 = .free → ∃ c, X.env.cells.lookup y.1 = some c)
    (h : ∀ (f c' : Addr) (H1 : Hp) (s' : Shared), Inv X pins σ H1 s' → ExtN H H1 → (∀ b, H1 b = none → H b = none) → Tabs T H1 → H f = none → H1 f = some (LmO f (lmF X params scope c') body) → H1 c' = some (CodeO c' (X.env.qual ++ "<lambda>")) → Q (.ref f) s') :
    wpAny (model X.prog X.w) X.A (eval (.Lambda params body scope pos) X.env) Q E s := by
  obtain ⟨ps, hP, ht, ha⟩ := hT _ hm
  refine PySem.W.kla_eval hdef ?_
  have bP : s.heap.BuiltinsAt X.mg P := TB.bm.keeps I.bk
  have hP' : s.heap.get? P = some { cls := .none, data := .fields ps } := I.hok P _ hP
  cases hc : codeAmong pos ps.toList with
  | none =>
    refine PySem.W.kla_makeFunction (mg := X.mg) (c := c) (P := P) (ps := ps) (closure_ok hfree) I.ok.glob (I.mod.glob.keeps I.bk) hcode (TB.code.keeps I.bk) hP' ht hc TB.gP bP fun c' ctv h' tk hx hge hlt hrec htb => ?_
    obtain ⟨c2, oc, vs, t, e2, hoc, hd, hv⟩ := hrec
    cases e2
    have nC : H c' = none := I.hok.fresh hge
    have I1 := inv_table (t' := tk) (more := #[rawInt pos.line, rawInt pos.col, .ref c']) (h' := h') I hP (fun b o hb e => hx b o hb e) htb hge ⟨oc, vs, t, hoc, hd, hv⟩
    have hE : ExtN H (upd (upd H P (.tbl (ps ++ #[rawInt pos.line, rawInt pos.col, .ref c']))) c' (CodeO c' (X.env.qual ++ "<lambda>"))) := fun b o e n => by
      rw [upd_ne (ne_of_none e nC), upd_ne (fun z => n ps (Option.some.inj (e.symm.trans (by rw [z]; exact hP))))]
      exact e
    have eL : (ps ++ #[rawInt pos.line, rawInt pos.col, .ref c']).toList = ps.toList ++ [rawInt pos.line, rawInt pos.col, .ref c'] := by simp
    have T1 : Tabs T (upd (upd H P (.tbl (ps ++ #[rawInt pos.line, rawInt pos.col, .ref c']))) c' (CodeO c' (X.env.qual ++ "<lambda>"))) := fun p hp => by
      by_cases hb : p.1 = P
      · rw [hu p hp hb, hb]
        refine ⟨_, by rw [upd_ne (ne_of_none hP nC), upd_same], by rw [eL]; exact PySem.TriplesOk_snoc _ _ _ _ ht, fun p' cv hcv => ?_⟩
        rw [eL] at hcv
        rcases among_app _ ht hcv with z | z
        · obtain ⟨c0, e1, e2⟩ := ha p' cv z
          exact ⟨c0, e1, hE _ _ e2 codeO_ne⟩
        · exact ⟨c', z, upd_same⟩
      · obtain ⟨ps', a1, a2, a3⟩ := hT p hp
        refine ⟨ps', by rw [upd_ne (ne_of_none a1 nC), upd_ne hb]; exact a1, a2, fun p' cv hcv => ?_⟩
        obtain ⟨c0, e1, e2⟩ := a3 p' cv hcv
        exact ⟨c0, e1, hE _ _ e2 codeO_ne⟩
    have nF := I1.hok.fresh (Nat.le_refl _)
    have I2 := inv_lm (F := lmF X params scope c') (e := body) (t' := tk) (pm := (X.mg "__name__").getD .none) (ctv := ctv) I1 rfl
    refine h h'.objs.size c' _ _ I2 (fun b o e n => ?_) (fun b e => upd_none (upd_none (upd_none e))) (T1.ext fun b o e => ?_) (I.hok.fresh (Nat.le_trans hge (Nat.le_of_lt hlt))) upd_same ?_
    · have e1 := hE b o e n
      exact (upd_ne (ne_of_none e1 nF)).trans e1
    · exact (upd_ne (ne_of_none e nF)).trans e
    · exact (upd_ne (Nat.ne_of_lt hlt)).trans upd_same
  | some cv =>
    obtain ⟨c', e, hco⟩ := ha pos cv hc
    subst e
    refine PySem.W.kla_makeFunctionHit (mg := X.mg) (c := c) (P := P) (ps := ps) (closure_ok hfree) I.ok.glob (I.mod.glob.keeps I.bk) hcode (TB.code.keeps I.bk) hP' ht hc bP fun ctv h' tk hx hsz => ?_
    have I1 : Inv X pins σ H { s with heap := h', toks := tk } := I.kept hx
    have nF : H h'.objs.size = none := I1.hok.fresh (Nat.le_refl _)
    have I2 := inv_lm (F := lmF X params scope c') (e := body) (t' := tk) (pm := (X.mg "__name__").getD .none) (ctv := ctv) I1 rfl
    refine h h'.objs.size c' _ _ I2 (fun b o e n => ?_) (fun b e => upd_none e) (hT.ext fun b o e => ?_) nF upd_same ?_
    · exact (upd_ne (ne_of_none e nF)).trans e
    · exact (upd_ne (ne_of_none e nF)).trans e
    · exact (upd_ne (ne_of_none hco nF)).trans hco
end
/-! ### what it promises -/
/-- the promise of the lambda F at f: sp ws, ws what its captured cells hold at the call -/
structure LOk (P : Program) (w : World) (K : PySem.W.Frag) (mg : Str → Option Value) (base : Heap) (CX : CXT) (k : Nat) (f : Addr) (F : NF) (e : Expr) (ps fr : List Str) (sp : List (Option V) → Sp) : Prop where
  len : ∀ ws vs H Q E, sp ws vs H Q E → vs.length = ps.length
  run : ∀ (A : Around) (outer : List Env) (s : Shared) (H : Hp) (us : List Value) (vs : List V) (ws : List (Option V)) (Q : VK) (E : XK), Room k A → Env0 P w K mg base A outer s H → H f = some (LmO f F e) → H F.c = some (CodeO F.c F.qual) →
    CellsAt F.cl fr ws s.heap H → Vals vs us → sp ws vs H Q E → codeAny (model P w) A (.call (.ref f) ⟨us, []⟩) (CR CX outer P w H s Q E) s
section
variable {CX : CXT} {P : Program} {w : World} {K : PySem.W.Frag} {mg : Str → Option Value} {base : Heap} {N ps fr : List Str} {F : NF} {e : Expr} {f : Addr} {k : Nat} {sp : List (Option V) → Sp}
theorem lok_of (S : NScope N ps fr F.scope) (hb : ∀ (pm ctv : Value) (us : List Value), us.length = ps.length → bindArgs (lfd F e pm ctv) ⟨us, []⟩ = pure (ps.zip us)) (len : ∀ ws vs H Q E, sp ws vs H Q E → vs.length = ps.length)
    (hbody : ∀ (A : Around) (outer : List Env) (s : Shared) (H : Hp) (vs : List V) (ws : List (Option V)) (Q : VK) (E : XK), Room k (A.deeper (envF F f s.heap.objs.size)) → H f = some (LmO f F e) → H F.c = some (CodeO F.c F.qual) → ws.length = fr.length → sp ws vs H Q E →
      ∃ t, PE (ncx CX P w K mg base N F f A outer s H E) e t ∧ t (startF N vs ws) H Q) :
    LOk P w K mg base CX (k + 1) f F e ps fr sp := by
  refine ⟨len, fun A outer s H us vs ws Q E hr e0 hf hc C r hsp => ?_⟩
  have hl := len _ _ _ _ _ hsp
  have lim : s.heap.NoLimit := e0.mod.nolimit.keeps fun b o e => (e0.bs b o e).1
  obtain ⟨od, sl, pm, ctv, ho⟩ := lmO_at e0.hok hf
  refine PySem.W.kla_callFunE hr.depth ho rfl S.co S.gen rfl (codeO_at e0.hok hc) ?_
  rw [hb pm ctv us (by rw [← r.length]; exact hl)]
  refine wpAny_pure (wpAny_newFunctionEnv S.nocell (fun ⟨n, _⟩ hy => S.par n (List.of_mem_zip hy).1) (fun h₁ hns hsb => ⟨lim.fresh _ hsb, ?_⟩) S.kind)
  show codeAny _ _ (.expr e (envF F f s.heap.objs.size)) _ _
  have kp : ∀ b o, s.heap.get? b = some o → h₁.get? b = some o := fun b o e => hsb.extBut b o (Nat.ne_of_lt (Heap.lt_size e)) (Heap.get?_push_of_some _ e)
  obtain ⟨t, ht, hq⟩ := hbody A outer s H vs ws Q E (hr.deeper _) hf hc C.len hsp
  have I : Inv (ncx CX P w K mg base N F f A outer s H E) [] (startF N vs ws) H { s with heap := h₁, toks := s.toks + (ps.zip us).length } := inv_startN S hr.hd e0 hl r C hns kp
  refine PySem.W.kla_codeExpr (wpAny_mono (ht.run [] _ (startF N vs ws) H Q I hq) (fun v s' hs => ?_) fun e s' hs => hs)
  obtain ⟨v', H', J, rv, q⟩ := hs
  exact ⟨v', H', J.os, J.bare, J.base, J.hok, rv, q⟩
end
/-- a lambda, as a value -/
def tLamV (T : List (Addr × Str)) (q : Str) (mk : Addr → NF) (e : Expr) : TE := fun σ H Q => Tabs T H ∧ ∀ (f c' : Addr) (H1 : Hp), ExtN H H1 → (∀ b, H1 b = none → H b = none) → Tabs T H1 → H f = none → H1 f = some (LmO f (mk c') e) → H1 c' = some (CodeO c' q) → Q (.ref f) H1
section
variable {X : Cx} {pins : List (Addr × Obj)} {σ : L2.St} {H : Hp} {s : Shared}
theorem no_frame (I : Inv X pins σ H s) {f : Addr} (hf : s.heap.objs.size ≤ f) : f ∉ frs X.stack := fun z => by
  rcases List.mem_cons.mp (I.stkSub _ z) with e | e
  · have h1 := I.lt
    rw [← e] at h1
    exact Nat.lt_irrefl _ (Nat.lt_of_lt_of_le h1 hf)
  · exact I.nofs hf e
theorem pe_lam {T : List (Addr × Str)} {c P : Addr} {params : Arguments} {body : Expr} {scope : Scope} {pos : Pos} (TB : TabB X.base X.mg c P) (hcode : X.env.code = .ref c)
    (hm : (P, X.env.qual ++ "<lambda>") ∈ T) (hu : ∀ p ∈ T, p.1 = P → p.2 = X.env.qual ++ "<lambda>") (hdef : defaultsOf params X.env = ([], [])) (hfree : ∀ y ∈ scope.names, y.2 = .free → X.env.scope.names.lookup y.1 = some .cell ∨ X.env.scope.names.lookup y.1 = some .free) :
    PE X (.Lambda params body scope pos) (tLamV T (X.env.qual ++ "<lambda>") (lmF X params scope) body) := by
  refine ⟨fun pins s σ H Q I h => ?_⟩
  obtain ⟨hT, h⟩ := h
  have hfr : ∀ y ∈ scope.names, y.2 = .free → ∃ c, X.env.cells.lookup y.1 = some c := fun y hy e => (hfree y hy e).elim (fun z => I.ok.has _ (.inl z)) fun z => I.ok.has _ (.inr z)
  exact lam_make3 I TB hcode hm hu hT hdef hfr fun f c' H1 s' I1 eN nn T1 f0 f1 c1 => ⟨.ref f, H1, I1, rfl, h f c' H1 eN nn T1 f0 f1 c1⟩
end
end LmP

set_option Elab.async false
set_option linter.all false
set_option maxRecDepth 100000
set_option maxHeartbeats 4000000
namespace LmP
open PySem PySem.Spec PyProof.Rows L2 LamX NdefX Wk
/-! sorted(xs, key=lambda way: (len(way), way)), or by -len(way): xs of tuples of ints -/
/-- the keys: by the length, upward or downward -/
def keyD (neg : Bool) (w : Wy) : PyData := .tuple [.int (if neg then -(w.length : Int) else (w.length : Int)), wd w]
/-- the lambda's body: its first item, told by what it gives -/
structure KeyB (e : Expr) (x : Str) (neg : Bool) : Prop where
  is : ∃ (p1 p2 p3 p4 p5 p6 : Pos) (k : Nat), e = .Tuple [if neg = true then .UnaryOp .USub (.Call (.Name "len" p1) [.Name x p2] [] p3) p4 else .Call (.Name "len" p1) [.Name x p2] [] p3, .Name x p5] k p6
structure KeyS (sc : Scope) (x : Str) : Prop where
  kind : sc.kind = .function
  co : sc.isCoroutine = false
  gen : sc.isGenerator = false
  nocell : ∀ y ∈ sc.names, y.2 ≠ .cell
  own : sc.names.lookup x = some .local
  len : sc.names.lookup ("len" : Str) = some .globalImplicit
theorem reads_ints {h : Heap} : ∀ {w : List Int} {us : List Value}, Vals (w.map V.int) us → ReadsAll h us (w.map PyData.int) []
  | [], _, .nil => .nil
  | n :: w, _, .cons r rv => by
    obtain ⟨t, rfl⟩ := r
    exact ReadsAll.cons (as := []) (bs := []) (.int n t) (reads_ints rv)
section
variable {X : Cx} {pins : List (Addr × Obj)} {σ : L2.St} {H : Hp} {s : Shared} {A : Around}
theorem key_turn {F : NF} {e : Expr} {f a : Addr} {x : Str} {neg : Bool} {w : Wy} (I : Inv X pins σ H s) (hf : H f = some (LmO f F e)) (hc : H F.c = some (CodeO F.c F.qual)) (hS : KeyS F.scope x) (hE : KeyB e x neg) (hm : X.mg "len" = none)
    (hb : ∀ (pm ctv u : Value), bindArgs (lfd F e pm ctv) ⟨[u], []⟩ = pure [(x, u)]) (hs : SqT X.K H a (w.map V.int)) (hl : w.length ≤ 1000) (hdp : A.depth < recursionLimit) (hh : A.handled = none)
    (hx1 : (x == ("__debug__" : Str)) = false) {h : Heap} {tk : Nat} (k : ∀ c o, s.heap.get? c = some o → h.get? c = some o) :
    wpAny (model X.prog X.w) A (call (.ref f) [.ref a]) (PySem.W.KeyPure (keyD neg w) { s with heap := h, toks := tk }) (fun _ _ => False) { s with heap := h, toks := tk } := by
  obtain ⟨od, sl, pm, ctv, ho⟩ := lmO_at I.hok hf
  have hcd : h.CodeRec (.ref F.c) F.qual := by
    obtain ⟨c, oc, vs, t, h1, h2, h3, h4⟩ := codeO_at I.hok hc
    exact ⟨c, oc, vs, t, h1, k _ _ h2, h3, h4⟩
  obtain ⟨its, r', pl, hz⟩ := I.tuple hs
  have hlen := r'.length
  obtain ⟨op, hop, hcls, npl, hdat⟩ := pl
  have lim : h.NoLimit := I.nolimit.keeps k
  refine wpAny_call (PySem.W.kla_callFunE (o := _) hdp (k _ _ ho) rfl hS.co hS.gen rfl hcd ?_)
  rw [hb pm ctv (.ref a)]
  refine wpAny_pure (wpAny_newFunctionEnv hS.nocell (fun y hy => by rw [List.mem_singleton.mp hy]; exact hS.own) (fun h₁ hns hsb => ⟨lim.fresh _ hsb, ?_⟩) hS.kind)
  have kp : ∀ b o, h.get? b = some o → h₁.get? b = some o := fun b o e => hsb.extBut b o (Nat.ne_of_lt (Heap.lt_size e)) (Heap.get?_push_of_some _ e)
  show codeAny _ _ (.expr e (envF F f h.objs.size)) _ _
  refine PySem.W.kla_codeExpr ?_
  obtain ⟨p1, p2, p3, p4, p5, p6, kk, he⟩ := hE.is
  subst he
  have hg : h₁.Ns mainGlobals X.mg := ((I.mod.glob.keeps I.bk).keeps k).keeps kp
  obtain ⟨mb, b1, b2⟩ := I.mod.blt
  have hbn : h₁.Ns builtinsNs mb := ((b1.keeps I.bk).keeps k).keeps kp
  have ha1 : h₁.get? a = some op := kp _ _ (k _ _ hop)
  have hl63 := line63
  -- the name
  have nm : ∀ {p : Pos} {h2 : Heap} {t2 : Nat} {Q E : Value → Shared → Prop}, (∀ b o, h₁.get? b = some o → h2.get? b = some o) → Q (.ref a) { s with heap := h2, toks := t2 } →
      wpAny (model X.prog X.w) (A.deeper (envF F f h.objs.size)) (eval (.Name x p) (envF F f h.objs.size)) Q E { s with heap := h2, toks := t2 } := fun {p h2 t2 Q E} k2 q => by
    have hn2 : h2.Ns h.objs.size fun y => ([(x, Value.ref a)] : List (Str × Value)).reverse.lookup y := hns.keeps k2
    exact wpAny_Name (wpAny_loadName_local hS.kind hS.own hn2 (by simp [List.lookup]) q) hx1
  -- its length
  have ln : ∀ {p1 p2 p3 : Pos} {Q E : Value → Shared → Prop}, (∀ t t2, Q (.int (w.length : Int) t) { s with heap := h₁, toks := t2 }) →
      wpAny (model X.prog X.w) (A.deeper (envF F f h.objs.size)) (eval (.Call (.Name "len" p1) [.Name x p2] [] p3) (envF F f h.objs.size)) Q E { s with heap := h₁, toks := tk + 1 } := fun {p1 p2 p3 Q E} q => by
    refine wpAny_Call_Name_kw (Calls.Name_function_global hS.kind hS.len (Calls.loadGlobal_builtin hg hm hbn ((b2 _ (by decide)).trans PySem.boot_len) ?_) (by decide))
    refine PyProof.Rows.callWith_builtin1 ?_ rfl rfl
    show wpAny _ _ (spliced ((false, eval (.Name x p2) (envF F f h.objs.size)) :: backTo p3 (starEach [] (envF F f h.objs.size)))) _ _ _
    refine Calls.spliced_cons (nm (fun _ _ e => e) (Calls.spliced_nil ?_))
    have pl1 : PySem.Heap.IsTuple h₁ a its.toArray := ⟨op, ha1, hcls, npl, hdat⟩
    refine len_tuple pl1 (by simp only [List.size_toArray]; rw [List.length_map] at hlen; omega) ?_
    rw [List.size_toArray, ← hlen, List.length_map]
    exact q _ _
  -- the tuple
  have tp : ∀ {h2 : Heap} {t2 : Nat} {us : List Value} {ds : List PyData}, (∀ b o, h₁.get? b = some o → h2.get? b = some o) → us.length ≤ 5 → ReadsAll h2 us ds [] → PySem.W.KeyPure (.tuple ds) { s with heap := h, toks := tk } (.ref h2.objs.size) { s with heap := h2.push { cls := .type "tuple", data := .seq us.toArray }, toks := t2 } := fun {h2 t2 us ds} k2 _ hr =>
    ⟨_, _, rfl, fun b o e => Heap.get?_push_of_some _ (k2 _ _ (kp _ _ e)), .tuple (Heap.get?_push_size _ rfl) rfl rfl (ReadsAll.keeps (fun b o e => Heap.get?_push_of_some _ e) hr)⟩
  have rw_ : Reads h₁ (.ref a) (wd w) [] := .tuple ha1 hcls hdat (reads_ints r')
  refine wpAny_Tuple_spliced ?_
  cases neg with
  | false =>
    show wpAny _ _ (spliced ((false, eval (.Call (.Name "len" p1) [.Name x p2] [] p3) (envF F f h.objs.size)) :: backTo p6 (starEach [.Name x p5] (envF F f h.objs.size)))) _ _ _
    refine Calls.spliced_cons (ln fun t t2 => ?_)
    show wpAny _ _ (spliced ((false, eval (.Name x p5) (envF F f h.objs.size)) :: backTo p6 (starEach [] (envF F f h.objs.size)))) _ _ _
    refine Calls.spliced_cons (nm (fun _ _ e => e) (Calls.spliced_nil ⟨by show 2 ≤ _; decide, ?_⟩))
    exact tp (us := [.int (w.length : Int) t, .ref a]) (fun _ _ e => e) (by simp) (ReadsAll.cons (as := []) (bs := []) (.int _ _) (ReadsAll.cons (as := []) (bs := []) rw_ .nil))
  | true =>
    show wpAny _ _ (spliced ((false, eval (.UnaryOp .USub (.Call (.Name "len" p1) [.Name x p2] [] p3) p4) (envF F f h.objs.size)) :: backTo p6 (starEach [.Name x p5] (envF F f h.objs.size)))) _ _ _
    refine Calls.spliced_cons (UnaryOp_ (ln fun t t2 => neg_int ?_))
    show wpAny _ _ (spliced ((false, eval (.Name x p5) (envF F f h.objs.size)) :: backTo p6 (starEach [] (envF F f h.objs.size)))) _ _ _
    refine Calls.spliced_cons (nm (fun _ _ e => e) (Calls.spliced_nil ⟨by show 2 ≤ _; decide, ?_⟩))
    exact tp (us := [.int (-(w.length : Int)) _, .ref a]) (fun _ _ e => e) (by simp) (ReadsAll.cons (as := []) (bs := []) (.int _ _) (ReadsAll.cons (as := []) (bs := []) rw_ .nil))
/-- what sorted by such a lambda asks: the items are tuples of ints; it gives them in some order -/
def rSortK (K : PySem.W.Frag) (q : Str) (mk : Addr → NF) (e : Expr) (vs zs : List V) (H : Hp) (Q : VK) : Prop := ∃ (a f c' : Addr) (ps : List (Addr × Wy)), vs = [.ref a] ∧ zs = [.ref f] ∧ SqL K H a (ps.map fun p => V.ref p.1) ∧ (∀ p ∈ ps, SqT K H p.1 (p.2.map V.int)) ∧ (∀ p ∈ ps, p.2.length ≤ 1000) ∧ ps.length ≤ 1000 ∧
  H f = some (LmO f (mk c') e) ∧ H (mk c').c = some (CodeO (mk c').c (mk c').qual) ∧ ∀ (qs : List (Addr × Wy)) D, qs.Perm ps → H D = none → Q (.ref D) (upd H D (.lst (qs.map fun p => V.ref p.1)))
def tSortK (K : PySem.W.Frag) (q : Str) (mk : Addr → NF) (e : Expr) (t tk : TA) : TE := fun σ H Q => t σ H fun vs H1 => tk σ H1 fun zs H2 => rSortK K q mk e vs zs H2 Q
theorem each_refs : ∀ (ps : List (Addr × Wy)) {us : List Value}, Vals (ps.map fun p => V.ref p.1) us → PySem.W.EachIs (fun (v : Value) (p : Addr × Wy) => v = Value.ref p.1) us ps
  | [], _, .nil => .nil
  | p :: ps, _, .cons r rv => .cons r (each_refs ps rv)
theorem vals_refs : ∀ {ps : List (Addr × Wy)} {us : List Value}, PySem.W.EachIs (fun (v : Value) (p : Addr × Wy) => v = Value.ref p.1) us ps → Vals (ps.map fun p => V.ref p.1) us
  | [], _, .nil => .nil
  | p :: ps, _, .cons r rv => .cons r (vals_refs rv)
theorem alike_keys (neg : Bool) (a b : Wy) : PySem.W.alike (keyD neg a) (keyD neg b) = true := by
  unfold keyD wd
  simp only [PySem.W.alike, PySem.W.alikeAll, PySem.W.alike_ints, Bool.and_self, Bool.and_true]
theorem pe_sortK {q : Str} {mk : Addr → NF} {e a : Expr} {kws : List Keyword} {x : Str} {neg : Bool} {t tk : TA} {p pos : Pos} (hS : ∀ c', KeyS (mk c').scope x) (hE : KeyB e x neg) (hb : ∀ (c' : Addr) (pm ctv u : Value), bindArgs (lfd (mk c') e pm ctv) ⟨[u], []⟩ = pure [(x, u)]) (hx1 : (x == ("__debug__" : Str)) = false)
    (hr : Room 1 X.A) (hm2 : X.mg "len" = none) (hg : Gl X "sorted") (hm : X.mg "sorted" = none) (ha : PA X [a] t) (hk : PK X kws tk)
    (he : backTo pos (starEach [a] X.env) = (false, eval a X.env) :: backTo pos (starEach [] X.env) := by rfl) (hpl : (backTo pos (starEach [a] X.env)).any (·.1) = false := by rfl)
    (hall : (backToKw pos (keywordEach kws X.env)).all (·.1.isSome) = true := by rfl) (hnone : (backToKw pos (keywordEach kws X.env)).any (·.1.isNone) = false := by rfl) (hks : (backToKw pos (keywordEach kws X.env)).filterMap (·.1) = [Str.ofString "key"] := by rfl) :
    PE X (.Call (.Name "sorted" p) [a] kws pos) (tSortK X.K q mk e t tk) := by
  refine ⟨fun pins s σ H Q I h => ?_⟩
  refine wpAny_Call_Name_kw (ld_blt I hg hm PyProof.Rows.boot_sorted ?_ (by decide) (by decide))
  refine PyProof.Rows.callWith_kw (thn (ha.run pos pins s σ H _ I h) fun us s0 ⟨vs, H0, I0, r0, q0⟩ => thn (hk.run pos pins s0 σ H0 _ I0 q0) fun ws s1 ⟨zs, H1, I1, r1, z⟩ => ?_) he hpl hall hnone
  rw [hks]
  obtain ⟨a, f, c', ps, rfl, rfl, q1, q2, q3, q4, hf, hc, q5⟩ := z
  rw [Vals.ref1 r0, Vals.ref1 r1]
  show wpAny _ _ (call (.builtin "sorted") [.ref a] [(Str.ofString "key", .ref f)]) _ _ _
  obtain ⟨its, rv, hl, hz⟩ := I1.list q1
  have hb63 := line63
  have hun := hr.un
  refine PySem.W.sorted_key_data (β := Addr × Wy) (R := fun (v : Value) (p : Addr × Wy) => v = Value.ref p.1) (b := false) (fun p : Addr × Wy => keyD neg p.2) hl.isList (each_refs ps rv) (PySem.W.AllAlike.of fun _ _ => alike_keys neg _ _) (PySem.W.Sortable.tuples fun b => ⟨_, _, rfl⟩) (by rw [sizeLine_eq]; omega) (fun y _ => ?_) (PyProof.Rows.ksk_s1 _ _) (fun x => PyProof.Rows.ksk_l1 _ _) (fun x => PyProof.Rows.ksk_t1 _ _) (fun v y hv hy h tk hk => ?_) (fun out c h' tk hk hfr hnew hlen he => ?_)
  · have hd : (keyD neg y.2).depth ≤ 2 := by
      unfold keyD wd
      simp only [PyData.depth, PyData.depthAll]
      have := depth_ints y.2
      omega
    omega
  · subst hv
    exact key_turn (A := X.A.in1.in1) I1 hf hc (hS c') hE hm2 (hb c') (q2 y hy) (q3 y hy) (by have := hr.dp; show X.A.depth < _; omega) hr.hd hx1 hk
  · have hperm := List.mergeSort_perm ps (PySem.W.dataLe false fun p : Addr × Wy => keyD neg p.2)
    generalize ps.mergeSort (PySem.W.dataLe false fun p : Addr × Wy => keyD neg p.2) = qs at *
    have hv := vals_refs he
    have hd' : s1.heap.objs.size ≤ s1.heap.objs.size + 1 := Nat.le_succ _
    refine ⟨.ref (s1.heap.objs.size + 1), upd H1 (s1.heap.objs.size + 1) (.lst (qs.map fun p => V.ref p.1)), I1.laid (t' := tk) hk hd' ⟨?_, out, c, hv, hnew⟩, rfl, q5 qs _ hperm (I1.hok.fresh hd')⟩
    rw [List.length_map, hperm.length_eq, sizeLine_eq]
    omega
end
end LmP

set_option Elab.async false
set_option linter.all false
set_option maxRecDepth 100000
set_option maxHeartbeats 4000000
namespace LmP
open PySem PySem.Spec PyProof.Rows L2 Wk
/-- max of a tuple of ints -/
def rMaxT (K : PySem.W.Frag) : List V → Hp → VK → Prop := fun vs H Q => ∃ (a : Addr) (ns : List Int), vs = [V.ref a] ∧ SqT K H a (ns.map V.int) ∧ 0 < ns.length ∧ ∀ m, m ∈ ns → (∀ y, y ∈ ns → y ≤ m) → Q (.int m) H
theorem foldl_max : ∀ (ns : List Int) (n : Int), (ns.foldl max n ∈ n :: ns) ∧ ∀ y ∈ n :: ns, y ≤ ns.foldl max n
  | [], n => ⟨List.mem_cons_self, fun y hy => by rw [List.mem_singleton.mp hy]; exact Int.le_refl _⟩
  | m :: ns, n => by
    obtain ⟨h1, h2⟩ := foldl_max ns (max n m)
    have hc : max n m = n ∨ max n m = m := by omega
    refine ⟨?_, fun y hy => ?_⟩
    · rw [List.foldl_cons]
      rcases List.mem_cons.mp h1 with z | z
      · rw [z]
        rcases hc with e | e
        · rw [e]; exact List.mem_cons_self
        · rw [e]; exact List.mem_cons_of_mem _ List.mem_cons_self
      · exact List.mem_cons_of_mem _ (List.mem_cons_of_mem _ z)
    · rw [List.foldl_cons]
      have h3 := h2 _ List.mem_cons_self
      rcases List.mem_cons.mp hy with z | z
      · omega
      · rcases List.mem_cons.mp z with z | z
        · omega
        · exact h2 y (List.mem_cons_of_mem _ z)
section
variable {X : Cx}
theorem cr_maxT {K : PySem.W.Frag} (hK : X.K = K) (hc : X.calm = true) (hu : X.A.units + 65 < cLine) : CallR X (.builtin "max") (rMaxT K) := by
  subst hK
  intro pins s σ H vs us Q I r h
  obtain ⟨a, ns, rfl, hs, hne, q⟩ := h
  obtain ⟨its, rv, pl, _⟩ := I.tuple hs
  rw [Vals.ref1 r]
  obtain ⟨op, hop, hcls, npl, hdat⟩ := pl
  have pl1 : PySem.Heap.IsTuple s.heap a its.toArray := ⟨op, hop, hcls, npl, hdat⟩
  cases ns with
  | nil => simp at hne
  | cons n ns =>
    have hr := reads_ints (h := s.heap) rv
    have hd : PyData.depthAll ((n :: ns).map PyData.int) = 0 := Wk.depth_ints _
    refine PySem.W.max_tuple_data (x := .int n) (xs := ns.map PyData.int) (as := []) (I.ok.hd hc) pl1 (by rw [List.map_cons] at hr; simpa using hr) ⟨fun x hx y hy => ?_, fun x hx z => ?_⟩ (by rw [← List.map_cons (f := PyData.int), hd]; omega) fun i v h' tk bs hv rd kp => ?_
    · rw [← List.map_cons (f := PyData.int)] at hx hy
      obtain ⟨i, _, rfl⟩ := List.mem_map.mp hx
      obtain ⟨j, _, rfl⟩ := List.mem_map.mp hy
      rfl
    · rw [← List.map_cons (f := PyData.int)] at hx
      obtain ⟨i, _, rfl⟩ := List.mem_map.mp hx
      cases z
    · rw [PySem.W.maxD_ints] at rd
      obtain ⟨h1, h2⟩ := foldl_max ns n
      cases rd
      exact ⟨.int _, H, I.kept kp, ⟨_, rfl⟩, q _ h1 h2⟩
end
end LmP
namespace Wk
open PySem PySem.Spec PyProof.Rows L2 Evl
/-! the plan's ways under names -/
def nmW (os : List Int) (w : Wy) : Wy := w.map fun x => os.getD x.toNat 0
def inW (n : Nat) (w : Wy) : Bool := w.all fun x => decide (x < (n : Int))
def ofR (os : List Int) (j : Nat) (w : Wy) : Bool := decide (os.getD (w.headD 0).toNat 0 = (j : Int))
/-- what a plan is -/
structure PlanOk (p : List Wy) : Prop where
  len : p.length ≤ 10
  nd : p.Nodup
  ok : ∀ w ∈ p, 2 ≤ w.length ∧ w.length ≤ 6 ∧ w.Nodup ∧ w.getLast? = some 0 ∧ (∀ x ∈ w, 0 ≤ x ∧ x < 6) ∧ (w.drop 1 = [0] ∨ w.drop 1 ∈ p) ∧ (∀ x ∈ w.take 1, 1 ≤ x)
  two : ∀ r ∈ ([0, 1, 2, 3, 4, 5, 6, 7] : List Int), (p.filter fun w => decide (w[0]? = some r)).length ≤ 2
theorem planOk (k : Nat) : PlanOk (plans.getD k []) := by
  have h : plans.getD k [] ∈ plans := by
    rw [List.getD_eq_getElem?_getD]
    cases e : plans[k]? with
    | none => decide
    | some p => exact List.mem_of_getElem? e
  obtain ⟨h0, h1, h2⟩ := plans_all _ h
  exact ⟨h0, h1, h2, plans_two _ h⟩
/-- the rows after i ways of the plan -/
structure PlI (n : Nat) (p : List Wy) (os : List Int) (i : Nat) (rows : List (List Wy)) : Prop where
  len : rows.length = n
  row : ∀ (j : Nat) (row : List Wy), rows[j]? = some row → row = (((p.take i).filter (inW n)).filter (ofR os j)).map (nmW os)
theorem pl_len {n : Nat} {p : List Wy} {os : List Int} {i j : Nat} {rows : List (List Wy)} {row : List Wy} (h : PlI n p os i rows) (e : rows[j]? = some row) : row.length ≤ p.length := by
  rw [h.row j row e, List.length_map]
  refine Nat.le_trans (List.length_filter_le _ _) (Nat.le_trans (List.length_filter_le _ _) ?_)
  rw [List.length_take]
  omega
theorem pl_start {n : Nat} {p : List Wy} {os : List Int} {rows : List (List Wy)} (hl : rows.length = n) (h : ∀ row ∈ rows, row = []) : PlI n p os 0 rows :=
  ⟨hl, fun j row e => by rw [h row (List.mem_of_getElem? e)]; simp⟩
theorem pl_turn {n : Nat} {p : List Wy} {os : List Int} {i : Nat} {rows : List (List Wy)} {w : Wy} {r : Nat} {row : List Wy} (h : PlI n p os i rows) (hw : p[i]? = some w) (hin : inW n w = true) (hr : os.getD (w.headD 0).toNat 0 = (r : Int)) (he : rows[r]? = some row) : PlI n p os (i + 1) (rows.set r (row ++ [nmW os w])) := by
  have hrl := (List.getElem?_eq_some_iff.mp he).1
  refine ⟨by rw [List.length_set]; exact h.len, fun j row' e => ?_⟩
  rw [take_snoc hw, List.filter_append, List.filter_append, List.map_append]
  have e1 : [w].filter (inW n) = [w] := by simp [hin]
  rw [e1]
  by_cases c : r = j
  · subst c
    rw [List.getElem?_set_self hrl] at e
    have hof : ofR os r w = true := decide_eq_true hr
    have e2 : [w].filter (ofR os r) = [w] := by simp [hof]
    rw [e2, ← h.row r row he, ← Option.some.inj e]
    rfl
  · rw [List.getElem?_set_ne c] at e
    have e2 : [w].filter (ofR os j) = [] := by
      have : ofR os j w = false := by
        unfold ofR
        rw [hr]
        simp
        omega
      simp [this]
    rw [e2, ← h.row j row' e]
    simp
theorem pl_skip {n : Nat} {p : List Wy} {os : List Int} {i : Nat} {rows : List (List Wy)} {w : Wy} (h : PlI n p os i rows) (hw : p[i]? = some w) (hin : inW n w = false) : PlI n p os (i + 1) rows := by
  refine ⟨h.len, fun j row' e => ?_⟩
  rw [take_snoc hw, List.filter_append, List.filter_append, List.map_append, ← h.row j row' e]
  simp [hin]
theorem os_get {n : Nat} {os : List Int} (ho : OsOk n os) {x : Int} (h0 : 0 ≤ x) (h1 : x < n) : os[x.toNat]? = some (os.getD x.toNat 0) := by
  have hl : x.toNat < os.length := by rw [ho.len]; omega
  rw [List.getD_eq_getElem?_getD, List.getElem?_eq_getElem hl]
  rfl
theorem os_inj {n : Nat} {os : List Int} (ho : OsOk n os) {x y : Int} (h0 : 0 ≤ x) (h1 : x < n) (k0 : 0 ≤ y) (k1 : y < n) (e : os.getD x.toNat 0 = os.getD y.toNat 0) : x = y := by
  have a := os_get ho h0 h1
  have b := os_get ho k0 k1
  rw [← e] at b
  have := ho.ne a b
  omega
theorem nmW_nd {n : Nat} {os : List Int} (ho : OsOk n os) : ∀ {w : Wy}, w.Nodup → (∀ x ∈ w, 0 ≤ x ∧ x < (n : Int)) → (nmW os w).Nodup
  | [], _, _ => List.nodup_nil
  | x :: w, h, hr => by
    have h' := List.nodup_cons.mp h
    refine List.nodup_cons.mpr ⟨fun z => ?_, nmW_nd ho h'.2 fun y hy => hr y (List.mem_cons_of_mem _ hy)⟩
    obtain ⟨y, hy, e⟩ := List.mem_map.mp z
    have a := hr x List.mem_cons_self
    have b := hr y (List.mem_cons_of_mem _ hy)
    rw [os_inj ho b.1 b.2 a.1 a.2 e] at hy
    exact h'.1 hy
theorem nmW_inj {n : Nat} {os : List Int} (ho : OsOk n os) : ∀ {w v : Wy}, (∀ x ∈ w, 0 ≤ x ∧ x < (n : Int)) → (∀ x ∈ v, 0 ≤ x ∧ x < (n : Int)) → nmW os w = nmW os v → w = v
  | [], [], _, _, _ => rfl
  | [], _ :: _, _, _, e => by cases e
  | _ :: _, [], _, _, e => by cases e
  | x :: w, y :: v, hw, hv, e => by
    obtain ⟨e1, e2⟩ := List.cons.inj (show os.getD x.toNat 0 :: nmW os w = os.getD y.toNat 0 :: nmW os v from e)
    have a := hw x List.mem_cons_self
    have b := hv y List.mem_cons_self
    rw [os_inj ho a.1 a.2 b.1 b.2 e1, nmW_inj ho (fun z hz => hw z (List.mem_cons_of_mem _ hz)) (fun z hz => hv z (List.mem_cons_of_mem _ hz)) e2]
theorem nd_map {α β : Type} (f : α → β) : ∀ {l : List α}, l.Nodup → (∀ x ∈ l, ∀ y ∈ l, f x = f y → x = y) → (l.map f).Nodup
  | [], _, _ => List.nodup_nil
  | x :: l, h, hi => by
    have h' := List.nodup_cons.mp h
    refine List.nodup_cons.mpr ⟨fun z => ?_, nd_map f h'.2 fun a ha b hb => hi a (List.mem_cons_of_mem _ ha) b (List.mem_cons_of_mem _ hb)⟩
    obtain ⟨y, hy, e⟩ := List.mem_map.mp z
    rw [hi y (List.mem_cons_of_mem _ hy) x List.mem_cons_self e] at hy
    exact h'.1 hy
theorem dropW1 {w : Wy} {x : Int} : (x :: w).drop 1 = w := rfl
theorem pl_end {n : Nat} {p : List Wy} {os : List Int} {i : Nat} {rows : List (List Wy)} (hp : PlanOk p) (hn : 2 ≤ n) (ho : OsOk n os) (h : PlI n p os i rows) (hi : p.length ≤ i) : GW rows ∧ ∀ row ∈ rows, row.length ≤ 2 := by
  have hrow : ∀ (j : Nat) (row : List Wy), rows[j]? = some row → row = ((p.filter (inW n)).filter (ofR os j)).map (nmW os) := fun j row e => by
    have q := h.row j row e
    rw [List.take_of_length_le hi] at q
    exact q
  have hrg : ∀ w ∈ p.filter (inW n), ∀ x ∈ w, 0 ≤ x ∧ x < (n : Int) := fun w hw x hx => by
    obtain ⟨w1, w2⟩ := List.mem_filter.mp hw
    exact ⟨((hp.ok w w1).2.2.2.2.1 x hx).1, of_decide_eq_true (List.all_eq_true.mp w2 x hx)⟩
  have h00 : os.getD 0 0 = 0 := by rw [List.getD_eq_getElem?_getD, ho.hd]; rfl
  have mem : ∀ (j : Nat) (row : List Wy) (v : Wy), rows[j]? = some row → v ∈ row → ∃ x w, (x :: w) ∈ p ∧ (x :: w) ∈ p.filter (inW n) ∧ os.getD x.toNat 0 = (j : Int) ∧ v = nmW os (x :: w) := fun j row v e hv => by
    rw [hrow j row e] at hv
    obtain ⟨w, hw, rfl⟩ := List.mem_map.mp hv
    obtain ⟨w1, w2⟩ := List.mem_filter.mp hw
    have w3 := (List.mem_filter.mp w1).1
    cases w with
    | nil => have := (hp.ok [] w3).1; simp at this
    | cons x w => exact ⟨x, w, w3, w1, of_decide_eq_true w2, rfl⟩
  refine ⟨⟨fun row e => ?_, fun j row e => ?_, fun j row e v hv => ?_, fun j row e v hv => ?_⟩, fun row hr => ?_⟩
  · apply List.eq_nil_iff_forall_not_mem.mpr
    intro v hv
    obtain ⟨x, w, h1, h2, h3, rfl⟩ := mem 0 row v e hv
    have a := hrg _ h2 x List.mem_cons_self
    have b := (hp.ok _ h1).2.2.2.2.2.2 x (by simp)
    have := os_inj ho a.1 a.2 (Int.le_refl 0) (by omega) (by rw [h3]; exact h00.symm)
    omega
  · rw [hrow j row e]
    refine nd_map _ ((hp.nd.filter _).filter _) fun a ha b hb e' => ?_
    exact nmW_inj ho (hrg a (List.mem_filter.mp ha).1) (hrg b (List.mem_filter.mp hb).1) e'
  · obtain ⟨x, w, h1, h2, h3, rfl⟩ := mem j row v e hv
    obtain ⟨q1, q2, q3, q4, q5, q6, q7⟩ := hp.ok _ h1
    rw [h.len]
    have hll : (nmW os (x :: w)).length = (x :: w).length := List.length_map _
    refine ⟨by rw [hll]; exact q1, by rw [hll]; omega, ?_, ?_, nmW_nd ho q3 (hrg _ h2), fun y hy => ?_⟩
    · show some (os.getD x.toNat 0) = _
      rw [h3]
    · unfold nmW
      rw [List.getLast?_map, q4]
      show some (os.getD 0 0) = _
      rw [h00]
    · obtain ⟨z, hz, rfl⟩ := List.mem_map.mp hy
      have a := hrg _ h2 z hz
      exact ho.rg _ (List.mem_of_getElem? (os_get ho a.1 a.2))
  · obtain ⟨x, w, h1, h2, h3, rfl⟩ := mem j row v e hv
    obtain ⟨q1, q2, q3, q4, q5, q6, q7⟩ := hp.ok _ h1
    rw [dropW1] at q6
    rcases q6 with z | z
    · left
      show nmW os w = [0]
      rw [z]
      show [os.getD 0 0] = [0]
      rw [h00]
    · right
      cases w with
      | nil => simp at q1
      | cons y w =>
        have a := hrg _ h2 y (by simp)
        have b := ho.rg _ (List.mem_of_getElem? (os_get ho a.1 a.2))
        have hjl : (os.getD y.toNat 0).toNat < rows.length := by rw [h.len]; omega
        have hj : (((os.getD y.toNat 0).toNat : Nat) : Int) = os.getD y.toNat 0 := by omega
        refine ⟨(os.getD y.toNat 0).toNat, rows[(os.getD y.toNat 0).toNat], ?_, List.getElem?_eq_getElem hjl, ?_⟩
        · show some (os.getD y.toNat 0) = _
          rw [hj]
        · rw [hrow _ _ (List.getElem?_eq_getElem hjl)]
          refine List.mem_map.mpr ⟨y :: w, List.mem_filter.mpr ⟨List.mem_filter.mpr ⟨z, ?_⟩, ?_⟩, rfl⟩
          · exact List.all_eq_true.mpr fun u hu => decide_eq_true (hrg _ h2 u (List.mem_cons_of_mem _ hu)).2
          · unfold ofR
            rw [hj]
            exact decide_eq_true rfl
  · obtain ⟨j, hj⟩ := List.mem_iff_getElem?.mp hr
    rw [hrow j row hj, List.length_map]
    cases hq : (p.filter (inW n)).filter (ofR os j) with
    | nil => simp
    | cons v l =>
      have hv : v ∈ (p.filter (inW n)).filter (ofR os j) := by rw [hq]; exact List.mem_cons_self
      obtain ⟨v1, v2⟩ := List.mem_filter.mp hv
      have v3 := (List.mem_filter.mp v1).1
      cases v with
      | nil => have := (hp.ok [] v3).1; simp at this
      | cons x v =>
        have a := hrg _ v1 x List.mem_cons_self
        have a6 := ((hp.ok _ v3).2.2.2.2.1 x List.mem_cons_self)
        have v4 : os.getD x.toNat 0 = (j : Int) := of_decide_eq_true v2
        have hsub : ((p.filter (inW n)).filter (ofR os j)).length ≤ (p.filter fun w => decide (w[0]? = some x)).length := by
          rw [← hq] at *
          have e1 : (p.filter (inW n)).filter (ofR os j) = ((p.filter (inW n)).filter (ofR os j)).filter fun w => decide (w[0]? = some x) := by
            refine (List.filter_eq_self.mpr fun w hw => ?_).symm
            obtain ⟨w1, w2⟩ := List.mem_filter.mp hw
            have w3 := (List.mem_filter.mp w1).1
            cases w with
            | nil => have := (hp.ok [] w3).1; simp at this
            | cons y w =>
              have b := hrg _ w1 y List.mem_cons_self
              have w4 : os.getD y.toNat 0 = (j : Int) := of_decide_eq_true w2
              have : y = x := os_inj ho b.1 b.2 a.1 a.2 (by rw [w4, v4])
              rw [this]
              exact decide_eq_true rfl
          rw [e1]
          exact ((List.filter_sublist.trans List.filter_sublist).filter _).length_le
        rw [hq] at hsub
        refine Nat.le_trans hsub (hp.two x ?_)
        have : x = 0 ∨ x = 1 ∨ x = 2 ∨ x = 3 ∨ x = 4 ∨ x = 5 := by omega
        rcases this with z | z | z | z | z | z <;> (rw [z]; decide)
end Wk


set_option Elab.async false
set_option linter.all false
set_option maxRecDepth 100000
set_option maxHeartbeats 2000000
namespace Wk
open L2 PySem PySem.Spec PyProof.Rows
section
variable {X : Cx}
/-- one entry more by a comprehension, in a dict of either kind of keys -/
theorem put_dp {ps : List (Addr × Obj)} {σ : L2.St} {H Hn : Hp} {s : Shared} {D : Addr} {y z : V} {u r : Value}
    {E : Value → Shared → Prop} {Q : Unit → Shared → Prop} (hu : X.A.units < cLine) (I : Inv X ps σ H s)
    (g : DPut H D y z Hn) (ry : L2.RelV y u) (rz : L2.RelV z r) (h : ∀ s', Inv X ps σ Hn s' → Q () s') :
    wpAny (model X.prog X.w) X.A (dictSet D u r) Q E s := by
  rcases g with ⟨kvs, k, e, rfl, l, rfl⟩ | ⟨kvs, k, b, e, rfl, eb, l, rfl⟩
  · exact d_dictSet I e l ry rz h
  · obtain rfl : u = Value.ref b := ry
    obtain ⟨z1, nd, xs, rel, dd⟩ := dt_of I.hok e
    have l1 := length_putK kvs k z
    refine wpAny_dictSet_heap (hsz := by rw [← Paired.length rel]; exact z1) hu (key_of I.hok eb) dd
      fun h1 d1 sb => h _ ?_
    obtain ⟨q, es, ep, hq, a1, a2, a3, _, a4⟩ := d1
    refine d_write I (by rw [e]; trivial) sb ⟨q, hq⟩ ⟨by omega, nd, _, (rel.put k eb rz).keeps ?_, q, es, ep, hq, a1, a2, a3, a4⟩
    intro c ys ec
    exact (upd_ne (ne_of ec e (by intro z; cases z))).trans ec
end
/-- what one item does: the target, the tests, then key, value and the entry -/
def dqStep (g : TG) (tt : TT) (tk tv : TE) (vs : List Nat) (D : Addr) (Nx : Hp → Prop) (σ : L2.St) (x : V) (H : Hp) : Prop :=
  g x (wipe σ vs) H fun σa Ha => wipe σa vs = wipe σ vs ∧ tt σa Ha fun b Hb =>
    if b = true then tk σa Hb fun y Hc => tv σa Hc fun z Hd => ∃ Hn, DPut Hd D y z Hn ∧ Nx Hn
    else Nx Hb
/-- the walk of such a comprehension by a measure -/
def dqWalk (J : It) (step : (Hp → Prop) → V → Hp → Prop) (Qs : Hp → Prop) (W : Nat → Nat → Hp → Prop) : Prop :=
  ∀ i m H, W i m H → (J.stop i H ∧ Qs H) ∨
    (J.go i H ∧ ∃ Nx : Hp → Prop, (∀ Ha, Nx Ha → ∃ k, k < m ∧ W (i + 1) k Ha) ∧ ∀ x Ha, J.yld i H x Ha → step Nx x Ha)
theorem dq_loop {Y : Cx} {σ : L2.St} {vs : List Nat} {R : Result → Shared → Prop} {J : It} {fp : List Addr} {it D : Addr}
    {tn : Nat → Heap → Prop} {kx vx tg iter : Expr} {ifs : List Expr} {scope : Scope} {pos : Pos} {g : TG} {tt : TT} {tk tv : TE}
    {W : Nat → Nat → Hp → Prop} {Qs : Hp → Prop} (hc : Y.calm = true) (hx : Y.xe = fun _ _ => False) (hu : Y.A.units < cLine)
    (T : Turn Y.prog Y.w Y.K tg J fp it tn) (pg : PG Y tg g) (pt : PTs Y ifs tt) (pk : PE Y kx tk) (pv : PE Y vx tv)
    (own : ∀ {σ' : L2.St} {H' : Hp} {s' : Shared}, Inv Y [] σ' H' s' → (∀ b ∈ fp, H' b = none) → ∀ b ∈ fp, FpOk Y [] H' b)
    (walk : dqWalk J (fun Nx x H => dqStep g tt tk tv vs D Nx σ x H) Qs W)
    (last : ∀ H s, Inv Y [] (wipe σ vs) H s → Qs H → R (.ok .next) s)
    {m : Nat} {H : Hp} {s : Shared} (I : Inv Y [] (wipe σ vs) H s) (st : tn 0 s.heap) (nf : ∀ b ∈ fp, H b = none) (w : W 0 m H) :
    codeAny (model Y.prog Y.w) Y.A
      (.compLoop (.DictComp kx vx [⟨tg, iter, ifs, 0⟩] scope pos) 0 (.ref it) (.ref D) Y.env) R s := by
  refine compLoop_anyD (fun k s1 => ∃ i H1, Inv Y [] (wipe σ vs) H1 s1 ∧ tn i s1.heap ∧ (∀ b ∈ fp, H1 b = none) ∧ W i k H1)
    (fun k s1 hk => ?_) m ⟨0, H, I, st, nf, w⟩
  obtain ⟨i, H1, I1, st1, nf1, w1⟩ := hk
  cases walk i k H1 w1 with
  | inl e =>
    refine thnF (T.done Y rfl rfl rfl hc i [] s1 _ H1 (fun _ _ => False) I1 (own I1 nf1) st1 e.1) ?_
    rintro _ s2 ⟨rfl, I2⟩
    exact last H1 s2 I2 e.2
  | inr e =>
    obtain ⟨go, Nx, less, step⟩ := e
    refine thnF (T.item Y rfl rfl rfl hc i [] s1 _ H1 (fun _ _ => False) I1 (own I1 nf1) st1 go) ?_
    rintro _ s2 ⟨u, rfl, it2⟩
    refine thnF it2 ?_
    rintro _ s3 ⟨x, H3, I3, rx, yx, st3, nf3⟩
    have pin := I3.pinned (own I3 nf3) (T.obj _ _ st3)
    have t1 := pg.run _ s3 _ H3 x u _ pin rx (step x H3 yx)
    rw [hx] at t1
    refine thnF t1 ?_
    rintro _ s4 ⟨σ4, H4, I4, ew, q4⟩
    have back : ∀ {s9 : Shared} {H9 : Hp}, Inv Y ([] ++ pinsAt fp s3.heap) σ4 H9 s9 → Nx H9 →
        ∃ j, j < k ∧ ∃ i' H', Inv Y [] (wipe σ vs) H' s9 ∧ tn i' s9.heap ∧ (∀ b ∈ fp, H' b = none) ∧ W i' j H' := by
      intro s9 H9 I9 nx
      obtain ⟨j, lt, wj⟩ := less H9 nx
      have same : ∀ b ∈ fp, ∀ o, s3.heap.get? b = some o → s9.heap.get? b = some o ∧ H9 b = none := by
        intro b hb o eo
        have a := I9.pin (b, o) (List.mem_append_right _ (List.mem_append_right _ (mem_pinsAt hb eo)))
        exact ⟨a.1, a.2.1⟩
      refine ⟨j, lt, i + 1, H9, ?_, T.keep _ _ _ st3 fun b hb o eo => (same b hb o eo).1, ?_, wj⟩
      · refine (I9.unpinned (pins := [])).weak (by rw [← ew, wipe_length]) ?_
        intro n v en
        rw [← ew] at en
        exact (wipe_some en).1
      · intro b hb
        obtain ⟨o, eo, _⟩ := T.obj _ _ st3 b hb
        exact (same b hb o eo).2
    have t2 := pt.run _ s4 σ4 H4 _ I4 q4
    rw [hx] at t2
    refine thnF t2 ?_
    rintro b s5 ⟨H5, I5, q5⟩
    cases b with
    | false => exact back I5 q5
    | true =>
      have t3 := pk.run _ s5 σ4 H5 _ I5 q5
      rw [hx] at t3
      refine thnF t3 ?_
      rintro ky s6 ⟨y, H6, I6, ry, q6⟩
      have t4 := pv.run _ s6 σ4 H6 _ I6 q6
      rw [hx] at t4
      refine thnF t4 ?_
      rintro vy s7 ⟨z, H7, I7, rz, Hn, put, nx⟩
      exact put_dp hu I7 put ry rz fun s8 I8 => back I8 nx
/-- {k: v for .. in .. if ..}, keys tuples -/
def tDq (wi : TI) (g : TG) (tt : TT) (tk tv : TE) (vs : List Nat) : TE := fun σ H Q => wi σ H fun J H1 => ∀ D, H1 D = none →
  ∃ W : Nat → Nat → Hp → Prop, (∃ m, W 0 m (upd H1 D (.dT []))) ∧
    dqWalk J (fun Nx x Ha => dqStep g tt tk tv vs D Nx σ x Ha) (fun Ha => Q (.ref D) Ha) W
/-- the context of the block -/
abbrev Bq (X : Cx) (scope : Scope) (s : Shared) (H : Hp) (C : Addr) (cl : List (Str × Addr)) (fp : List Addr) : Cx :=
  X.blk s H scope (compEnvC scope cl C X.env) fp
theorem pe_dq {X : Cx} {kx vx tg iter : Expr} {ifs : List Expr} {scope : Scope} {own : List (Str × Nat)} {pos : Pos}
    {wi : TI} {g : TG} {tt : TT} {tk tv : TE} (hc : X.calm = true) (hu : X.A.units + 1 < cLine) (hN : X.N.Nodup)
    (hi : PI X tg iter wi) (ok : BlkOk X.N X.env.scope scope own) (hg : ∀ s H C cl fp, PG (Bq X scope s H C cl fp) tg g)
    (ht : ∀ s H C cl fp, PTs (Bq X scope s H C cl fp) ifs tt) (hk : ∀ s H C cl fp, PE (Bq X scope s H C cl fp) kx tk)
    (he : ∀ s H C cl fp, PE (Bq X scope s H C cl fp) vx tv) (hs : ∀ x, foldedSetIterable iter X.env x = pure x := by intro _; rfl) :
    PE X (.DictComp kx vx [⟨tg, iter, ifs, 0⟩] scope pos) (tDq wi g tt tk tv (own.map (·.2))) := by
  constructor
  intro ps s σ H Q I h
  rw [arm_eval_DictComp]
  have look : ∀ y ∈ scope.names, y.2 = .free → ∃ c, X.env.cells.lookup y.1 = some c := by
    intro y hy e
    exact I.ok.has _ (ok.free y hy e)
  refine wpAny_comprehension_free (use := none) rfl hs (closure_ok look) ok.kind (fun y hy e => (ok.uniq y hy).trans (by rw [e])) ?_
  refine thn (hi.run ps s σ H _ I h) ?_
  intro xv s1 h1
  refine thn h1 ?_
  rintro _ s2 ⟨it, fp, tn, J, H2, rfl, I2, T, st2, f2, q⟩
  refine wpAny_newObj_type ?_
  refine newEnv_comp ?_
  obtain ⟨D, hD⟩ : ∃ D, D = s2.heap.objs.size := ⟨_, rfl⟩
  rw [← hD]
  obtain ⟨W, ⟨m0, w0⟩, walk⟩ := q D (I2.hok.fresh (Nat.le_of_eq hD.symm))
  obtain ⟨s3, e3⟩ : ∃ s3 : Shared, s3 = { s2 with heap := s2.heap.push { cls := .type "dict", data := .dict #[] } } := ⟨_, rfl⟩
  have g3 : ∀ b o, s2.heap.get? b = some o → s3.heap.get? b = some o := by
    intro b o e
    rw [e3]
    exact Heap.get?_push_of_some _ (by exact e)
  have I3 : Inv X ps σ (upd H2 D (.dT [])) s3 := by
    rw [e3, hD]
    exact I2.laid (t' := s2.toks) (fun b o e => Heap.get?_push_of_some _ e) (Nat.le_refl _) (dt_empty s2.heap I2.big)
  rw [← e3]
  obtain ⟨H3, eH3⟩ : ∃ H3, H3 = upd H2 D (.dT []) := ⟨_, rfl⟩
  rw [← eH3] at I3 w0
  have f3 : ∀ b ∈ fp, FpOk X ps H3 b ∧ b < s3.heap.objs.size := by
    intro b hb
    obtain ⟨o, e, _⟩ := T.obj 0 _ st2 b hb
    refine ⟨⟨?_, (f2 b hb).2⟩, Heap.lt_size (g3 b o e)⟩
    rw [eH3, upd_ne (by rw [hD]; exact Nat.ne_of_lt (Heap.lt_size e))]
    exact (f2 b hb).1
  have st3 : tn 0 s3.heap := T.keep _ _ _ st2 fun b _ o e => g3 b o e
  have Ib := block_start I3 ok hN f3
  obtain ⟨C, hC⟩ : ∃ C, C = s3.heap.objs.size := ⟨_, rfl⟩
  rw [← hC] at Ib ⊢
  obtain ⟨cl, ecl⟩ : ∃ cl, cl = cellsFrom (C + 1) scope.names (cloFrom X.env.cells scope.names []) := ⟨_, rfl⟩
  rw [← ecl] at Ib ⊢
  have st4 : tn 0 (pushCells (s3.heap.push { cls := .type "dict", data := .dict #[] }) scope.names) := T.keep _ _ _ st3 fun b _ o e =>
    pushCells_keeps _ _ _ _ (Heap.get?_push_of_some _ e)
  have loop : codeAny (model X.prog X.w) X.A
      (.compLoop (.DictComp kx vx [⟨tg, iter, ifs, 0⟩] scope pos) 0 (.ref it) (.ref D) (compEnvC scope cl C X.env))
      (compPost (model X.prog X.w) X.A X.xe none (EP X ps σ Q) (.ref D) C)
      { s3 with heap := pushCells (s3.heap.push { cls := .type "dict", data := .dict #[] }) scope.names } := by
    refine dq_loop (Y := Bq X scope s3 H3 C cl fp) (σ := σ) hc rfl (Nat.lt_of_succ_lt hu) T (hg s3 H3 C cl fp)
      (ht s3 H3 C cl fp) (hk s3 H3 C cl fp) (he s3 H3 C cl fp) ?_ walk ?_ Ib st4 (fun b hb => (f3 b hb).1.1) w0
    · intro σ' H' s' I' nf b hb
      refine ⟨nf b hb, (I'.ok.exf b hb).1, I'.ok.exfs b hb, .inl hb, fun x c e => (I'.ok.exf b hb).2 x c e, ?_⟩
      intro p hp
      exact absurd (show p ∈ ([] : List (Addr × Obj)) ++ [] from hp) (by simp)
    · intro H6 s6 I6 q6
      have I7 : Inv X ps σ H6 s6 := by
        refine I3.call' (ch := fp) I6.os I6.base I6.hok I6.bare ?_
        intro b hb
        obtain ⟨_, n1, _, n2, n3, n4⟩ := (f3 b hb).1
        exact ⟨n2, n1, n3, n4⟩
      obtain ⟨m, hn, _⟩ := I6.loc
      refine ⟨m, hn, fun h' sb => ?_⟩
      obtain ⟨n0, n1, n2, n3, n4, n5⟩ := I3.fpOk (b := C) (Nat.le_of_eq hC.symm) (show H6 C = none from I6.free)
      refine ⟨.ref D, H6, ?_, rfl, q6⟩
      exact I7.turned (t' := s6.toks) (fun b o hb e => (sb.2 b hb).trans e) n0 n1 n3 n4 n5
  exact codeAny_compStart_dict loop (T.self _ 0 _ _ _ st4 loop)
end Wk

set_option Elab.async false
set_option linter.all false
set_option maxRecDepth 100000
set_option maxHeartbeats 2000000
namespace Wk
open L2 PySem PySem.Spec PyProof.Rows Evl
/-- the items that a comprehension has put, item j of the source by Y j -/
def Grown (Y : Nat → V → Hp → Prop) (H : Hp) : List Nat → List V → Prop
  | [], us => us = []
  | j :: js, us => ∃ u r, us = u :: r ∧ Y j u H ∧ Grown Y H js r
def UpY (Y : Nat → V → Hp → Prop) : Prop := ∀ i u H H', Ex H H' → Y i u H → Y i u H'
theorem Grown.up {Y : Nat → V → Hp → Prop} (hY : UpY Y) {H H' : Hp} (e : Ex H H') : ∀ {js : List Nat} {us : List V}, Grown Y H js us → Grown Y H' js us
  | [], _, h => h
  | j :: js, _, ⟨u, r, h1, h2, h3⟩ => ⟨u, r, h1, hY j u H H' e h2, Grown.up hY e h3⟩
theorem Grown.snoc {Y : Nat → V → Hp → Prop} {H : Hp} {j : Nat} {u : V} (h : Y j u H) : ∀ {js : List Nat} {us : List V}, Grown Y H js us → Grown Y H (js ++ [j]) (us ++ [u])
  | [], _, h0 => by
    rw [show _ = [] from h0]
    exact ⟨u, [], rfl, h, rfl⟩
  | k :: js, _, ⟨v, r, h1, h2, h3⟩ => by
    subst h1
    exact ⟨v, r ++ [u], rfl, h2, Grown.snoc h h3⟩
theorem Grown.len {Y : Nat → V → Hp → Prop} {H : Hp} : ∀ {js : List Nat} {us : List V}, Grown Y H js us → us.length = js.length
  | [], _, h0 => by
    rw [show _ = [] from h0]
    rfl
  | k :: js, _, ⟨v, r, h1, h2, h3⟩ => by
    subst h1
    simp [Grown.len h3]
def upTo (f : Nat → Bool) (i : Nat) : List Nat := (List.range i).filter f
theorem upTo_yes {f : Nat → Bool} {i : Nat} (h : f i = true) : upTo f (i + 1) = upTo f i ++ [i] := by
  unfold upTo
  rw [List.range_succ, List.filter_append]
  simp [h]
theorem upTo_no {f : Nat → Bool} {i : Nat} (h : f i = false) : upTo f (i + 1) = upTo f i := by
  unfold upTo
  rw [List.range_succ, List.filter_append]
  simp [h]
theorem upTo_len (f : Nat → Bool) (i : Nat) : (upTo f i).length ≤ i := by
  unfold upTo
  have h := List.length_filter_le f (List.range i)
  rw [List.length_range] at h
  exact h
/-- what is evaluated is told by Y, the heap may grow -/
def EvY (te : TE) (σ : L2.St) (H : Hp) (Y : V → Hp → Prop) : Prop := ∀ H1, Ex H H1 → ∀ Q : VK, (∀ u H2, Ex H1 H2 → Y u H2 → Q u H2) → te σ H1 Q
def off (D : Addr) (H : Hp) : Hp := fun a => if a = D then none else H a
theorem off_ex {D : Addr} {H H' : Hp} (e : Ex H H') : Ex (off D H) (off D H') := fun a o h => by
  unfold off at h ⊢
  by_cases z : a = D
  · rw [if_pos z] at h
    cases h
  · rw [if_neg z] at h ⊢
    exact e a o h
theorem off_in (D : Addr) (H : Hp) : Ex (off D H) H := fun a o h => by
  unfold off at h
  split at h
  · cases h
  · exact h
theorem off_upd {D : Addr} {H : Hp} {o : HO} : off D (upd H D o) = off D H := by
  funext a
  unfold off upd
  split <;> rfl
theorem off_at {D a : Addr} {H : Hp} (h : a ≠ D) : off D H a = H a := by
  unfold off
  rw [if_neg h]
/-- a word of an item that outlives new objects and does not speak of lists -/
structure GoodY (Y : Nat → V → Hp → Prop) : Prop where
  up : UpY Y
  off : ∀ i u H D l, H D = some (.lst l) → Y i u H → Y i u (Wk.off D H)
def Gw (Y : Nat → V → Hp → Prop) (H : Hp) (f : Nat → Bool) (D : Addr) (i : Nat) (H' : Hp) : Prop :=
  H D = none ∧ Ex H H' ∧ ∃ us, H' D = some (.lst us) ∧ Grown Y (off D H') (upTo f i) us
theorem gw_turn {Y : Nat → V → Hp → Prop} (hY : GoodY Y) {H H' : Hp} {f : Nat → Bool} {D : Addr} {i : Nat} {t : TT} {te : TE} {σ2 : L2.St} (p : Gw Y H f D i H') (hi : i < 50000)
    (ht : EvT t σ2 H' (f i)) (he : f i = true → EvY te σ2 H' (Y i)) :
    t σ2 H' fun b H3 => if b = true then te σ2 H3 fun y H4 => ∃ acc, H4 D = some (.lst acc) ∧ acc.length < sizeLine ∧ Gw Y H f D (i + 1) (upd H4 D (.lst (acc ++ [y])))
      else Gw Y H f D (i + 1) H3 := by
  obtain ⟨p1, p2, us, p3, p4⟩ := p
  refine ht H' (Ex.refl _) _ fun H3 e3 => ?_
  cases hf : f i with
  | false =>
    refine ⟨p1, p2.trans e3, us, e3 _ _ p3, ?_⟩
    rw [upTo_no hf]
    exact p4.up hY.up (off_ex e3)
  | true =>
    refine he hf H3 e3 _ fun u H4 e4 y => ?_
    have d4 := e4 _ _ (e3 _ _ p3)
    have l1 := p4.len
    have l2 := upTo_len f i
    refine ⟨us, d4, sz_lt (by omega), p1, Ex.mut ((p2.trans e3).trans e4) p1, us ++ [u], upd_same, ?_⟩
    rw [upTo_yes hf, off_upd]
    exact Grown.snoc (hY.off i u H4 D us d4 y) (p4.up hY.up (off_ex (e3.trans e4)))
/-- a list comprehension whose items may be new objects -/
theorem grow_lc {J : It} {n : Nat} {Gd : Hp → Prop} {Yx : Nat → V → Prop} {Y : Nat → V → Hp → Prop} {j : Nat} {vs : List Nat} {σ : L2.St} {H : Hp} {D : Addr} {Qd : Hp → Prop} {t : TT} {te : TE}
    (w : Walk J n Gd (fun i H x H' => H' = H ∧ Yx i x)) (hY : GoodY Y) (f : Nat → Bool) (hD : H D = none) (hn : n ≤ 40000) (hG : ∀ H', Ex H H' → Gd H') (hw : ∀ x, wipe ((wipe σ vs).set j (some x)) vs = wipe σ vs)
    (ht : ∀ i x H', Ex H H' → i < n → Yx i x → EvT t ((wipe σ vs).set j (some x)) H' (f i)) (he : ∀ i x H', Ex H H' → i < n → Yx i x → f i = true → EvY te ((wipe σ vs).set j (some x)) H' (Y i))
    (hq : ∀ us H', Ex H H' → H' D = some (.lst us) → Grown Y H' (upTo f n) us → Qd H') :
    ∃ W : Nat → Nat → Hp → Prop, (∃ m, W 0 m (upd H D (.lst []))) ∧ ∀ i m H, W i m H →
      (J.stop i H ∧ Qd H) ∨ (J.go i H ∧ ∃ Nx : Hp → Prop, (∀ H', Nx H' → ∃ m', m' < m ∧ W (i + 1) m' H') ∧ ∀ x H', J.yld i H x H' → gName j x (wipe σ vs) H' fun σ2 H2 => wipe σ2 vs = wipe σ vs ∧ t σ2 H2 fun b H3 =>
        if b = true then te σ2 H3 fun y H4 => ∃ acc, H4 D = some (.lst acc) ∧ acc.length < sizeLine ∧ Nx (upd H4 D (.lst (acc ++ [y]))) else Nx H3) := by
  refine lc_it w (Gw Y H f D) ⟨hD, Ex.new hD, [], upd_same, rfl⟩ (fun i H' _ p => hG H' p.2.1) (fun i x H' H2 hi p y => ?_) (fun H' p => ?_)
  · obtain ⟨rfl, yx⟩ := y
    exact ⟨hw x, gw_turn hY p (by omega) (ht i x _ p.2.1 hi yx) (fun hf => he i x _ p.2.1 hi yx hf)⟩
  · obtain ⟨_, e, us, d, g⟩ := p
    exact hq us H' e d (g.up hY.up (off_in D H'))
/-- the keys of a dict are the first i of k, each with True -/
def KHas (k : Nat → List L2.Key) (i : Nat) (kvs : List (List L2.Key × V)) : Prop :=
  ∀ q, (valV kvs q = some (V.bl true) ∧ ∃ j, j < i ∧ k j = q) ∨ (valV kvs q = none ∧ ∀ j, j < i → k j ≠ q)
/-- the keys that a comprehension has put -/
def Kw (k : Nat → List L2.Key) (H : Hp) (D : Addr) (i : Nat) (H' : Hp) : Prop :=
  H D = none ∧ Ex H H' ∧ ∃ kvs, H' D = some (.dT kvs) ∧ kvs.length ≤ i ∧ KHas k i kvs
/-- {x: True for x in ..}, of tuples of whole numbers or texts -/
theorem grow_dq {J : It} {n : Nat} {Gd : Hp → Prop} {Yx : Nat → V → Prop} {k : Nat → List L2.Key} {j : Nat} {vs : List Nat} {σ : L2.St} {H : Hp} {D : Addr} {Qd : Hp → Prop} {tk tv : TE}
    (w : Walk J n Gd (fun i H x H' => H' = H ∧ Yx i x)) (hD : H D = none) (hn : n ≤ 40000) (hG : ∀ H', Ex H H' → Gd H') (hw : ∀ x, wipe ((wipe σ vs).set j (some x)) vs = wipe σ vs)
    (hk : ∀ i x H', Ex H H' → i < n → Yx i x → EvY tk ((wipe σ vs).set j (some x)) H' (fun u H2 => ∃ b, u = .ref b ∧ H2 b = some (.tup ((k i).map kV))))
    (hv : ∀ i x H', Ex H H' → i < n → Yx i x → Ev tv ((wipe σ vs).set j (some x)) H' (.bl true))
    (hq : ∀ kvs H', Ex H H' → H' D = some (.dT kvs) → KHas k n kvs → Qd H') :
    ∃ W : Nat → Nat → Hp → Prop, (∃ m, W 0 m (upd H D (.dT []))) ∧ dqWalk J (fun Nx x Ha => dqStep (gName j) tYes tk tv vs D Nx σ x Ha) Qd W := by
  refine ⟨fun i m H' => m = n - i ∧ i ≤ n ∧ Kw k H D i H', ⟨n, by simp, Nat.zero_le _, hD, Ex.new hD, [], upd_same, Nat.le_refl _, fun q => .inr ⟨rfl, fun j hj => absurd hj (Nat.not_lt_zero _)⟩⟩, ?_⟩
  rintro i m H1 ⟨rfl, hi, p1, p2, kvs, p3, p4, p5⟩
  by_cases lt : i < n
  · refine .inr ⟨w.goes i H1 lt (hG H1 p2), Kw k H D (i + 1), fun Ha q => ⟨n - (i + 1), by omega, rfl, lt, q⟩, fun x Ha y => ?_⟩
    obtain ⟨rfl, yx⟩ := w.yields i H1 x Ha lt (hG H1 p2) y
    refine ⟨hw x, ?_⟩
    show tk _ _ _
    refine hk i x _ p2 lt yx _ (Ex.refl _) _ fun u H2 e2 hu => ?_
    obtain ⟨b, rfl, hb⟩ := hu
    refine hv i x _ p2 lt yx H2 e2 _ fun H3 e3 => ?_
    have d3 := e3 _ _ (e2 _ _ p3)
    refine ⟨_, DPut.t d3 (e3 _ _ hb) (sz_lt (by omega)), p1, Ex.mut ((p2.trans e2).trans e3) p1, _, upd_same, ?_, fun q => ?_⟩
    · have := length_putK kvs (k i) (V.bl true)
      omega
    · rw [valV_put]
      by_cases e : q = k i
      · rw [if_pos e]
        exact .inl ⟨rfl, i, Nat.lt_succ_self i, e.symm⟩
      · rw [if_neg e]
        rcases p5 q with ⟨z, j', h1, h2⟩ | ⟨z, h2⟩
        · exact .inl ⟨z, j', by omega, h2⟩
        · refine .inr ⟨z, fun j' hj => ?_⟩
          rcases Nat.lt_succ_iff_lt_or_eq.mp hj with h3 | h3
          · exact h2 j' h3
          · subst h3
            exact fun z2 => e z2.symm
  · have e : i = n := by omega
    subst e
    exact .inl ⟨w.stops H1 (hG H1 p2), hq kvs H1 p2 p3 p5⟩
end Wk

set_option Elab.async false
set_option linter.all false
set_option maxRecDepth 100000
set_option maxHeartbeats 2000000
namespace Wk
open L2 PySem PySem.Spec PyProof.Rows Evl
/-- a tuple of two, turned about by a slice of step -1 -/
theorem get_back {prog : Program} {w : World} {A : Around} {E : Value → Shared → Prop} {s : Shared} {t sl : Addr} {x y vs : Value} {Q : Value → Shared → Prop}
    (ht : IsTup s.heap t #[x, y]) (hs : s.heap.IsSliceOf sl .none .none vs) (ps : IsPart vs (some (-1)))
    (h : Q (.ref s.heap.objs.size) { s with heap := s.heap.push { cls := .type "tuple", data := .seq #[y, x] } }) :
    wpAny (model prog w) A (getItem (.ref t) (.ref sl)) Q E s := by
  obtain ⟨os, hos, hcs, hds⟩ := id hs
  have ts : s.TypeIs (.ref sl) "slice" := ⟨os, hos, hcs⟩
  unfold getItem
  try with_reducible refine wpAny_holding ?_
  have tt := ht.typeIs
  refine wpAny_bind (wpAny_sequenceKey tt (by decide) (wpAny_bind (wpAny_callSpecial?_slot (name := Str.ofString "__getitem__") tt PyProof.Rows.slot_tuple_getitem ?_)))
  refine wpAny_call_entry PyProof.Rows.slot_tuple_getitem tt entry_tuple_getitem ?_ (args_tuple_getitem _ _)
  show wpAny _ _ (Builtin.Tuple.tupleItemsOf (.ref t) >>= _) _ _ s
  refine wpAny_bind (tupleItemsOf_ ht (wpAny_bind (wpAny_typeOf ts ?_)))
  rw [if_pos (by decide)]
  refine wpAny_bind ?_
  unfold Builtin.Slice.sliceApplied Builtin.Slice.sliceFields
  refine wpAny_bind (wpAny_bind (wpAny_field hos hds (x := .none) rfl (wpAny_bind (wpAny_field hos hds (x := .none) rfl (wpAny_bind (wpAny_field hos hds (x := vs) rfl (wpAny_pure ?_)))))))
  refine wpAny_bind (HT.slicePart_ ps ?_)
  show wpAny _ _ (if ((-1 : Int) == 0) = true then _ else _) _ _ s
  rw [if_neg (by decide)]
  refine wpAny_bind (slicePart_none (wpAny_bind (slicePart_none (wpAny_bind (wpAny_pure ?_)))))
  have e1 : Builtin.Slice.sliceAdjust none none (-1) (2 : Int) = (1, -1) := by first | rfl | decide
  have e2 : Builtin.Slice.slicePlaces 1 (-1) (-1) = 2 := by first | rfl | decide
  show wpAny _ _ (match Builtin.Slice.sliceAdjust none none (-1) (2 : Int) with | (lo, hi) => pure (lo, (-1 : Int), Builtin.Slice.slicePlaces lo hi (-1))) _ _ s
  rw [e1]
  show wpAny _ _ (pure ((1 : Int), (-1 : Int), Builtin.Slice.slicePlaces 1 (-1) (-1))) _ _ s
  rw [e2]
  refine wpAny_pure ?_
  show wpAny _ _ (if ((1 : Int) == 0 && (-1 : Int) == 1 && (2 : Nat) == 2) = true then _ else _) _ _ s
  rw [if_neg (by decide)]
  have e3 : ((List.range 2).filterMap fun (k : Nat) => #[x, y][((1 : Int) + (k : Int) * (-1)).toNat]?).toArray = #[y, x] := by first | rfl | simp [List.range, List.range.loop]
  rw [e3]
  have z : sizeOk (.seq #[y, x]) := by show (2 : Nat) ≤ sizeLine; decide
  first
    | exact wpAny_bind (m := Builtin.Tuple.tupleExact _) (wpAny_newObj_type (wpAny_pure ⟨_, rfl, wpAny_pure h⟩) z)
    | exact wpAny_bind (wpAny_newObj_type (wpAny_pure ⟨_, rfl, wpAny_pure h⟩) z)
/-- t[::-1] of a tuple of two -/
def tBack (K : PySem.W.Frag) (te : TE) : TE := fun σ H Q => te σ H fun x H1 => ∃ a u v, x = .ref a ∧ SqT K H1 a [u, v] ∧
  ∀ p, H1 p = none → Q (.ref p) (upd H1 p (.tup [v, u]))
theorem pe_back {X : Cx} {e : Expr} {te : TE} {k : Nat} {p1 p2 p3 pos : Pos} (he : PE X e te) :
    PE X (.Subscript e (.Slice none none (some (.UnaryOp .USub (.Constant (.int 1) k p1) p2)) p3) pos) (tBack X.K te) := by
  constructor
  intro ps s σ H Q I h
  refine Subscript_ (thn (he.run ps s σ H _ I h) ?_)
  rintro v0 s1 ⟨_, H1, I1, rv, a, x, y, rfl, hx, q⟩
  obtain rfl : v0 = Value.ref a := rv
  have st : PO X (some (.UnaryOp .USub (.Constant (.int 1) k p1) p2)) (tPart (tUn (rU fun i => .int (-i)) (tC (.int 1)))) := po_some (pe_un un_neg pe_int)
  refine wpAny_Slice (thn (po_none.run ps s1 σ H1 (fun o H2 => o = none ∧ H2 = H1) I1 ⟨rfl, rfl⟩) ?_)
  rintro vl s2 ⟨_, _, I2, pl, rfl, rfl⟩
  refine thn (po_none.run ps s2 σ _ (fun o H3 => o = none ∧ H3 = _) I2 ⟨rfl, rfl⟩) ?_
  rintro vu s3 ⟨_, _, I3, pu, rfl, rfl⟩
  refine thn (st.run ps s3 σ _ (fun o H4 => o = some (-1) ∧ H4 = _) I3 ⟨1, rfl, -1, rfl, rfl, rfl⟩) ?_
  rintro vs s4 ⟨_, _, I4, pz, rfl, rfl⟩
  cases pl
  cases pu
  have I5 := I4.kept (h' := s4.heap.push { cls := .type "slice", data := .fields #[.none, .none, vs] }) (t' := s4.toks) fun b ob z => Heap.get?_push_of_some _ z
  obtain ⟨its, r, ht, hz⟩ := I5.tuple hx
  cases r with
  | cons r1 r' =>
    cases r' with
    | cons r2 r'' =>
      cases r''
      refine tail_any (ops := [.ref a, .ref s4.heap.objs.size]) ht.typeIs (PyProof.Rows.slot_tuple_getitem.lookup) ?_ (by with_unfolding_all rfl)
      refine get_back ht (Heap.IsSliceOf.new _ .none .none vs) pz ?_
      refine ⟨.ref _, _, I5.laid (t' := s4.toks) (o := .tup [y, x]) (fun b ob z => Heap.get?_push_of_some _ z) (Nat.le_refl _) ?_, rfl, q _ (I5.hok.fresh (Nat.le_refl _))⟩
      exact ⟨by show (2 : Nat) ≤ sizeLine; decide, _, .cons r2 (.cons r1 .nil), IsTup.new _ _⟩
end Wk

set_option Elab.async false
set_option linter.all false
set_option maxRecDepth 100000
set_option maxHeartbeats 2000000
namespace Wk
open L2 PySem PySem.Spec PyProof.Rows Evl
theorem sl_tupK {X : Cx} {K : PySem.W.Frag} (hK : X.K = K) : SlR X (rSlA K) := by
  subst hK
  exact sl_tupA
theorem ret_any {te : TE} {D : Ends} {σ : L2.St} {H : Hp} (h : te σ H D.rt) : tRet te D σ H := h
theorem ey_sl {K : PySem.W.Frag} {σ : L2.St} {H : Hp} {te : TE} {tl th : TO} {a : Addr} {xs : List V} {lo hi : Option Int} (h : Ev te σ H (.ref a)) (h1 : EvO tl σ H lo) (h2 : EvO th σ H hi)
    (ha : H a = some (.tup xs)) : EvY (tSl (rSlA K) te tl th) σ H (fun u H2 => ∃ b, u = .ref b ∧ H2 b = some (.tup (cutV xs lo hi))) := fun H1 e Q q =>
  h H1 e _ fun H2 e2 => h1 H2 (e.trans e2) _ fun H3 e3 => h2 H3 ((e.trans e2).trans e3) _ fun H4 e4 => by
    have e14 := (e2.trans e3).trans e4
    have ha4 := (e.trans e14) _ _ ha
    refine ⟨a, xs, rfl, st_of ha4, fun hw => ?_, fun hw p hp => q _ _ (e14.trans (Ex.new hp)) ⟨p, rfl, upd_same⟩⟩
    have ec : cutV xs lo hi = xs := by
      unfold cutV
      rw [hw.1, hw.2]
      simp
    exact q _ _ e14 ⟨a, rfl, by rw [ec]; exact ha4⟩
def TupY (z : Nat → List V) : Nat → V → Hp → Prop := fun i u H => ∃ b, u = .ref b ∧ H b = some (.tup (z i))
theorem tupY_good (z : Nat → List V) : GoodY (TupY z) := by
  refine ⟨fun i u H H' e h => ?_, fun i u H D l hD h => ?_⟩
  · obtain ⟨b, h1, h2⟩ := h
    exact ⟨b, h1, e _ _ h2⟩
  · obtain ⟨b, h1, h2⟩ := h
    refine ⟨b, h1, (off_at ?_).trans h2⟩
    intro hb
    rw [hb, hD] at h2
    cases h2
theorem grown_wds {ws : Nat → Wy} {H : Hp} : ∀ {js : List Nat} {us : List V}, Grown (TupY fun i => (ws i).map V.int) H js us → DqA H us ((js.map ws).map wd)
  | [], us, h => by
    rw [show us = [] from h]
    exact .nil
  | j :: js, us, ⟨u, r, h1, ⟨b, h2, h3⟩, h4⟩ => by
    subst h1 h2
    exact .cons (wd_of h3) (grown_wds h4)
theorem upTo_all (n : Nat) : upTo (fun _ => true) n = List.range n := by
  unfold upTo
  simp
/-- [e for i in range(n)], the items new tuples of whole numbers -/
theorem q_lcR {ta : TA} {te : TE} {j : Nat} {vs : List Nat} {n : Int} {σ : L2.St} {H : Hp} {Q : VK} {Y : Nat → V → Hp → Prop} (h : EvA ta σ H [.int n]) (hn0 : -1 ≤ n) (hn : n ≤ 40000) (hY : GoodY Y)
    (hw : ∀ x, wipe ((wipe σ vs).set j (some x)) vs = wipe σ vs) (he : ∀ (i : Nat) H', Ex H H' → (i : Int) < n → EvY te ((wipe σ vs).set j (some (.int (i : Int)))) H' (Y i))
    (k : ∀ l us H', Ex H H' → H l = none → H' l = some (.lst us) → Grown Y H' (List.range n.toNat) us → Q (.ref l) H') : tLc (iRng1 ta) (gName j) tYes te vs σ H Q :=
  h H (Ex.refl H) _ fun H1 e1 => ⟨n, rfl, by omega, by omega, fun D hD => grow_lc (Yx := fun i x => x = .int ((0 : Int) + (i : Int))) walk_range hY (fun _ => true) hD (by omega) (fun _ _ => True.intro) hw (fun i x H' e hi hx => et_yes)
    (fun i x H' e hi hx _ => by
      have z : x = .int (i : Int) := by rw [hx, Int.zero_add]
      rw [z]
      exact he i H' (e1.trans e) (by omega))
    (fun us H' e hd g => k D us H' (e1.trans e) (fresh_back e1 hD) hd (by rw [upTo_all] at g; exact g))⟩
section
variable {P : Program} {w : World} {K : PySem.W.Frag} {mg : Str → Option Value} {base : Heap} {f : Addr} {fd : FuncData} {CW CN : Addr}
/-! ends, hops -/
def endsW (w : Wy) : List Wy := (List.range (w.length - 1)).map fun i => w.drop i
def hopsW (w : Wy) : List Wy := (List.range (w.length - 1)).map fun i => (w.drop i).take 2
def spEnds (g : Wy → List Wy) : Sp := fun vs H Q _ => ∃ (v : V) (w : Wy), vs = [v] ∧ Dq H v (wd w) ∧ w.length ≤ 1000 ∧ ∀ H' l us, Ex H H' → H l = none → H' l = some (.lst us) → DqA H' us ((g w).map wd) → Q (.ref l) H'
abbrev nEnds : List Str := ["way", "place"]
abbrev sEnds : Stmt := top 23
theorem scEnds : FnScope nEnds ["way"] (defScope sEnds) := ⟨rfl, rfl, rfl, by decide +kernel, rfl, by decide +kernel, by decide +kernel⟩
theorem ok_ends (B : Bl mg) (F : FnP K "ends" sEnds f fd) : FnOk P w K mg base CX0 1 f fd ["way"] (spEnds endsW) := by
  refine F.ok scEnds (fun vs H Q E h => ?_) (fun cdv A outer s H vs Q E hr h => ?_)
  · obtain ⟨v, w, rfl, _⟩ := h
    rfl
  · obtain ⟨v, w, rfl, hv, hl, k⟩ := h
    obtain ⟨a, rfl, ha⟩ := wd_ref hv
    refine ⟨_, pss_one (ps_ret (pe_lc (own := [("place", 1)]) (g := gName 1) (tt := tYes) rfl scEnds.nd
      (pi_range1 (by rfl) B.range (pa_cons (pe_op op_sub (pe_callB call_len_seq (by rfl) B.len PySem.boot_len (pa_cons (pv 0) pa_nil)) pe_int) pa_nil)) (blkOk_by (N := nEnds) (sc := defScope sEnds) (by decide +kernel))
      (fun _ _ _ _ _ => pg_name (i := 1) scEnds.nd rfl (Or.inl rfl)) (fun _ _ _ _ _ => pts_nil) (fun _ _ _ _ _ => pe_slice (sl_tupK (K := K) rfl) (pv 0) (po_some (pv 1)) po_none))), ?_⟩
    have hxl : (w.map V.int).length = w.length := List.length_map _
    refine ret_any (q_lcR (n := (w.length : Int) - 1) (Y := TupY fun i => (w.drop i).map V.int) (ea_cons (ev_op (ev_lenT (K := K) (ta := tVar 0) (ev_var rfl) (st_of ha)) ev_c ?_) ea_nil) (by omega) (by omega) (tupY_good _) (fun x => rfl) ?_ ?_)
    · rw [hxl]
      exact rv_I0
    · intro i H' e hi
      have q := ey_sl (K := K) (σ := (wipe (start nEnds [V.ref a]) [1]).set 1 (some (.int (i : Int)))) (ev_var (i := 0) rfl) (eo_some (ev_var (i := 1) rfl)) eo_none (e _ _ ha)
      rw [cut_from _ i (by rw [hxl]; omega), ← List.map_drop] at q
      exact q
    · intro l us H' e hl2 hd g
      rw [show ((w.length : Int) - 1).toNat = w.length - 1 by omega] at g
      exact k H' l us e hl2 hd (grown_wds g)
end
end Wk

set_option Elab.async false
set_option linter.all false
set_option maxRecDepth 100000
set_option maxHeartbeats 2000000
namespace Wk
open PySem PySem.Spec PyProof.Rows L2 Evl
/-- wishes' methods and names, for one who calls them -/
structure WC (P : Program) (w : World) (K : PySem.W.Frag) (mg : Str → Option Value) (base : Heap) (CW CN : Addr) : Prop where
  tx : WTx K mg CW
  it : ITx K CW
  wy : ∃ (fM : Addr) (fd : FuncData), Meth K CW "ways" fM ∧ FnOk P w K mg base (L2.CX P w) 5 fM fd ["self", "router"] (spWays CW CN) ∧ Binds K fd ["self", "router"] []
def intsB (d : PyData) : Bool := isTu d && (itemsT d).all isI
theorem intsB_wd {d : PyData} (h : intsB d = true) : d = wd (rts d) := by
  unfold intsB at h
  obtain ⟨h1, h2⟩ := Bool.and_eq_true_iff.mp h
  cases d <;> first | (simp [isTu] at h1; done) | skip
  rename_i ds
  have h2' : ds.all isI = true := h2
  unfold wd rts itemsT
  congr 1
  clear h1 h2 h
  induction ds with
  | nil => rfl
  | cons x l ih =>
    have h3 : isI x = true ∧ l.all isI = true := by simpa using h2'
    show x :: l = .int (valI x) :: (l.map valI).map PyData.int
    rw [← ih h3.2, ← isI_eq h3.1]
def chB (rows : List (List Wy)) (i : Nat) (d : PyData) : Bool := intsB d && decide (rts d ∈ chW rows i)
def tgN (n : Int) : Option PyData → Bool
  | some d => isTu d && decide (V.int ((itemsT d).length : Int) = V.int n)
  | none => false
def tkB (rows : List (List Wy)) (o : Option PyData) : Bool := tgN (rows.length : Int) o && match o with
  | some d => ((List.range (itemsT d).length).map fun k => (((itemsT d)[k]?).map (chB rows k)).getD false).all id
  | none => true
section
variable {P : Program} {w : World} {K : PySem.W.Frag} {mg : Str → Option Value} {base : Heap} {f : Addr} {fd : FuncData} {CW CN : Addr}
/-! is_tuple_of, is_integer_tuple -/
abbrev spTupOf (CW : Addr) : Sp := spP fun H vs z => ∃ (n : Int) (v : V) (o : Option PyData), vs = [.int n, v] ∧ Tg CW H v o ∧ z = .bl (tgN n o)
abbrev spIntTup : Sp := spP fun H vs z => ∃ (v : V) (d : PyData), vs = [v] ∧ Dq H v d ∧ (itemsT d).length ≤ 1000 ∧ z = .bl (intsB d)
abbrev sIntTup : Stmt := top 9
theorem scIntTup : FnScope ["thing", "item"] ["thing"] (defScope sIntTup) := ⟨rfl, rfl, rfl, by decide +kernel, rfl, by decide +kernel, by decide +kernel⟩
theorem ok_intTup (B : Bl mg) (C : Cal P w K mg base "is_integer" ["thing"] 1 spIsInt) (F : FnP K "is_integer_tuple" sIntTup f fd) : FnOk P w K mg base CX0 2 f fd ["thing"] spIntTup := by
  refine F.ok scIntTup (fun vs H Q E h => ?_) (fun cdv A outer s H vs Q E hr h => ?_)
  · obtain ⟨z, ⟨v, d, rfl, _⟩, _⟩ := h
    rfl
  · obtain ⟨z, ⟨v, d, rfl, hv, hl, rfl⟩, k⟩ := h
    refine ⟨_, pss_one (ps_ret (pe_and (pe_callB call_isi (by rfl) B.isi boot_isinstance (pa_cons (pv 0) (pa_cons (pe_bltn (v := .ty "tuple") (by rfl) B.tuple PyProof.Rows.boot_tuple rfl) pa_nil)))
      (pe_one (pe_callB (cr_all rfl) (by rfl) B.all boot_all (pa_cons (pe_lc (own := [("item", 1)]) (g := gName 1) (tt := tYes) rfl scIntTup.nd (pi_tup (pv 0)) (blkOk_by (N := ["thing", "item"]) (sc := defScope sIntTup) (by decide +kernel))
          (fun _ _ _ _ _ => pg_name (i := 1) scIntTup.nd rfl (Or.inl rfl)) (fun _ _ _ _ _ => pts_nil) (fun _ _ _ _ _ => pe_cal C hr (by rfl) (pa_cons (pv 1) pa_nil))) pa_nil))))), ?_⟩
    refine s_ret (ev_andV (a := isTu d) (ev_isi (ev_var rfl) hv (kit_tup d)) fun ht => ?_) k
    cases d <;> first | (simp [isTu] at ht; done) | skip
    rename_i ds
    obtain ⟨a, xs, rfl, h1, h2⟩ := hv.seqT (K := K)
    have hxl := h2.length
    have hl' : ds.length ≤ 1000 := hl
    have q := ev_allT (K := K) (H := H) (j := 1) (vs := [1]) (σ := start ["thing", "item"] [.ref a]) (tl := tVar 0) (te := tCall spIsInt [] E0 (tCons (tVar 1) tNil)) (fun i => ((ds[i]?).map isI).getD false) (ev_var rfl) (h1 _ (Ex.refl _)) (by omega) (fun x => rfl)
      (fun i x H2 e2 hx => by
        obtain ⟨dx, e3, e4⟩ := h2.get hx
        rw [e3]
        exact ev_call (ea_cons (ev_var rfl) ea_nil) (spP_v fun H3 e5 => ⟨x, dx, rfl, (e4.mono e2).mono e5, rfl⟩))
    rw [hxl, all_get] at q
    exact q
end
end Wk

set_option Elab.async false
set_option linter.all false
set_option maxRecDepth 100000
set_option maxHeartbeats 2000000
namespace Wk
open L2 PySem PySem.Spec PyProof.Rows Evl
theorem cut_two (xs : List V) (i : Nat) (h : i ≤ xs.length) : cutV xs (some (i : Int)) (some ((i : Int) + 2)) = (xs.drop i).take 2 := by
  unfold cutV
  rw [show ((i : Int) + 2) = ((i + 2 : Nat) : Int) by omega, HT.sIx_nat, HT.sIx_nat, Nat.min_eq_left h]
  by_cases z : i + 2 ≤ xs.length
  · rw [Nat.min_eq_left z]
    congr 1
    omega
  · rw [Nat.min_eq_right (by omega), List.take_of_length_le (by simp), List.take_of_length_le (by rw [List.length_drop]; omega)]
def keyW (w : Wy) : List L2.Key := w.map Sum.inl
theorem keyW_kV (w : Wy) : (keyW w).map kV = w.map V.int := by
  unfold keyW
  rw [List.map_map]
  rfl
theorem keyW_inj {v w : Wy} (h : keyW v = keyW w) : v = w := by
  unfold keyW at h
  induction v generalizing w with
  | nil =>
    cases w with
    | nil => rfl
    | cons b w => cases h
  | cons a v ih =>
    cases w with
    | nil => cases h
    | cons b w =>
      simp only [List.map_cons, List.cons.injEq] at h
      have h1 : a = b := by injection h.1
      rw [h1, ih h.2]
section
variable {K : PySem.W.Frag} {σ : L2.St} {H : Hp} {te td ty : TE}
theorem ey_old {b : Addr} {xs : List V} (h : Ev te σ H (.ref b)) (hb : H b = some (.tup xs)) : EvY te σ H (fun u H2 => ∃ b, u = .ref b ∧ H2 b = some (.tup xs)) := fun H1 e Q q =>
  h H1 e _ fun H2 e2 => q _ H2 e2 ⟨b, rfl, e2 _ _ (e _ _ hb)⟩
theorem ey_back {b : Addr} {x y : V} (h : Ev te σ H (.ref b)) (hb : H b = some (.tup [x, y])) : EvY (tBack K te) σ H (fun u H2 => ∃ b, u = .ref b ∧ H2 b = some (.tup [y, x])) := fun H1 e Q q =>
  h H1 e _ fun H2 e2 => ⟨b, x, y, rfl, st_of (e2 _ _ (e _ _ hb)), fun p hp => q _ _ (e2.trans (Ex.new hp)) ⟨p, rfl, upd_same⟩⟩
theorem ev_dInY {k : List L2.Key} {D : Addr} {kvs : List (List L2.Key × V)} (hy : EvY ty σ H (fun u H2 => ∃ b, u = .ref b ∧ H2 b = some (.tup (k.map kV)))) (hd : Ev td σ H (.ref D))
    (hD : H D = some (.dT kvs)) : Ev (tDIn ty td) σ H (.bl (valV kvs k).isSome) := fun H1 e Q q => hy H1 e _ fun u H2 e2 hu => by
  obtain ⟨b, rfl, hb⟩ := hu
  exact hd H2 (e.trans e2) _ fun H3 e3 => ⟨D, valV kvs k, rfl, DGet.t ((e.trans (e2.trans e3)) _ _ hD) (e3 _ _ hb), q H3 (e2.trans e3)⟩
end
section
variable {P : Program} {w : World} {K : PySem.W.Frag} {mg : Str → Option Value} {base : Heap} {f : Addr} {fd : FuncData} {CW CN : Addr}
/-! is_cut -/
abbrev spCut : Sp := spP fun H vs z => ∃ (D : Addr) (kvs : List (List L2.Key × V)) (v : V) (x y : Int), vs = [.ref D, v] ∧ H D = some (.dT kvs) ∧ Dq H v (wd [x, y]) ∧
  z = .bl ((valV kvs (keyW [x, y])).isSome || (valV kvs (keyW [y, x])).isSome)
abbrev nCut : List Str := ["cut", "link"]
end
end Wk

set_option Elab.async false
set_option linter.all false
set_option maxRecDepth 100000
set_option maxHeartbeats 2000000
namespace Wk
open L2 PySem PySem.Spec PyProof.Rows Evl
theorem pi_tupK {X : Cx} {K : PySem.W.Frag} {tg l : Expr} {tl : TE} (hK : X.K = K) (hl : PE X l tl) : PI X tg l (iTup K tl) := by
  subst hK
  exact pi_tup hl
theorem wds_off {H : Hp} {D : Addr} {l : List V} (hD : H D = some (.lst l)) : ∀ {ws : List Wy} {us : List V}, DqA H us (ws.map wd) → DqA (off D H) us (ws.map wd)
  | [], _, h => by
    cases h
    exact .nil
  | w :: ws, _, h => by
    cases h with
    | cons h1 h2 =>
      obtain ⟨a, rfl, ha⟩ := wd_ref h1
      refine .cons (wd_of ((off_at ?_).trans ha)) (wds_off hD h2)
      intro z
      rw [z, hD] at ha
      cases ha
/-- the list that grows holds these ways -/
def LW (D : Addr) (H1 : Hp) (ws : List Wy) (H : Hp) : Prop := H1 D = none ∧ Ex H1 H ∧ ∃ us, H D = some (.lst us) ∧ DqA (off D H) us (ws.map wd)
theorem LW.ext {D : Addr} {H1 H H' : Hp} {ws : List Wy} (h : LW D H1 ws H) (e : Ex H H') : LW D H1 ws H' := by
  obtain ⟨h1, h2, us, h3, h4⟩ := h
  exact ⟨h1, h2.trans e, us, e _ _ h3, h4.mono (off_ex e)⟩
theorem LW.put {D : Addr} {H1 H : Hp} {ws : List Wy} {w : Wy} {u : V} (h : LW D H1 ws H) (hl : ws.length ≤ 1000) (hu : Dq (off D H) u (wd w)) :
    ∃ acc, H D = some (.lst acc) ∧ acc.length < sizeLine ∧ LW D H1 (ws ++ [w]) (upd H D (.lst (acc ++ [u]))) := by
  obtain ⟨h1, h2, us, h3, h4⟩ := h
  have l := h4.length
  rw [List.length_map] at l
  refine ⟨us, h3, sz_lt (by omega), h1, Ex.mut h2 h1, us ++ [u], upd_same, ?_⟩
  rw [off_upd, List.map_append]
  exact h4.append (.cons hu .nil)
def lwB (rows : List (List Wy)) (d : PyData) : Bool := intsB d && (!decide ((itemsT d).length = 0) && isR (rows.length : Int) ((itemsT d).getD 0 .none)) && decide (rts d ∈ rows.getD (valI ((itemsT d).getD 0 .none)).toNat [])
section
variable {P : Program} {w : World} {K : PySem.W.Frag} {mg : Str → Option Value} {base : Heap} {f : Addr} {fd : FuncData} {CW CN : Addr}
/-! let_ways -/
theorem len_flat {rows : List (List Wy)} (h6 : ∀ row ∈ rows, row.length ≤ 6) : rows.flatten.length ≤ 6 * rows.length := by
  induction rows with
  | nil => simp
  | cons r rs ih =>
    have := h6 r List.mem_cons_self
    have := ih fun row hm => h6 row (List.mem_cons_of_mem _ hm)
    simp only [List.flatten_cons, List.length_append, List.length_cons]
    omega
def spLetWays (CW : Addr) : Sp := fun vs H Q _ => ∃ (v : V) (rows : List (List Wy)), vs = [v] ∧ WO CW H v rows ∧ ∀ H' l us, Ex H H' → H l = none → H' l = some (.lst us) → DqA H' us (rows.flatten.map wd) → Q (.ref l) H'
abbrev nLetWays : List Str := ["wishes", "router", "way"]
abbrev sLetWays : Stmt := top 21
theorem scLetWays : FnScope nLetWays ["wishes"] (defScope sLetWays) := ⟨rfl, rfl, rfl, by decide +kernel, rfl, by decide +kernel, by decide +kernel⟩
theorem ok_letWays (B : Bl mg) (W : WC P w K mg base CW CN) (F : FnP K "let_ways" sLetWays f fd) : FnOk P w K mg base CX0 6 f fd ["wishes"] (spLetWays CW) := by
  obtain ⟨fM, fdM, me, FM, bM⟩ := W.wy
  refine F.ok scLetWays (fun vs H Q E h => ?_) (fun cdv A outer s H vs Q E hr h => ?_)
  · obtain ⟨v, rows, rfl, _⟩ := h
    rfl
  · obtain ⟨v, rows, rfl, hw, k⟩ := h
    refine ⟨_, pss_one (ps_ret (pe_lc2 (own := [("router", 1), ("way", 2)]) (vs1 := [2]) (g := gName 1) (g1 := gName 2) (tt := tYes) (tt1 := tYes) rfl scLetWays.nd
      (pi_range1 (by rfl) B.range (pa_cons (pe_fld (pv 0) rfl) pa_nil)) (blkOk_by (N := nLetWays) (sc := defScope sLetWays) (by decide +kernel)) (by decide)
      (fun _ _ _ _ _ => pg_name (i := 1) scLetWays.nd rfl (Or.inl rfl)) (fun _ _ _ _ _ => pts_nil)
      (fun _ _ _ _ _ => pi_tupK (K := K) rfl (pe_meAt (pv 0) W.tx.cl me FM hr bM (fun σ => passAt takes0 σ) (pa_cons (pv 1) pa_nil)))
      (fun _ _ _ _ _ => pg_name (i := 2) scLetWays.nd rfl (Or.inl rfl)) (fun _ _ _ _ _ => pts_nil) (fun _ _ _ _ _ => pv 2))), ?_⟩
    have n8 := hw.n8
    have v0 : ∀ {H1 : Hp}, Ev (tVar 0) (start nLetWays [v]) H1 v := ev_var rfl
    refine ret_any ?_
    unfold tLc2 iRng1
    refine ea_cons (ev_wsize W.tx v0 hw) ea_nil H (Ex.refl H) _ fun H1 e1 => ⟨(rows.length : Int), rfl, by omega, by omega, fun D hD => ?_⟩
    have hw1 := hw.up e1
    have hlf := len_flat hw.r6
    refine ⟨fun i m Hx => m = rows.length - i ∧ i ≤ rows.length ∧ LW D H1 (rows.take i).flatten Hx, ⟨rows.length, by simp, Nat.zero_le _, hD, Ex.new hD, [], upd_same, .nil⟩, ?_⟩
    rintro i m H2 ⟨rfl, hi, lw⟩
    by_cases lt : i < rows.length
    · refine .inr ⟨by show i < (rows.length : Int).toNat; omega, fun Hx => LW D H1 (rows.take (i + 1)).flatten Hx, fun Hx q => ⟨rows.length - (i + 1), by omega, rfl, lt, q⟩, ?_⟩
      rintro x H3 ⟨rfl, rfl⟩
      refine ⟨rfl, ?_⟩
      have hrw : rows[i]? = some rows[i] := List.getElem?_eq_getElem lt
      have hr6 := hw.r6 _ (List.getElem_mem lt)
      have etk : (rows.take (i + 1)).flatten = (rows.take i).flatten ++ rows[i] := by
        rw [take_snoc hrw, List.flatten_append]
        simp
      have hl0 : ((rows.take i).flatten).length ≤ 48 := by
        have := len_flat (rows := rows.take i) fun row hm => hw.r6 row (List.mem_of_mem_take hm)
        have := List.length_take_le i rows
        omega
      rw [etk]
      generalize rows[i] = row at *
      generalize (rows.take i).flatten = pre at *
      show tMeAt CW "ways" (spWays CW CN) _ (tVar 0) (tCons (tVar 1) tNil) _ H3 _
      have e2 : Ex H1 H3 := lw.2.1
      refine t_ways (i := i) (ev_var rfl) (hw1.up e2) ?_ hrw fun u H4 e4 hu => ?_
      · rw [show (V.int (i : Int)) = V.int ((0 : Int) + (i : Int)) by rw [Int.zero_add]]
        exact ev_var rfl
      · have lw4 := lw.ext e4
        obtain ⟨_, _, us4, hd4, _⟩ := lw4
        unfold rd at hu
        obtain ⟨ua, xs, uo, eua, h1, hs, hfm, h2⟩ := hu.seqU
        subst eua
        · have hxl := h2.length
          rw [List.length_map] at hxl
          have hne : ua ≠ D := by
            intro z
            rw [z, hd4] at h1
            have z2 := (Option.some.inj h1).symm
            rcases hfm with e | ⟨o, e⟩ <;> (rw [e] at z2; cases z2)
          have g1 : off D H4 ua = some uo := (off_at hne).trans h1
          have g2 := wds_off hd4 h2
          refine ⟨ua, rfl, ⟨xs, hs _ _ h1⟩, fun j k Hx => k = row.length - j ∧ j ≤ row.length ∧ LW D H1 (pre ++ row.take j) Hx ∧ Ex (off D H4) (off D Hx), ⟨row.length, by simp, Nat.zero_le _, by simpa using lw.ext e4, Ex.refl _⟩, ?_⟩
          rintro j m H5 ⟨rfl, hj, lw5, ex5⟩
          have s5 : SqT K H5 ua xs := hs _ _ (off_in D H5 _ _ (ex5 _ _ g1))
          by_cases ltj : j < row.length
          · refine .inr ⟨walk_tup.goes j H5 (by omega) s5, fun Hx => LW D H1 (pre ++ row.take (j + 1)) Hx ∧ Ex (off D H4) (off D Hx), fun Hx q => ⟨row.length - (j + 1), by omega, rfl, ltj, q.1, q.2⟩, ?_⟩
            intro y H6 hy
            have hyy := walk_tup.yields j H5 y H6 (by omega) s5 hy
            obtain ⟨rfl, hy2⟩ := hyy
            refine ⟨rfl, ?_⟩
            show ∃ z, _ ∧ _
            refine ⟨y, rfl, ?_⟩
            obtain ⟨w, hw1, hw2⟩ := DqA.wds_inv g2 hy2
            have etj : row.take (j + 1) = row.take j ++ [w] := take_snoc hw1
            obtain ⟨acc, a1, a2, a3⟩ := lw5.put (w := w) (u := y) (by rw [List.length_append, List.length_take]; omega) (hw2.mono ex5)
            refine ⟨acc, a1, a2, ?_, ?_⟩
            · rw [etj, ← List.append_assoc]
              exact a3
            · rw [off_upd]
              exact ex5
          · have ej : j = row.length := by omega
            subst ej
            refine .inl ⟨?_, ?_⟩
            · have := (walk_tup (K := K) (a := ua) (xs := xs)).stops H5 s5
              rw [hxl] at this
              exact this
            · rw [List.take_length] at lw5
              exact lw5
    · have ei : i = rows.length := by omega
      subst ei
      obtain ⟨l1, l2, us, l3, l4⟩ := lw
      rw [List.take_length] at l4
      refine .inl ⟨by show (rows.length : Int).toNat ≤ rows.length; omega, ?_⟩
      exact k H2 D us (e1.trans l2) (fresh_back e1 hD) l3 (l4.mono (off_in D H2))
end
end Wk

set_option Elab.async false
set_option linter.all false
set_option maxRecDepth 100000
set_option maxHeartbeats 4000000
namespace Wk
open PySem PySem.Spec PyProof.Rows L2 Evl LamX NdefX LmP
/-! ### comprehensions that map or sift, as values -/
section
variable {K : PySem.W.Frag} {a : Addr} {xs : List V} {j : Nat} {vs : List Nat} {σ : L2.St} {H : Hp} {ta te : TE} {tt : TT}
theorem el_mapT (F : V → V) (ha : Ev ta σ H (.ref a)) (hx : SqT K H a xs) (hl : xs.length ≤ 10000) (hw : ∀ x, wipe ((wipe σ vs).set j (some x)) vs = wipe σ vs) (hv : ∀ x ∈ xs, Ev te ((wipe σ vs).set j (some x)) H (F x)) :
    EvL (tLc (iTup K ta) (gName j) tYes te vs) σ H (xs.map F) := fun H1 e Q q => ha H1 e _ fun H2 e2 => by
  refine ⟨a, rfl, ⟨_, ex_t (e.trans e2) hx⟩, fun D hD => lc_tup (K := K) (xs := xs) (fun i H' => Ex H2 H' ∧ H' D = some (.lst ((xs.take i).map F))) ⟨Ex.new hD, upd_same⟩ (fun i H' _ h => ex_t ((e.trans e2).trans h.1) hx) ?_ ?_⟩
  · rintro i x H' hxi ⟨e3, hd⟩
    refine ⟨hw x, et_yes H' (Ex.refl _) _ fun H3 e4 => ?_⟩
    rw [if_pos rfl]
    refine hv x (List.mem_of_getElem? hxi) H3 (((e.trans e2).trans e3).trans e4) _ fun H4 e5 => ?_
    refine ⟨_, (e4.trans e5) _ _ hd, by rw [List.length_map, List.length_take, sizeLine_eq]; omega, Ex.mut ((e3.trans e4).trans e5) hD, ?_⟩
    rw [upd_same, take_snoc hxi, List.map_append]
    rfl
  · rintro H' ⟨e3, hd⟩
    rw [List.take_length] at hd
    exact q D H' (fresh_back e2 hD) (e2.trans e3) hd
theorem el_sift (F : V → Bool) (ha : Ev ta σ H (.ref a)) (hx : SqL K H a xs) (hl : xs.length ≤ 10000) (hw : ∀ x, wipe ((wipe σ vs).set j (some x)) vs = wipe σ vs) (hj : ∀ x, ((wipe σ vs).set j (some x))[j]? = some (some x)) (ht : ∀ x ∈ xs, EvT tt ((wipe σ vs).set j (some x)) H (F x)) :
    EvL (tLc (iList K ta) (gName j) tt (tVar j) vs) σ H (xs.filter F) := fun H1 e Q q => ha H1 e _ fun H2 e2 => by
  refine ⟨a, rfl, ⟨_, ex_l (e.trans e2) hx⟩, fun D hD => lc_list (K := K) (xs := xs) (fun i H' => Ex H2 H' ∧ H' D = some (.lst ((xs.take i).filter F))) ⟨Ex.new hD, upd_same⟩ (fun i H' _ h => ex_l ((e.trans e2).trans h.1) hx) ?_ ?_⟩
  · rintro i x H' hxi ⟨e3, hd⟩
    refine ⟨hw x, ht x (List.mem_of_getElem? hxi) H' ((e.trans e2).trans e3) _ fun H3 e4 => ?_⟩
    have e5 : (xs.take (i + 1)).filter F = (xs.take i).filter F ++ [x].filter F := by rw [take_snoc hxi, List.filter_append]
    cases hb : F x with
    | true =>
      rw [if_pos rfl]
      refine ⟨x, hj x, _, e4 _ _ hd, ?_, Ex.mut (e3.trans e4) hD, ?_⟩
      · have := List.length_filter_le F (xs.take i)
        rw [List.length_take] at this
        rw [sizeLine_eq]
        omega
      · rw [upd_same, e5]
        simp [hb]
    | false =>
      rw [if_neg (by decide)]
      refine ⟨e3.trans e4, ?_⟩
      rw [e4 _ _ hd, e5]
      simp [hb]
  · rintro H' ⟨e3, hd⟩
    rw [List.take_length] at hd
    exact q D H' (fresh_back e2 hD) (e2.trans e3) hd
theorem ev_maxT {p : Addr} {w : Wy} {m : Int} (ha : Ev ta σ H (.ref p)) (hx : SqT K H p (w.map V.int)) (h1 : m ∈ w) (h2 : ∀ y ∈ w, y ≤ m) : Ev (tCB (rMaxT K) (tCons ta tNil)) σ H (.int m) := fun H1 e Q q => ha H1 e _ fun H2 e2 =>
  ⟨p, w, rfl, ex_t (e.trans e2) hx, List.length_pos_of_mem h1, fun m' h3 h4 => by
    have : m' = m := by have := h2 m' h3; have := h4 m h1; omega
    rw [this]
    exact q H2 e2⟩
end
theorem os_of {M : Nat} {us : List V} (h1 : 1 ≤ M) (hp : us.Perm (rgV 1 (M : Int))) : ∃ os : List Int, us = os.map V.int ∧ OsOk M (0 :: os) := by
  have hr : rgV 1 (M : Int) = ((List.range (M - 1)).map fun i : Nat => (1 + (i : Int))).map V.int := by
    unfold rgV
    rw [List.map_map, show ((M : Int) - 1).toNat = M - 1 by omega]
    rfl
  rw [hr] at hp
  have ha : ∀ x ∈ us, ∃ i : Int, x = V.int i := fun x hx => by
    obtain ⟨i, _, e⟩ := List.mem_map.mp (hp.mem_iff.mp hx)
    exact ⟨i, e.symm⟩
  let g : V → Int := fun v => match v with | .int i => i | _ => 0
  have hg : (us.map g).map V.int = us := by
    rw [List.map_map]
    conv => rhs; rw [← List.map_id us]
    refine List.map_congr_left fun x hx => ?_
    obtain ⟨i, rfl⟩ := ha x hx
    rfl
  have hp2 : (us.map g).Perm ((List.range (M - 1)).map fun i : Nat => (1 + (i : Int))) := by
    have := hp.map g
    rw [List.map_map] at this
    have e : (fun x => (g ∘ V.int) x) = (id : Int → Int) := rfl
    rw [show (g ∘ V.int) = (id : Int → Int) from rfl, List.map_id] at this
    exact this
  have hl := hp2.length_eq
  rw [List.length_map (f := fun i : Nat => (1 + (i : Int))), List.length_range] at hl
  have hm : ∀ x ∈ us.map g, 1 ≤ x ∧ x < (M : Int) := fun x hx => by
    obtain ⟨i, hi, e⟩ := List.mem_map.mp (hp2.mem_iff.mp hx)
    have := List.mem_range.mp hi
    omega
  refine ⟨us.map g, hg.symm, by simp only [List.length_cons]; omega, List.nodup_cons.mpr ⟨fun z => ?_, ?_⟩, rfl, fun x hx => ?_⟩
  · have := hm 0 z
    omega
  · refine hp2.nodup_iff.mpr (nd_map _ List.nodup_range fun x _ y _ e => ?_)
    have e' : (1 + (x : Int)) = 1 + (y : Int) := e
    omega
  · rcases List.mem_cons.mp hx with z | z
    · omega
    · have := hm x z
      omega
end Wk

set_option Elab.async false
set_option linter.all false
set_option maxRecDepth 100000
set_option maxHeartbeats 4000000
namespace Wk
open PySem PySem.Spec PyProof.Rows L2 Evl LamX NdefX LmP
/-- a def's promise where its code object is known -/
theorem okC {P : Program} {w : World} {K : PySem.W.Frag} {mg : Str → Option Value} {base : Heap} {x qual : Str} {params : Arguments} {body : List Stmt} {scope : Scope} {dvs : List V} {kws : List (Str × V)} {f c : Addr} {fd : FuncData} {CX : CXT} {N ps : List Str} {k : Nat} {sp : Sp} (F : FunD K x qual params body scope dvs kws f fd) (hc : fd.code = .ref c) (S : FnScope N ps scope) (len : ∀ vs H Q E, sp vs H Q E → vs.length = ps.length)
    (hbody : ∀ (A : Around) (outer : List Env) (s : Shared) (H : Hp) (vs : List V) (Q : VK) (E : XK), Room k (A.deeper (envOfC qual scope s.heap.objs.size f (.ref c))) → sp vs H Q E →
      ∃ t, PSs (cxOf CX P w K mg base N qual scope f (.ref c) A outer s H E) body t ∧ t { nx := fun _ H' => Q .non H', rt := Q } (start N vs) H) : FnOk P w K mg base CX (k + 1) f fd ps sp := by
  obtain ⟨oc, od, dV, kV, doc, pm, an, cdv, ct, osl, rfl, lk, hcd, _, _⟩ := F.ex
  obtain rfl : cdv = .ref c := hc
  exact fn_of lk hcd S len fun A outer s H vs Q E hr hsp => hbody A outer s H vs Q E hr hsp
theorem pi_listK {X : Cx} {K : PySem.W.Frag} {tg l : Expr} {tl : TE} (hK : X.K = K) (hl : PE X l tl) : PI X tg l (iList K tl) := by
  subst hK
  exact pi_list hl
theorem op_notInK {X : Cx} {K : PySem.W.Frag} (hK : X.K = K) : OpR X (compareOp .NotIn) (rIn K true) := by
  subst hK
  exact op_notIn_seq
/-! ### what keeps the tables -/
theorem tabs_keep {T : List (Addr × Str)} {H H' : Hp} (t : Tabs T H) (e : ∀ b o, (∀ xs, o ≠ .lst xs) → H b = some o → H' b = some o) : Tabs T H' := fun p hp => by
  obtain ⟨ps, h1, h2, h3⟩ := t p hp
  refine ⟨ps, e _ _ (fun xs z => by cases z) h1, h2, fun pos cv hc => ?_⟩
  obtain ⟨c, e1, e2⟩ := h3 pos cv hc
  exact ⟨c, e1, e _ _ (fun xs z => by unfold CodeO at z; cases z) e2⟩
theorem tabs_off {T : List (Addr × Str)} {G H H' : Hp} {p q : Addr} (t : Tabs T H) (hP : Pl G H p q) (o : Off p q H H') : Tabs T H' := tabs_keep t fun b u n hb => by
  obtain ⟨_, _, h1, h2, _⟩ := hP.at_
  refine o b u (fun z => ?_) (fun z => ?_) hb
  · rw [z, h1] at hb
    exact n _ (Option.some.inj hb).symm
  · rw [z, h2] at hb
    exact n _ (Option.some.inj hb).symm
theorem tabs_mut {T : List (Addr × Str)} {H : Hp} {D : Addr} {xs : List V} {u : HO} (t : Tabs T H) (hD : H D = some (.lst xs)) : Tabs T (upd H D u) := tabs_keep t fun b o n hb => by
  rw [upd_ne fun z => by rw [z, hD] at hb; exact n _ (Option.some.inj hb).symm]
  exact hb
/-- nothing that stays is a table -/
def NoT (G : Hp) : Prop := ∀ b ps, G b ≠ some (.tbl ps)
theorem NoT.new {G : Hp} {a : Addr} {xs : List V} (h : NoT G) : NoT (upd G a (.tup xs)) := fun b ps hb => by
  by_cases c : b = a
  · rw [c, upd_same] at hb; cases hb
  · rw [upd_ne c] at hb; exact h b ps hb
theorem Pl.extN {G H H' : Hp} {p q : Addr} (hP : Pl G H p q) (hn : NoT G) (e : ExtN H H') : Pl G H' p q := by
  obtain ⟨n, cs, h1, h2, r⟩ := hP.at_
  exact ⟨fun b o hb => e b o (hP.ex b o hb) fun ps z => hn b ps (by rw [hb, z]), hP.gp, hP.gq, hP.ne, n, cs, e _ _ h1 (fun ps z => by cases z), e _ _ h2 (fun ps z => by cases z), r⟩
theorem Rz.extN {G H H' : Hp} {p q R : Addr} {rs : List Addr} {rows : List (List Wy)} (h : Rz G H p q R rs rows) (e : ExtN H H') : Rz G H' p q R rs rows := by
  refine ⟨e _ _ h.at_ (fun ps z => by cases z), h.gR, h.Rp, h.Rq, h.nin, h.nd, h.len, fun i r row hr hw => ?_⟩
  obtain ⟨g, rp, rq, vs, h1, h2⟩ := h.row i r row hr hw
  exact ⟨g, rp, rq, vs, e _ _ h1 (fun ps z => by cases z), h2⟩
/-! ### rows in another order -/
theorem gw_perm {rows rows' : List (List Wy)} (h : GW rows) (hl : rows'.length = rows.length) (hp : ∀ (i : Nat) (row' : List Wy), rows'[i]? = some row' → ∃ row, rows[i]? = some row ∧ row'.Perm row) : GW rows' := by
  refine ⟨fun row e => ?_, fun i row e => ?_, fun i row e w hw => ?_, fun i row e w hw => ?_⟩
  · obtain ⟨row0, e0, p0⟩ := hp 0 row e
    rw [h.goal row0 e0] at p0
    exact p0.eq_nil
  · obtain ⟨row0, e0, p0⟩ := hp i row e
    exact p0.nodup_iff.mpr (h.nd i row0 e0)
  · obtain ⟨row0, e0, p0⟩ := hp i row e
    rw [hl]
    exact h.ok i row0 e0 w (p0.mem_iff.mp hw)
  · obtain ⟨row0, e0, p0⟩ := hp i row e
    rcases h.rest i row0 e0 w (p0.mem_iff.mp hw) with z | ⟨j, row1, z1, z2, z3⟩
    · exact .inl z
    · have hjl : j < rows'.length := by rw [hl]; exact (List.getElem?_eq_some_iff.mp z2).1
      obtain ⟨row2, e2, p2⟩ := hp j rows'[j] (List.getElem?_eq_getElem hjl)
      rw [z2] at e2
      cases e2
      exact .inr ⟨j, _, z1, List.getElem?_eq_getElem hjl, p2.mem_iff.mpr z3⟩
/-! ### the lambdas -/
abbrev sLst : Stmt := top 35
abbrev nLst : List Str := ["_law_pool_here", "_law_many", "_law_turns", "_law_most", "_law_kind", "_law_order", "_law_lists_here", "_law_names", "_law_way", "_law_k", "_law_router", "_law_rests", "_law_row"]
theorem scLst : FnScope nLst ["_law_pool_here", "_law_many", "_law_turns", "_law_most"] (defScope sLst) := ⟨rfl, rfl, rfl, by decide +kernel, rfl, by decide +kernel, by decide +kernel⟩
abbrev qLk : Str := "_law_lists.<locals>.<lambda>"
abbrev TL (Pt : Addr) : List (Addr × Str) := [(Pt, qLk)]
theorem eu_tupC {K : PySem.W.Frag} {tl : TE} {σ : L2.St} {H : Hp} {xs : List V} (h : EvL tl σ H xs) : EvU (tCB (fun xs H Q => ∃ p ys, xs = [.ref p] ∧ ((SqL K H p ys ∧ ∀ l, H l = none → Q (.ref l) (upd H l (.tup ys))) ∨ (SqT K H p ys ∧ Q (.ref p) H))) (tCons tl tNil)) σ H xs := fun H1 e Q q =>
  h H1 e _ fun p H2 hp e2 h2 => ⟨p, _, rfl, .inl ⟨sq_of h2, fun l hl => q l _ (fresh_back e2 hl) (e2.trans (Ex.new hl)) upd_same⟩⟩
/-- a name for each router -/
def nmF (os : List Int) : V → V
  | .int i => .int (os.getD i.toNat 0)
  | _ => .non
theorem nmF_map (os : List Int) (w : Wy) : (w.map V.int).map (nmF os) = (nmW os w).map V.int := by
  unfold nmW
  rw [List.map_map, List.map_map]
  rfl
theorem inW_max {M : Nat} {x : Int} {w : Wy} : decide (w.foldl max x < (M : Int)) = inW M (x :: w) := by
  obtain ⟨h1, h2⟩ := foldl_max w x
  cases h : inW M (x :: w) with
  | true => exact decide_eq_true (of_decide_eq_true (List.all_eq_true.mp h _ h1))
  | false =>
    refine decide_eq_false fun z => ?_
    have : inW M (x :: w) = true := List.all_eq_true.mpr fun y hy => decide_eq_true (Int.lt_of_le_of_lt (h2 y hy) z)
    rw [h] at this
    cases this
/-- a new object that stays, and then a row changed -/
theorem Rz.push {G H : Hp} {p q R : Addr} {rs : List Addr} {rows : List (List Wy)} {t : Addr} {o : HO} (hP : Pl G H p q) (h : Rz G H p q R rs rows) (ht : H t = some o) (hG : G t = none) (np : t ≠ p) (nq : t ≠ q) (nR : R ≠ t) (nr : t ∉ rs) : Pl (upd G t o) H p q ∧ Rz (upd G t o) H p q R rs rows :=
  ⟨hP.hold ht np nq, h.grow (Ex.new hG) (by rw [upd_ne nR]; exact h.gR) fun r hr => by rw [upd_ne fun z => nr (by rw [← z]; exact hr)]; exact (h.mem hr).1⟩
theorem way_short {n r : Nat} {b : Wy} (hn : n ≤ 8) (hr : r < n) (nd : b.Nodup) (rg : ∀ x ∈ b, 0 ≤ x ∧ x < (n : Int)) (hnr : (r : Int) ∉ b) : b.length ≤ 7 := by
  have h := nd_le ((r : Int) :: b) ((List.range n).map fun (i : Nat) => (i : Int)) (List.nodup_cons.mpr ⟨hnr, nd⟩) (fun x hx => by
    have hx' : 0 ≤ x ∧ x < (n : Int) := by
      rcases List.mem_cons.mp hx with z | z
      · rw [z]; omega
      · exact rg x z
    exact List.mem_map.mpr ⟨x.toNat, List.mem_range.mpr (by omega), by omega⟩)
  rw [List.length_map, List.length_range] at h
  simp at h
  omega
/-- the ways without a router, of the objects in G -/
def fwR (G : Hp) (r : Int) : V → Bool
  | .ref t => match G t with
    | some (.tup xs) => !inV (.int r) xs
    | _ => false
  | _ => false
theorem fwR_at {G : Hp} {r : Int} {t : Addr} {xs : List V} (h : G t = some (.tup xs)) : fwR G r (.ref t) = !inV (.int r) xs := by
  unfold fwR
  dsimp only
  rw [h]
theorem fwR_dq {G : Hp} {r : Int} : ∀ {ws : List Wy} {vs : List V}, DqA G vs (ws.map wd) → DqA G (vs.filter (fwR G r)) ((ws.filter fun w => !decide (r ∈ w)).map wd)
  | [], _, .nil => .nil
  | w :: ws, _, .cons h t => by
    obtain ⟨a, rfl, ha⟩ := wd_ref h
    have e := fwR_at (r := r) ha
    rw [inV_ints] at e
    have ih := fwR_dq (r := r) t
    cases hb : decide (r ∈ w) with
    | true =>
      rw [hb] at e
      rw [List.filter_cons_of_neg (by rw [e]; decide), List.filter_cons_of_neg (by rw [hb]; decide)]
      exact ih
    | false =>
      rw [hb] at e
      rw [List.filter_cons_of_pos (by rw [e]; rfl), List.filter_cons_of_pos (by rw [hb]; rfl)]
      exact .cons h ih
/-- where the lists are, on the way -/
def MidL (G : Hp) (p q : Addr) (Pt : Addr) (M L : Nat) (T od : Int) (σ' : L2.St) (H' : Hp) : Prop :=
  ∃ (G' : Hp) (R : Addr) (rs : List Addr) (rows : List (List Wy)) (o4 o7 o8 o9 o10 o11 o12 : Option V), σ' = [some (.ref p), some (.int (M : Int)), some (.int T), some (.int (L : Int)), o4, some (.int od), some (.ref R), o7, o8, o9, o10, o11, o12] ∧ Ex G G' ∧ Pl G' H' p q ∧ NoT G' ∧ Tabs (TL Pt) H' ∧ Rz G' H' p q R rs rows ∧ rows.length = M ∧ GW rows ∧ ∀ row ∈ rows, row.length ≤ L
/-! ### the lambdas of the two orders -/
def lcLam : Stmt → Expr
  | .If _ (.Assign _ (.ListComp (.Call _ _ (k :: _) _) _ _ _) _ :: _) _ _ => k.value
  | _ => .Name "" ⟨0, 0, 0, 0⟩
def lmP : Expr → Arguments
  | .Lambda a _ _ _ => a
  | _ => { posonlyargs := [], args := [], vararg := none, kwonlyargs := [], kw_defaults := [], kwarg := none, defaults := [] }
def lmB : Expr → Expr
  | .Lambda _ b _ _ => b
  | e => e
def lmS : Expr → Scope
  | .Lambda _ _ s _ => s
  | _ => defScope sLst
abbrev lamA : Expr := lcLam ((defBody sLst).getD 6 (.Pass ⟨0, 0, 0, 0⟩))
abbrev lamB : Expr := lcLam ((defBody sLst).getD 7 (.Pass ⟨0, 0, 0, 0⟩))
abbrev mkL (l : Expr) (c' : Addr) : NF := ⟨"<lambda>", qLk, lmP l, [], lmS l, [], c'⟩
theorem keyS_A : KeyS (lmS lamA) "_law_way" := ⟨rfl, rfl, rfl, by decide +kernel, rfl, rfl⟩
theorem keyS_B : KeyS (lmS lamB) "_law_way" := ⟨rfl, rfl, rfl, by decide +kernel, rfl, rfl⟩
theorem keyB_A : KeyB (lmB lamA) "_law_way" false := ⟨_, _, _, ⟨0, 0, 0, 0⟩, _, _, _, rfl⟩
theorem keyB_B : KeyB (lmB lamB) "_law_way" true := ⟨_, _, _, _, _, _, _, rfl⟩
theorem pe_lamK {X : Cx} {T : List (Addr × Str)} {c P : Addr} {params : Arguments} {body : Expr} {scope : Scope} {pos : Pos} {q : Str} {mk : Addr → NF} (TB : TabB X.base X.mg c P) (hcode : X.env.code = .ref c) (hq : X.env.qual ++ "<lambda>" = q) (hmk : lmF X params scope = mk)
    (hm : (P, q) ∈ T) (hu : ∀ p ∈ T, p.1 = P → p.2 = q) (hdef : defaultsOf params X.env = ([], [])) (hfree : ∀ y ∈ scope.names, y.2 ≠ .free) : PE X (.Lambda params body scope pos) (tLamV T q mk body) := by
  subst hq
  subst hmk
  exact pe_lam TB hcode hm hu hdef fun y hy e => absurd e (hfree y hy)
theorem pe_sortKK {X : Cx} {K : PySem.W.Frag} {q : Str} {mk : Addr → NF} {e a : Expr} {kws : List Keyword} {x : Str} {neg : Bool} {t tk : TA} {p pos : Pos} (hK : X.K = K) (hS : ∀ c', KeyS (mk c').scope x) (hE : KeyB e x neg) (hb : ∀ (c' : Addr) (pm ctv u : Value), bindArgs (lfd (mk c') e pm ctv) ⟨[u], []⟩ = pure [(x, u)]) (hx1 : (x == ("__debug__" : Str)) = false)
    (hr : Room 1 X.A) (hm2 : X.mg "len" = none) (hg : Gl X "sorted") (hm : X.mg "sorted" = none) (ha : PA X [a] t) (hk : PK X kws tk)
    (he : backTo pos (starEach [a] X.env) = (false, eval a X.env) :: backTo pos (starEach [] X.env) := by rfl) (hpl : (backTo pos (starEach [a] X.env)).any (·.1) = false := by rfl)
    (hall : (backToKw pos (keywordEach kws X.env)).all (·.1.isSome) = true := by rfl) (hnone : (backToKw pos (keywordEach kws X.env)).any (·.1.isNone) = false := by rfl) (hks : (backToKw pos (keywordEach kws X.env)).filterMap (·.1) = [Str.ofString "key"] := by rfl) :
    PE X (.Call (.Name "sorted" p) [a] kws pos) (tSortK K q mk e t tk) := by
  subst hK
  exact pe_sortK hS hE hb hx1 hr hm2 hg hm ha hk he hpl hall hnone hks
end Wk

set_option Elab.async false
set_option linter.all false
set_option maxRecDepth 100000
set_option maxHeartbeats 4000000
namespace Wk
open PySem PySem.Spec PyProof.Rows L2 Evl LamX NdefX LmP
/-! ### rows that are sorted -/
theorem ps_of {G : Hp} : ∀ {row : List Wy} {vs : List V}, DqA G vs (row.map wd) → ∃ ps : List (Addr × Wy), vs = ps.map (fun p => V.ref p.1) ∧ row = ps.map (·.2) ∧ ∀ p ∈ ps, G p.1 = some (.tup (p.2.map V.int))
  | [], _, .nil => ⟨[], rfl, rfl, fun p hp => by cases hp⟩
  | w :: row, _, .cons h t => by
    obtain ⟨a, rfl, ha⟩ := wd_ref h
    obtain ⟨ps, rfl, rfl, hp⟩ := ps_of t
    refine ⟨(a, w) :: ps, rfl, rfl, fun p hm => ?_⟩
    rcases List.mem_cons.mp hm with z | z
    · rw [z]; exact ha
    · exact hp p z
theorem dq_ps {G : Hp} : ∀ {ps : List (Addr × Wy)}, (∀ p ∈ ps, G p.1 = some (.tup (p.2.map V.int))) → DqA G (ps.map fun p => V.ref p.1) ((ps.map (·.2)).map wd)
  | [], _ => .nil
  | p :: ps, h => .cons (wd_of (h p List.mem_cons_self)) (dq_ps fun x hx => h x (List.mem_cons_of_mem _ hx))
theorem Rz.other {G H : Hp} {p q R D : Addr} {rs : List Addr} {rows : List (List Wy)} {o : HO} (h : Rz G H p q R rs rows) (n1 : D ≠ R) (n2 : D ∉ rs) : Rz G (upd H D o) p q R rs rows := by
  refine ⟨by rw [upd_ne (Ne.symm n1)]; exact h.at_, h.gR, h.Rp, h.Rq, h.nin, h.nd, h.len, fun i r row hr hw => ?_⟩
  obtain ⟨g, rp, rq, vs, h1, h2⟩ := h.row i r row hr hw
  exact ⟨g, rp, rq, vs, by rw [upd_ne fun z => n2 (by rw [← z]; exact List.mem_of_getElem? hr)]; exact h1, h2⟩
/-- a row more -/
theorem Rz.snoc {G H : Hp} {p q R b : Addr} {rs : List Addr} {rows : List (List Wy)} {row : List Wy} {vs : List V} (hP : Pl G H p q) (h : Rz G H p q R rs rows) (hb : H b = none) (hd : DqA G vs (row.map wd)) :
    Pl G (upd (upd H b (.lst vs)) R (.lst (rs.map V.ref ++ [.ref b]))) p q ∧ Rz G (upd (upd H b (.lst vs)) R (.lst (rs.map V.ref ++ [.ref b]))) p q R (rs ++ [b]) (rows ++ [row]) := by
  have e : Ex H (upd H b (.lst vs)) := Ex.new hb
  have h2 := h.ext e
  have gb := fresh_back hP.ex hb
  have bR : b ≠ R := Ne.symm (ne_of_none h.at_ hb)
  have hbn : b ∉ rs := fun z => by
    obtain ⟨_, _, _, vs', h1⟩ := h.mem z
    rw [hb] at h1
    cases h1
  refine ⟨(hP.ext e).mut h.gR h.Rp h.Rq, by rw [upd_same, List.map_append]; rfl, h.gR, h.Rp, h.Rq, fun z => ?_, nd_snoc h.nd hbn, by rw [List.length_append, List.length_append, h.len]; rfl, fun k r2 row2 h3 w2 => ?_⟩
  · rcases List.mem_append.mp z with y | y
    · exact h.nin y
    · exact bR (List.mem_singleton.mp y).symm
  · by_cases c : k < rs.length
    · rw [List.getElem?_append_left c] at h3
      rw [List.getElem?_append_left (by rw [← h.len]; exact c)] at w2
      obtain ⟨g, rp, rq, vs2, h4, h5⟩ := h2.row k r2 row2 h3 w2
      have nr : r2 ≠ R := fun z => h.nin (by rw [← z]; exact List.mem_of_getElem? h3)
      exact ⟨g, rp, rq, vs2, by rw [upd_ne nr]; exact h4, h5⟩
    · rw [List.getElem?_append_right (by omega)] at h3
      rw [List.getElem?_append_right (by rw [← h.len]; omega), ← h.len] at w2
      obtain ⟨e0, rfl⟩ : k - rs.length = 0 ∧ r2 = b := by
        cases hk : k - rs.length with
        | zero => rw [hk] at h3; exact ⟨rfl, (Option.some.inj h3).symm⟩
        | succ m => rw [hk] at h3; simp at h3
      rw [e0] at w2
      cases w2
      exact ⟨gb, hP.np hb, hP.nq hb, vs, by rw [upd_ne bR, upd_same], hd⟩
theorem lst_sorted {K : PySem.W.Frag} {G : Hp} {p q Pt : Addr} {M L : Nat} {T od : Int} {l e : Expr} {σ : L2.St} {H : Hp} {D : Ends} (hM8 : M ≤ 8) (hL6 : L ≤ 6) (h : MidL G p q Pt M L T od σ H) (k : ∀ σ' H', MidL G p q Pt M L T od σ' H' → D.nx σ' H') :
    tAsg (tLc (iList K (tVar 6)) (gName 12) tYes (tSortK K qLk (mkL l) e (tCons (tVar 12) tNil) (tCons (tLamV (TL Pt) qLk (mkL l) e) tNil)) (List.map (fun x => x.2) [(Str.ofString "_law_row", 12)])) (gName 6) D σ H := by
  obtain ⟨G1, R, rs, rows, o4, o7, o8, o9, o10, o11, o12, rfl, eG, hP, hN, hT, hW, hM, hG, hrl⟩ := h
  refine ⟨.ref R, rfl, R, rfl, ⟨_, sq_of hW.at_⟩, fun N hNn => lc_list (K := K) (xs := rs.map V.ref) (fun i H' => Pl G1 H' p q ∧ Tabs (TL Pt) H' ∧ Rz G1 H' p q R rs rows ∧ N ≠ R ∧ N ∉ rs ∧ ∃ (ss : List Addr) (rows' : List (List Wy)), Rz G1 H' p q N ss rows' ∧ ss.length = i ∧ ∀ (j : Nat) (row' : List Wy), rows'[j]? = some row' → ∃ row, rows[j]? = some row ∧ row'.Perm row) ?_ (fun i H' _ z => sq_of z.2.2.1.at_) ?_ ?_⟩
  · have e1 := Ex.new (o := .lst []) hNn
    refine ⟨hP.ext e1, hT.ext e1, hW.ext e1, Ne.symm (ne_of_none hW.at_ hNn), fun z => ?_, [], [], ⟨upd_same, fresh_back hP.ex hNn, hP.np hNn, hP.nq hNn, by simp, List.nodup_nil, rfl, fun i r row hr _ => by simp at hr⟩, rfl, fun j row' z => by simp at z⟩
    obtain ⟨_, _, _, _, z1⟩ := hW.mem z
    rw [hNn] at z1
    cases z1
  · rintro i x H1 hx ⟨hP1, hT1, hW1, n1, n2, ss, rows', hZ, hsl, hpm⟩
    obtain ⟨r, hr1, rfl⟩ : ∃ r, rs[i]? = some r ∧ x = V.ref r := by
      rw [List.getElem?_map] at hx
      cases hq : rs[i]? with
      | none => rw [hq] at hx; cases hx
      | some r => rw [hq] at hx; exact ⟨r, rfl, (Option.some.inj hx).symm⟩
    have hil : i < rs.length := (List.getElem?_eq_some_iff.mp hr1).1
    have hil2 : i < rows.length := by rw [← hW1.len]; exact hil
    have hrw : rows[i]? = some rows[i] := List.getElem?_eq_getElem hil2
    have hl2 := hrl _ (List.getElem_mem hil2)
    have hok := hG.ok i _ hrw
    generalize rows[i] = row at *
    obtain ⟨gr, rp, rq, vs, h1, h2⟩ := hW1.row i r _ hr1 hrw
    obtain ⟨ps, rfl, rfl, hps⟩ := ps_of h2
    rw [List.length_map] at hl2
    refine ⟨rfl, ?_⟩
    refine et_yes H1 (Ex.refl _) _ fun H2 e2 => ?_
    rw [if_pos rfl]
    refine ⟨.ref r, rfl, hT1.ext e2, fun f' c' H3 eN nn T3 f0 f1 c1 => ⟨r, f', c', ps, rfl, rfl, sq_of (eN _ _ (e2 _ _ h1) (fun _ z => by cases z)), fun a ha => st_of (eN _ _ (e2 _ _ (hP1.ex _ _ (hps a ha))) (fun _ z => by cases z)), fun a ha => ?_, by omega, f1, c1, fun qs b hq hb => ?_⟩⟩
    · have := (hok a.2 (List.mem_map.mpr ⟨a, ha, rfl⟩)).l8
      omega
    · have hP3 := (hP1.ext e2).extN hN eN
      have hW3 := (hW1.ext e2).extN eN
      have hZ3 := (hZ.ext e2).extN eN
      have hdq : DqA G1 (qs.map fun p => V.ref p.1) ((qs.map (·.2)).map wd) := dq_ps fun a ha => hps a (hq.mem_iff.mp ha)
      obtain ⟨hP4, hZ4⟩ := Rz.snoc hP3 hZ3 hb hdq
      have hN3 : (upd H3 b (.lst (qs.map fun p => V.ref p.1))) N = some (.lst (ss.map V.ref)) := (Ex.new hb) _ _ hZ3.at_
      refine ⟨ss.map V.ref, hN3, by rw [List.length_map]; have := hW1.len; exact sz_lt (by omega), hP4, tabs_mut (T3.ext (Ex.new hb)) hN3, (hW3.ext (Ex.new hb)).other n1 n2, n1, n2, ss ++ [b], rows' ++ [qs.map (·.2)], hZ4, by simp [hsl], fun j row' z => ?_⟩
      by_cases c : j < rows'.length
      · rw [List.getElem?_append_left c] at z
        exact hpm j row' z
      · rw [List.getElem?_append_right (by omega)] at z
        have hlr := hZ.len
        have e0 : j - rows'.length = 0 := by
          cases hk : j - rows'.length with
          | zero => rfl
          | succ m => rw [hk] at z; simp at z
        rw [e0] at z
        cases z
        have : j = i := by omega
        rw [this]
        exact ⟨_, hrw, hq.map _⟩
  · rintro H1 ⟨hP1, hT1, hW1, n1, n2, ss, rows', hZ, hsl, hpm⟩
    have hl : rows'.length = rows.length := by
      rw [← hZ.len, hsl, List.length_map, hW1.len]
    refine k _ _ ⟨G1, N, ss, rows', _, _, _, _, _, _, _, rfl, eG, hP1, hN, hT1, hZ, by rw [hl]; exact hM, gw_perm hG hl hpm, fun row' hr => ?_⟩
    obtain ⟨j, hj⟩ := List.mem_iff_getElem?.mp hr
    obtain ⟨row, hj2, hp⟩ := hpm j row' hj
    rw [hp.length_eq]
    exact hrl row (List.mem_of_getElem? hj2)
end Wk

set_option Elab.async false
set_option linter.all false
set_option maxRecDepth 100000
set_option maxHeartbeats 4000000
namespace Wk
open PySem PySem.Spec PyProof.Rows L2 Evl SeqAt
/-! tuples of which it is known that they have no dict; index in such a tuple of ways -/
def rTupF (K : PySem.W.Frag) : List V → Hp → VK → Prop := fun xs H Q => ∃ p ys, xs = [.ref p] ∧ SqL K H p ys ∧ (ys = [] → ∀ l, H l = none → Q (.ref l) (upd H l (.tup ys))) ∧ (ys ≠ [] → ∀ l (o : Obj), H l = none → o.cls = .type "tuple" → o.dict = none → Q (.ref l) (upd H l (.frz o (.tup ys))))
theorem call_tupF {X : Cx} {K : PySem.W.Frag} (hK : X.K = K) : CallR X (.type "tuple") (rTupF K) := by
  subst hK
  intro pins s σ H xs us Q I r h
  obtain ⟨p, ys, rfl, hq, q1, q2⟩ := h
  obtain ⟨u, rfl, rx⟩ := vals1 r
  cases rx
  obtain ⟨its, r', pl, hz⟩ := I.list hq
  have hlen := r'.length
  refine call_tuple_list pl.isList (fun h' kp => ?_) (by simp only [List.size_toArray] <;> omega)
  have I1 : Inv X pins σ H { s with heap := h' } := I.kept (t' := s.toks) kp
  have fr := I1.hok.fresh (Nat.le_refl h'.objs.size)
  by_cases hy : ys = []
  · have I2 : Inv X pins σ (upd H h'.objs.size (.tup ys)) { s with heap := h'.push { cls := .type "tuple", data := .seq its.toArray } } :=
      I1.laid (t' := s.toks) (fun b o e => Heap.get?_push_of_some _ e) (Nat.le_refl _) (show ObjOk X.prog X.w _ _ _ (.tup ys) from ⟨hz, its, r', IsTup.new _ _⟩)
    exact ⟨.ref h'.objs.size, _, I2, rfl, q1 hy _ fr⟩
  · have hnew : (h'.push { cls := .type "tuple", data := .seq its.toArray }).get? h'.objs.size = some { cls := .type "tuple", data := .seq its.toArray } := Heap.get?_push_size _ rfl
    have I2 : Inv X pins σ (upd H h'.objs.size (.frz { cls := .type "tuple", data := .seq its.toArray } (.tup ys))) { s with heap := h'.push { cls := .type "tuple", data := .seq its.toArray } } :=
      I1.laid (t' := s.toks) (fun b o e => Heap.get?_push_of_some _ e) (Nat.le_refl _) ⟨hnew, show ObjOk X.prog X.w _ _ _ (.tup ys) from ⟨hz, its, r', IsTup.new _ _⟩⟩
    exact ⟨.ref h'.objs.size, _, I2, rfl, q2 hy _ _ fr rfl rfl⟩
def TupF (H : Hp) (t : Addr) (xs : List V) : Prop := ∃ o : Obj, H t = some (.frz o (.tup xs)) ∧ o.cls = .type "tuple" ∧ o.dict = none
/-- a method of such a tuple -/
def tBMF (r : V → List V → Hp → VK → Prop) (to : TE) (t : TA) : TE := fun σ H Q => to σ H fun x H1 => (∃ (p : Addr) (xs : List V), x = .ref p ∧ TupF H1 p xs) ∧ t σ H1 fun xs H2 => r x xs H2 Q
theorem pe_bmF {X : Cx} {o e : Expr} {es : List Expr} {to : TE} {t : TA} {name : Str} {apos cpos : Pos} {id : String} {r : V → List V → Hp → VK → Prop} (pa : PlainAttrs "tuple") (slot : Slot "tuple" name id) (hty : typeOf (.builtin id) = pure (.type "method_descriptor")) (hm : MtR X id r) (ho : PE X o to) (ha : PA X (e :: es) t)
    (hbase : attributeBase o name X.env (eval o X.env) = eval o X.env := by rfl)
    (hfew : ((backTo cpos (starEach (e :: es) X.env)).all (fun x => !x.1) && (backToKw cpos (keywordEach [] X.env)).all (fun x => x.1.isSome) && decide ((e :: es).length + ([] : List Keyword).length + (if ([] : List Keyword).isEmpty then 0 else 1) < 30)) = true := by rfl)
    (hline : (apos.endLine == cpos.line) = true := by rfl) (hs : starEach (e :: es) X.env = (false, eval e X.env) :: starEach es X.env := by rfl) (hpl : (backTo cpos (starEach es X.env)).any (·.1) = false := by rfl) : PE X (.Call (.Attribute o name apos) (e :: es) [] cpos) (tBMF r to t) := by
  constructor
  intro pins s σ H Q I h
  refine wpAny_Call_method_late hbase hfew hline rfl (thn (ho.run pins s σ H _ I h) fun v s1 z => ?_)
  obtain ⟨x, H1, I1, r1, ⟨p, xs, rfl, ob, hp, hc, hd⟩, q1⟩ := z
  obtain rfl : v = Value.ref p := r1
  have look : s1.heap.get? p = some ob := (I1.hok p _ hp).1
  refine ⟨"tuple", id, pa, slot, hty, ⟨ob, look, hc⟩, fun c ec => ?_, ?_⟩
  · cases ec
    exact ⟨ob, look, hd⟩
  · have g := ha.run cpos pins s1 σ H1 _ I1 q1
    rw [hs] at g ⊢
    refine Calls.callWith_builtin (by show (false || (backTo cpos (starEach es X.env)).any (·.1)) = false; rw [hpl] <;> rfl) (Calls.evalArgs_plain (thn g fun us s2 y => ?_))
    obtain ⟨vs, H2, I2, r2, q2⟩ := y
    exact hm pins s2 σ H2 (.ref p) vs _ us Q I2 rfl r2 q2
theorem idxOf_first : ∀ {bs : List Bool} {j : Nat}, bs[j]? = some true → (∀ m, m < j → bs[m]? = some false) → bs.idxOf true = j
  | [], j, h, _ => by simp at h
  | b :: bs, 0, h, _ => by
    have e : b = true := by simpa using h
    subst e
    simp
  | b :: bs, j + 1, h, hn => by
    have e : b = false := by simpa using hn 0 (by omega)
    subst e
    rw [List.idxOf_cons]
    have ih := idxOf_first (bs := bs) (j := j) (by simpa using h) fun m hm => by simpa using hn (m + 1) (by omega)
    rw [ih]
    rfl
/-- ways.index(way) -/
def rIdxW (K : PySem.W.Frag) : V → List V → Hp → VK → Prop := fun x xs H Q => ∃ (t : Addr) (v : V) (row : List Wy) (own : Wy) (j : Nat), x = .ref t ∧ xs = [v] ∧ Dp K H (.ref t) (rd row) ∧ Dp K H v (wd own) ∧ row.Nodup ∧ row[j]? = some own ∧ Q (.int (j : Nat)) H
theorem mt_idxW {X : Cx} {K : PySem.W.Frag} (hK : X.K = K) (hu : X.A.units + 70 < cLine) : MtR X "tuple.index" (rIdxW K) := by
  subst hK
  intro pins s σ H x xs v us Q I rx rxs h
  obtain ⟨t, v0, row, own, j, rfl, rfl, hd, hv0, hnd, hj, q⟩ := h
  obtain rfl : v = Value.ref t := rx
  obtain ⟨u, rfl, hu'⟩ := vals1 rxs
  have hc := lay_wds row
  have hco : (wd own).canLay0 = true := by simp [wd, PyData.canLay0, lay_ints]
  obtain ⟨bs, rxx⟩ := Dp.reads I (wd own) v0 u hv0 hu'
  unfold rd at hd
  cases hd with
  | tup hs ha =>
    obtain ⟨its, rv, hp, hz⟩ := I.tuple hs
    obtain ⟨as, hr⟩ := Dp.readsAll I (row.map wd) _ its ha rv
    have hlen : its.length = (row.map wd).length := SeqAt.ReadsAll.length (row.map wd) its as hr
    have hmap : its.map (SeqAt.readOf s.heap) = row.map wd := SeqAt.readsAll_map (row.map wd) its as hc hr
    have heq := SeqAt.items_eqAt (A := X.A) (vs := its.toArray) (x := u) (d := wd own) (show ReadsAll s.heap its.toArray.toList (row.map wd) as from hr) rxx hc hco (by
      have h1 := dep_wds row
      omega)
    have hie : ItemsEq X.A.in1 s its (row.map fun w => decide (w = own)) u true := by
      refine ⟨by rw [List.length_map, hlen, List.length_map], fun i hi1 hi2 => ?_⟩
      have g := heq its[i] (by simp)
      rw [List.length_map] at hi2
      have e1 : SeqAt.readOf s.heap its[i] = wd (row[i]) := by
        have z : (its.map (SeqAt.readOf s.heap))[i]? = (row.map wd)[i]? := by rw [hmap]
        rw [List.getElem?_map, List.getElem?_map, List.getElem?_eq_getElem hi1, List.getElem?_eq_getElem hi2] at z
        exact Option.some.inj z
      rw [e1, eqv_wd] at g
      rw [List.getElem_map]
      have e2 : decide (decide (row[i] = own) = true) = decide (row[i] = own) := by simp
      rw [e2]
      exact g
    have h1 : (row.map fun w => decide (w = own))[j]? = some true := by rw [List.getElem?_map, hj]; simp
    refine call_tuple_index (show s.heap.IsTuple t its.toArray from hp) hie (List.mem_of_getElem? h1) ?_
    rw [idxOf_first h1 fun m hm => ?_]
    · exact ⟨.int (j : Nat), H, I.tok _, ⟨_, rfl⟩, q⟩
    · have hjl := (List.getElem?_eq_some_iff.mp hj).1
      rw [List.getElem?_map, List.getElem?_eq_getElem (show m < row.length by omega)]
      refine congrArg some (decide_eq_false fun z => ?_)
      have e : row[m]? = some own := by rw [List.getElem?_eq_getElem (show m < row.length by omega), z]
      have := (List.getElem?_inj (by omega) hnd).mp (e.trans hj.symm)
      omega
/-- tuple(row) for each row, of which it is known then -/
theorem tupz_turnF {K : PySem.W.Frag} {G0 H : Hp} {p q R D r : Addr} {rs : List Addr} {rows : List (List Wy)} {i : Nat} (hi : i < 1000) (h : Tupz G0 H p q R rs rows D i) (hr : rs[i]? = some r) (hDr : D ∉ rs) (hDR : D ≠ R) :
    rTupF K [V.ref r] H fun x H4 => ∃ acc, H4 D = some (.lst acc) ∧ acc.length < sizeLine ∧ Tupz G0 (upd H4 D (.lst (acc ++ [x]))) p q R rs rows D (i + 1) := by
  obtain ⟨G, ts, eG, hP, hW, hD, gD, Dp, Dq', hts⟩ := h.ex
  have hil : i < rs.length := (List.getElem?_eq_some_iff.mp hr).1
  have hil2 : i < rows.length := by rw [← hW.len]; exact hil
  have hrw : rows[i]? = some rows[i] := List.getElem?_eq_getElem hil2
  obtain ⟨gr, rp, rq, vs, h1, h2⟩ := hW.row i r _ hr hrw
  have gen : ∀ (l : Addr) (ob : HO), H l = none → Wk.Dq (upd G l ob) (.ref l) (rd rows[i]) → ∃ acc, (upd H l ob) D = some (.lst acc) ∧ acc.length < sizeLine ∧ Tupz G0 (upd (upd H l ob) D (.lst (acc ++ [.ref l]))) p q R rs rows D (i + 1) := fun l ob hl' hdq => by
    have gl := fresh_back hP.ex hl'
    have nDl : D ≠ l := ne_of_none hD hl'
    have hP1 := hP.new (o := ob) hl'
    have hW1 := hW.new (o := ob) hl' gl
    have tl := hts.length
    rw [List.length_map, List.length_take] at tl
    refine ⟨ts, by rw [upd_ne nDl]; exact hD, by rw [sizeLine_eq]; omega, upd G l ob, ts ++ [.ref l], eG.trans (Ex.new gl), hP1.mut (by rw [upd_ne nDl]; exact gD) Dp Dq', ?_, upd_same, by rw [upd_ne nDl]; exact gD, Dp, Dq', ?_⟩
    · refine ⟨by rw [upd_ne (Ne.symm hDR)]; exact hW1.at_, hW1.gR, hW1.Rp, hW1.Rq, hW1.nin, hW1.nd, hW1.len, fun k r' row' hr' hw' => ?_⟩
      obtain ⟨g', rp', rq', vs', h1', h2'⟩ := hW1.row k r' row' hr' hw'
      have nr : r' ≠ D := fun z => hDr (by rw [← z]; exact List.mem_of_getElem? hr')
      exact ⟨g', rp', rq', vs', by rw [upd_ne nr]; exact h1', h2'⟩
    · rw [take_snoc hrw, List.map_append]
      exact (hts.mono (Ex.new gl)).append (.cons hdq .nil)
  refine ⟨r, vs, rfl, sq_of h1, fun hy l hl' => gen l _ hl' (.tup upd_same (by rw [show rows[i] = [] from List.length_eq_zero_iff.mp (by have := h2.length; rw [hy, List.length_map] at this; exact this.symm)]; simp) (h2.mono (Ex.new (fresh_back hP.ex hl')))), fun hy l o hl' hc hd => gen l _ hl' (.tupf upd_same hc hd (fun z => hy ?_) (fun d hm => ?_) (h2.mono (Ex.new (fresh_back hP.ex hl'))))⟩
  · have := h2.length
    rw [z] at this
    exact List.length_eq_zero_iff.mp this
  · obtain ⟨w, _, rfl⟩ := List.mem_map.mp hm
    exact ⟨_, rfl⟩
end Wk

set_option Elab.async false
set_option linter.all false
set_option maxRecDepth 100000
set_option maxHeartbeats 2000000
namespace Wk
open L2 PySem PySem.Spec PyProof.Rows Evl
def letW (rows : List (List Wy)) : Wy → Bool
  | [] => false
  | r :: w => isR (rows.length : Int) (.int r) && decide (r :: w ∈ rows.getD r.toNat [])
def letB (rows : List (List Wy)) (d : PyData) : Bool := intsB d && letW rows (rts d)
section
variable {P : Program} {w : World} {K : PySem.W.Frag} {mg : Str → Option Value} {base : Heap} {f : Addr} {fd : FuncData} {CW CN : Addr}
/-! is_let_way -/
abbrev spLetWay (CW : Addr) : Sp := spP fun H vs z => ∃ (wv v : V) (d : PyData) (rows : List (List Wy)), vs = [wv, v] ∧ WO CW H wv rows ∧ Dq H v d ∧ (itemsT d).length ≤ 1000 ∧ z = .bl (letB rows d)
abbrev nLetWay : List Str := ["wishes", "thing"]
abbrev sLetWay : Stmt := top 22
theorem scLetWay : FnScope nLetWay ["wishes", "thing"] (defScope sLetWay) := ⟨rfl, rfl, rfl, by decide +kernel, rfl, by decide +kernel, by decide +kernel⟩
theorem ok_letWay (B : Bl mg) (W : WC P w K mg base CW CN) (C : Cal P w K mg base "is_integer_tuple" ["thing"] 2 spIntTup) (C2 : Cal P w K mg base "is_router" ["size", "thing"] 3 spRouter)
    (F : FnP K "is_let_way" sLetWay f fd) : FnOk P w K mg base CX0 6 f fd ["wishes", "thing"] (spLetWay CW) := by
  obtain ⟨fM, fdM, me, FM, bM⟩ := W.wy
  refine F.ok scLetWay (fun vs H Q E h => ?_) (fun cdv A outer s H vs Q E hr h => ?_)
  · obtain ⟨z, ⟨wv, v, d, rows, rfl, _⟩, _⟩ := h
    rfl
  · obtain ⟨z, ⟨wv, v, d, rows, rfl, hw, hv, hl, rfl⟩, k⟩ := h
    have hu : (A.deeper (envOfC "is_let_way" (defScope sLetWay) s.heap.objs.size f cdv)).units + 66 < cLine := by have := hr.un; omega
    refine ⟨_, pss_cons (ps_if (PW.pt (pw_or (pt_not (pt_val (pe_cal C hr (by rfl) (pa_cons (pv 1) pa_nil))))
        (pw_or (pt_cmpR op_eq (pe_callB call_len_seq (by rfl) B.len PySem.boot_len (pa_cons (pv 1) pa_nil)) pe_int (nomark _))
          (pw_or1 (pt_not (pt_val (pe_cal C2 hr (by rfl) (pa_cons (pe_fld (pv 0) rfl) (pa_cons (pe_ix ix_tup (pv 1) pe_int (fun _ _ => rfl)) pa_nil))))))))) (pss_one (ps_ret pe_bl)) pss_nil)
      (pss_one (ps_ret (pe_cmpR (op_inU hu) (pv 1) (pe_meAt (pv 0) W.tx.cl me FM hr bM (fun σ => passAt takes0 σ) (pa_cons (pe_ix ix_tup (pv 1) pe_int (fun _ _ => rfl)) pa_nil)) rfl))), ?_⟩
    have v0 : ∀ {H1 : Hp}, Ev (tVar 0) (start nLetWay [wv, v]) H1 wv := ev_var rfl
    have v1 : ∀ {H1 : Hp}, Ev (tVar 1) (start nLetWay [wv, v]) H1 v := ev_var rfl
    cases hI : intsB d with
    | false =>
      have ez : letB rows d = false := by
        unfold letB
        rw [hI]
        rfl
      rw [ez] at k
      refine q_when (b := true || true) (et_or (et_is (et_not (et_B (ev_call (ea_cons v1 ea_nil) (spP_v fun H1 e => ⟨v, d, rfl, hv.mono e, hl, rfl⟩)))) (by rw [hI]; rfl)) fun z => by cases z) (fun _ H1 e1 => s_ret ev_c fun H2 e2 => k H2 (e1.trans e2)) (fun z => by cases z)
    | true =>
      have ed := intsB_wd hI
      generalize hns : rts d = ns at *
      have ez : letB rows d = letW rows ns := by
        unfold letB
        rw [hI, hns]
        rfl
      rw [ez] at k
      clear ez hns
      subst ed
      obtain ⟨a, rfl, ha⟩ := wd_ref hv
      have c1 : EvT (tNot (tB (tCall spIntTup [] E0 (tCons (tVar 1) tNil)))) (start nLetWay [wv, V.ref a]) H false := et_is (et_not (et_B (ev_call (ea_cons v1 ea_nil) (spP_v fun H1 e => ⟨.ref a, wd ns, rfl, hv.mono e, hl, rfl⟩)))) (by rw [hI]; rfl)
      cases ns with
      | nil =>
        refine q_when (b := false || (true || true)) (et_or c1 fun _ => et_or (et_is (et_test (ev_op (ev_lenT (K := K) (ta := tVar 1) v1 (st_of ha)) ev_c (rv_eq rfl))) rfl) fun z => by cases z) (fun _ H1 e1 => s_ret ev_c fun H2 e2 => k H2 (e1.trans e2)) (fun z => by cases z)
      | cons r ns =>
        have hat : atI ((r :: ns).map V.int) 0 = some (.int r) := atI_nat (j := 0) (by rw [List.getElem?_map]; rfl)
        have i0 : ∀ {H1 : Hp}, Ex H H1 → Ev (tOp (rIxT K) (tVar 1) (tC (.int 0))) (start nLetWay [wv, V.ref a]) H1 (.int r) := fun e => ev_op v1 ev_c (rv_ixT (st_of (e _ _ ha)) hat)
        have hz : decide (V.int (((r :: ns).map V.int).length : Int) = V.int 0) = false := by
          apply decide_eq_false
          intro z
          injection z with z
          simp at z
          omega
        refine q_when (b := false || (false || !isR (rows.length : Int) (.int r))) (et_or c1 fun _ => et_or (et_is (et_test (ev_op (ev_lenT (K := K) (ta := tVar 1) v1 (st_of ha)) ev_c (rv_eq rfl))) hz) fun _ => et_not (et_B (ev_call (ea_cons (ev_wsize W.tx v0 hw) (ea_cons (i0 (Ex.refl H)) ea_nil)) (spP_v fun H1 e => ⟨_, .int r, .int r, rfl, .int r, rfl⟩)))) (fun hb H1 e1 => s_ret ev_c fun H2 e2 => ?_) (fun hb H1 e1 => ?_)
        · have hb' : isR (rows.length : Int) (.int r) = false := by simpa using hb
          rw [show letW rows (r :: ns) = (isR (rows.length : Int) (.int r) && decide (r :: ns ∈ rows.getD r.toNat [])) from rfl, hb'] at k
          exact k H2 (e1.trans e2)
        · have hb' : isR (rows.length : Int) (.int r) = true := by simpa using hb
          rw [show letW rows (r :: ns) = (isR (rows.length : Int) (.int r) && decide (r :: ns ∈ rows.getD r.toNat [])) from rfl, hb'] at k
          have hb2 := hb'
          unfold isR at hb2
          simp only [Bool.and_eq_true, decide_eq_true_eq] at hb2
          obtain ⟨_, h0, hn⟩ := hb2
          have h0' : 0 ≤ r := h0
          have hn' : r ≤ (rows.length : Int) - 1 := hn
          have hrl : r.toNat < rows.length := by omega
          have hrw : rows[r.toNat]? = some rows[r.toNat] := List.getElem?_eq_getElem hrl
          have erg : rows.getD r.toNat [] = rows[r.toNat] := by
            rw [List.getD_eq_getElem?_getD, hrw]
            rfl
          rw [erg] at k
          generalize rows[r.toNat] = row at *
          refine ret_op (v1 H1 (Ex.refl _) _ fun H2 e2 => ?_)
          refine t_ways (σ := start nLetWay [wv, V.ref a]) (i := r.toNat) v0 (hw.up (e1.trans e2)) ?_ hrw fun u H3 e3 hu => ?_
          · rw [show (V.int ((r.toNat : Nat) : Int)) = V.int r by rw [Int.toNat_of_nonneg h0']]
            exact i0 (e1.trans e2)
          · have hv3 := hv.mono ((e1.trans e2).trans e3)
            refine ⟨wd (r :: ns), row.map wd, Dq.dp (SeqAt.canLay_of_shaped (shaped_wd _)) hv3, ?_, shaped_wd _, ?_, ?_⟩
            · exact Dq.dp (by simpa [PyData.canLay0] using lay_wds row) hu
            · exact lay_wds row
            · rw [any_wd]
              exact k H3 ((e1.trans e2).trans e3)
end
end Wk

set_option Elab.async false
set_option linter.all false
set_option maxRecDepth 100000
set_option maxHeartbeats 4000000
namespace Wk
open PySem PySem.Spec PyProof.Rows L2 Evl
theorem row_tupF {G : Hp} {v : V} {row : List Wy} (h : Dq G v (rd row)) (hne : row ≠ []) : ∃ t xs, v = .ref t ∧ TupF G t xs ∧ DqA G xs (row.map wd) := by
  obtain ⟨a, o, xs, rfl, h1, h2, h3, h4⟩ := Dq.tupK (ds := row.map wd) h (fun z => hne (List.map_eq_nil_iff.mp z)) fun d hd => by
    obtain ⟨w, _, e⟩ := List.mem_map.mp hd
    exact ⟨_, e.symm⟩
  exact ⟨a, xs, rfl, ⟨o, h1, h2, h3⟩, h4⟩
theorem TupF.st {K : PySem.W.Frag} {H : Hp} {t : Addr} {xs : List V} (h : TupF H t xs) : SqT K H t xs := by
  obtain ⟨o, h1, _⟩ := h
  exact .inl (.inr ⟨o, h1⟩)
theorem TupF.up {H H' : Hp} {t : Addr} {xs : List V} (e : Ex H H') (h : TupF H t xs) : TupF H' t xs := by
  obtain ⟨o, h1, h2⟩ := h
  exact ⟨o, e _ _ h1, h2⟩
section
variable {P : Program} {w : World} {K : PySem.W.Frag} {mg : Str → Option Value} {base : Heap} {f : Addr} {fd : FuncData} {CW CN : Addr}
/-! wished_more -/
def spMore (K : PySem.W.Frag) (CW : Addr) : Sp := fun vs H Q _ => ∃ (wv ov : V) (rows : List (List Wy)) (i j : Nat) (row : List Wy) (own : Wy), vs = [wv, ov] ∧ WO CW H wv rows ∧ Dq H ov (wd own) ∧ rows[i]? = some row ∧ row[j]? = some own ∧
  ∀ H' t us, Ex H H' → SqT K H' t us → DqA H' us ((row.take j).map wd) → Q (.ref t) H'
abbrev nMore : List Str := ["wishes", "own", "ways"]
abbrev sMore : Stmt := top 26
theorem scMore : FnScope nMore ["wishes", "own"] (defScope sMore) := ⟨rfl, rfl, rfl, by decide +kernel, rfl, by decide +kernel, by decide +kernel⟩
theorem ok_more (B : Bl mg) (W : WC P w K mg base CW CN) (F : FnP K "wished_more" sMore f fd) : FnOk P w K mg base CX0 6 f fd ["wishes", "own"] (spMore K CW) := by
  obtain ⟨fM, fdM, me, FM, bM⟩ := W.wy
  refine F.ok scMore (fun vs H Q E h => ?_) (fun cdv A outer s H vs Q E hr h => ?_)
  · obtain ⟨wv, ov, rows, i, j, row, own, rfl, _⟩ := h
    rfl
  · obtain ⟨wv, ov, rows, i, j, row, own, rfl, hw, ho, hi, hj, k⟩ := h
    have hu : (A.deeper (envOfC "wished_more" (defScope sMore) s.heap.objs.size f cdv)).units + 70 < cLine := by have := hr.un; omega
    refine ⟨_, pss_cons (ps_set (i := 2) scMore.nd rfl (Or.inl rfl) (pe_meAt (pv 0) W.tx.cl me FM hr bM (fun σ => passAt takes0 σ) (pa_cons (pe_ix ix_tup (pv 1) pe_int (fun _ _ => rfl)) pa_nil)))
      (pss_one (ps_ret (pe_slice (sl_tupK (K := K) rfl) (pv 2) po_none (po_some (pe_bmF PySem.F.plainAttrs_tuple PySem.F.slot_tuple_index PySem.F.type_tuple_index (mt_idxW (K := K) rfl hu) (pv 2) (pa_cons (pv 1) pa_nil)))))), ?_⟩
    have hok := hw.g.ok i row hi own (List.mem_of_getElem? hj)
    have hnd := hw.g.nd i row hi
    have hl6 := hw.r6 row (List.mem_of_getElem? hi)
    have hjl := (List.getElem?_eq_some_iff.mp hj).1
    obtain ⟨oa, rfl, hoa⟩ := wd_ref ho
    have hix : Ev (tOp (rIxT K) (tVar 1) (tC (.int 0))) (start nMore [wv, .ref oa]) H (.int (i : Int)) := ev_op (ev_var rfl) ev_c (rv_ixT (st_of hoa) (atI_nat (j := 0) (by rw [List.getElem?_map, hok.hd]; rfl)))
    show tMeAt CW "ways" (spWays CW CN) _ (tVar 0) (tCons _ tNil) _ H _
    refine t_ways (i := i) (ev_var rfl) hw hix hi fun u H1 e1 hu1 => ?_
    obtain ⟨t, xs, rfl, hT, hxs⟩ := row_tupF hu1 fun z => by rw [z] at hjl; simp at hjl
    refine g_name ?_
    have hTl := hxs.length
    rw [List.length_map] at hTl
    have hu2 : Dq H1 (.ref t) (rd row) := hu1
    have lay1 : (rd row).canLay0 = true := by
      have := lay_wds row
      simpa [rd, PyData.canLay0] using this
    have lay2 : (wd own).canLay0 = true := by simp [wd, PyData.canLay0, lay_ints]
    dsimp only
    refine ret_any ?_
    refine ⟨.ref t, rfl, ?_⟩
    refine ⟨.ref t, rfl, ⟨t, xs, rfl, hT⟩, .ref oa, rfl, t, .ref oa, row, own, j, rfl, rfl, Dq.dp lay1 hu2, Dq.dp lay2 (ho.mono e1), hnd, hj, (j : Int), rfl, t, xs, rfl, hT.st, fun hc => ?_, fun _ p hp => ?_⟩
    · have h2 := hc.2
      rw [HT.sIx_nat] at h2
      omega
    · rw [cut_to xs j (by omega)]
      refine k _ p (xs.take j) (e1.trans (Ex.new hp)) (st_of upd_same) ?_
      rw [List.map_take]
      exact (hxs.take j).mono (Ex.new hp)
end
end Wk

set_option Elab.async false
set_option linter.all false
set_option maxRecDepth 100000
set_option maxHeartbeats 4000000
namespace Wk
open PySem PySem.Spec PyProof.Rows L2 Evl
/-! ### the ways that others wish more, and their ends -/
abbrev Pr := Wy × Wy
def goP (row : List Wy) (j : Nat) : List Pr := (row.take j).flatMap fun far => ((endsW far).drop 1).map fun e => (far, e)
def goR (row : List Wy) : List (Wy × List Pr) := (List.range row.length).map fun j => (row.getD j [], goP row j)
def goL (rows : List (List Wy)) : List (Wy × List Pr) := (rows.map goR).flatten
theorem goR_fst (row : List Wy) : (goR row).map (·.1) = row := by
  unfold goR
  rw [List.map_map]
  refine List.ext_getElem? fun i => ?_
  rw [List.getElem?_map]
  by_cases h : i < row.length
  · rw [List.getElem?_range h, List.getElem?_eq_getElem h]
    show some (row.getD i []) = _
    rw [List.getD_eq_getElem?_getD, List.getElem?_eq_getElem h]
    rfl
  · rw [List.getElem?_eq_none (by simpa using h), List.getElem?_eq_none (by simpa using h)]
    rfl
theorem goL_fst (rows : List (List Wy)) : (goL rows).map (·.1) = rows.flatten := by
  unfold goL
  rw [List.map_flatten, List.map_map]
  congr 1
  rw [show rows.map ((List.map fun x : Wy × List Pr => x.1) ∘ goR) = rows.map id from List.map_congr_left fun row _ => goR_fst row, List.map_id]
theorem goL_at {rows : List (List Wy)} {g : Wy × List Pr} (h : g ∈ goL rows) : ∃ (i j : Nat) (row : List Wy), rows[i]? = some row ∧ row[j]? = some g.1 ∧ g.2 = goP row j := by
  unfold goL at h
  obtain ⟨l, hl, hg⟩ := List.mem_flatten.mp h
  obtain ⟨row, hr, rfl⟩ := List.mem_map.mp hl
  obtain ⟨i, hi⟩ := List.mem_iff_getElem?.mp hr
  unfold goR at hg
  obtain ⟨j, hj, rfl⟩ := List.mem_map.mp hg
  have hjl := List.mem_range.mp hj
  refine ⟨i, j, row, hi, ?_, rfl⟩
  show row[j]? = some (row.getD j [])
  rw [List.getD_eq_getElem?_getD, List.getElem?_eq_getElem hjl]
  rfl
/-- pairs of ways in the heap -/
inductive PrL (H : Hp) : List V → List Pr → Prop
  | nil : PrL H [] []
  | cons {t : Addr} {a b : V} {p : Pr} {us : List V} {ps : List Pr} : H t = some (.tup [a, b]) → Dq H a (wd p.1) → Dq H b (wd p.2) → PrL H us ps → PrL H (.ref t :: us) (p :: ps)
theorem PrL.mono {G H : Hp} (e : Ex G H) : ∀ {us : List V} {ps : List Pr}, PrL G us ps → PrL H us ps
  | _, _, .nil => .nil
  | _, _, .cons h1 h2 h3 t => .cons (e _ _ h1) (h2.mono e) (h3.mono e) (t.mono e)
theorem PrL.append {H : Hp} : ∀ {us vs : List V} {ps qs : List Pr}, PrL H us ps → PrL H vs qs → PrL H (us ++ vs) (ps ++ qs)
  | _, _, _, _, .nil, k => k
  | _, _, _, _, .cons h1 h2 h3 t, k => .cons h1 h2 h3 (t.append k)
theorem PrL.length {H : Hp} : ∀ {us : List V} {ps : List Pr}, PrL H us ps → us.length = ps.length
  | _, _, .nil => rfl
  | _, _, .cons _ _ _ t => congrArg Nat.succ t.length
theorem PrL.at {H : Hp} : ∀ {us : List V} {ps : List Pr} {i : Nat} {v : V}, PrL H us ps → us[i]? = some v → ∃ t a b p, v = .ref t ∧ ps[i]? = some p ∧ H t = some (.tup [a, b]) ∧ Dq H a (wd p.1) ∧ Dq H b (wd p.2)
  | _, _, i, v, .nil, e => by simp at e
  | _, _, 0, v, .cons h1 h2 h3 t, e => ⟨_, _, _, _, (Option.some.inj e).symm, rfl, h1, h2, h3⟩
  | _, _, i + 1, v, .cons h1 h2 h3 t, e => t.at (i := i) (by simpa using e)
/-- the list that grows holds these pairs -/
def PW (D : Addr) (H1 : Hp) (ps : List Pr) (H : Hp) : Prop := H1 D = none ∧ Ex H1 H ∧ ∃ us, H D = some (.lst us) ∧ PrL (off D H) us ps
theorem PW.ext {D : Addr} {H1 H H' : Hp} {ps : List Pr} (h : PW D H1 ps H) (e : Ex H H') : PW D H1 ps H' := by
  obtain ⟨h1, h2, us, h3, h4⟩ := h
  exact ⟨h1, h2.trans e, us, e _ _ h3, h4.mono (off_ex e)⟩
theorem PW.put {D t : Addr} {a b : V} {H1 H : Hp} {ps : List Pr} {p : Pr} (h : PW D H1 ps H) (hl : ps.length ≤ 10000) (ht : off D H t = some (.tup [a, b])) (ha : Dq (off D H) a (wd p.1)) (hb : Dq (off D H) b (wd p.2)) :
    ∃ acc, H D = some (.lst acc) ∧ acc.length < sizeLine ∧ PW D H1 (ps ++ [p]) (upd H D (.lst (acc ++ [.ref t]))) := by
  obtain ⟨h1, h2, us, h3, h4⟩ := h
  have l := h4.length
  refine ⟨us, h3, sz_lt (by omega), h1, Ex.mut h2 h1, us ++ [.ref t], upd_same, ?_⟩
  rw [off_upd]
  exact h4.append (.cons ht ha hb .nil)
theorem go_len {l : List Wy} (hl : l.length ≤ 6) (h8 : ∀ w ∈ l, w.length ≤ 8) : (l.flatMap fun far => ((endsW far).drop 1).map fun e => (far, e)).length ≤ 48 := by
  rw [List.length_flatMap]
  have : ∀ (l : List Wy), (∀ w ∈ l, w.length ≤ 8) → (l.map fun far => (((endsW far).drop 1).map fun e => (far, e)).length).sum ≤ 8 * l.length := by
    intro l
    induction l with
    | nil => intro _; simp
    | cons w l ih =>
      intro h
      have h1 := ih fun x hx => h x (List.mem_cons_of_mem _ hx)
      have h2 := h w List.mem_cons_self
      have h3 : (((endsW w).drop 1).map fun e => (w, e)).length ≤ 8 := by
        rw [List.length_map, List.length_drop]
        unfold endsW
        rw [List.length_map, List.length_range]
        omega
      rw [List.map_cons, List.sum_cons, List.length_cons]
      omega
  have h1 := this l h8
  refine Nat.le_trans h1 ?_
  omega
theorem goP_len {row : List Wy} {j : Nat} (hr : row.length ≤ 6) (h8 : ∀ w ∈ row, w.length ≤ 8) : (goP row j).length ≤ 48 :=
  go_len (by rw [List.length_take]; omega) fun w hw => h8 w (List.mem_of_mem_take hw)
theorem gw_flat_nd {rows : List (List Wy)} (h : GW rows) : rows.flatten.Nodup := by
  refine List.pairwise_flatten.mpr ⟨fun row hr => ?_, ?_⟩
  · obtain ⟨i, hi⟩ := List.mem_iff_getElem?.mp hr
    exact h.nd i row hi
  · refine List.pairwise_iff_getElem.mpr fun i j hi hj hij x hx y hy e => ?_
    have h1 := (h.ok i _ (List.getElem?_eq_getElem hi) x hx).hd
    have h2 := (h.ok j _ (List.getElem?_eq_getElem hj) y hy).hd
    rw [e, h2] at h1
    have := Option.some.inj h1
    omega
theorem put_new {κ : Type} [DecidableEq κ] {l : List (κ × V)} {k : κ} {v : V} (h : k ∉ l.map (·.1)) : putK l k v = l ++ [(k, v)] := by
  unfold putK
  rw [if_neg]
  intro z
  obtain ⟨kv, h1, h2⟩ := List.any_eq_true.mp z
  exact h (List.mem_map.mpr ⟨kv, h1, of_decide_eq_true h2⟩)
theorem wd_tk {G H : Hp} (k : ∀ b xs, G b = some (.tup xs) → H b = some (.tup xs)) {v : V} {w : Wy} (h : Dq G v (wd w)) : Dq H v (wd w) := by
  obtain ⟨a, rfl, ha⟩ := wd_ref h
  exact wd_of (k _ _ ha)
theorem PrL.tk {G H : Hp} (k : ∀ b xs, G b = some (.tup xs) → H b = some (.tup xs)) : ∀ {us : List V} {ps : List Pr}, PrL G us ps → PrL H us ps
  | _, _, .nil => .nil
  | _, _, .cons h1 h2 h3 t => .cons (k _ _ h1) (wd_tk k h2) (wd_tk k h3) (t.tk k)
section
variable {P : Program} {w : World} {K : PySem.W.Frag} {mg : Str → Option Value} {base : Heap} {f : Addr} {fd : FuncData} {CW CN : Addr}
theorem sl_listK {X : Cx} {K : PySem.W.Frag} (hK : X.K = K) : SlR X (rSlL K) := by
  subst hK
  exact sl_list
/-- the dict of the goings on -/
inductive GoK (H : Hp) : List (List L2.Key × V) → List (Wy × List Pr) → Prop
  | nil : GoK H [] []
  | cons {L : Addr} {us : List V} {g : Wy × List Pr} {kvs : List (List L2.Key × V)} {gs : List (Wy × List Pr)} : H L = some (.lst us) → PrL H us g.2 → GoK H kvs gs → GoK H ((keyW g.1, .ref L) :: kvs) (g :: gs)
theorem GoK.mono {G H : Hp} (e : Ex G H) : ∀ {kvs : List (List L2.Key × V)} {gs : List (Wy × List Pr)}, GoK G kvs gs → GoK H kvs gs
  | _, _, .nil => .nil
  | _, _, .cons h1 h2 t => .cons (e _ _ h1) (h2.mono e) (t.mono e)
theorem GoK.append {H : Hp} : ∀ {kvs k2 : List (List L2.Key × V)} {gs g2 : List (Wy × List Pr)}, GoK H kvs gs → GoK H k2 g2 → GoK H (kvs ++ k2) (gs ++ g2)
  | _, _, _, _, .nil, k => k
  | _, _, _, _, .cons h1 h2 t, k => .cons h1 h2 (t.append k)
theorem GoK.length {H : Hp} : ∀ {kvs : List (List L2.Key × V)} {gs : List (Wy × List Pr)}, GoK H kvs gs → kvs.length = gs.length
  | _, _, .nil => rfl
  | _, _, .cons _ _ t => congrArg Nat.succ t.length
theorem GoK.keys {H : Hp} : ∀ {kvs : List (List L2.Key × V)} {gs : List (Wy × List Pr)}, GoK H kvs gs → kvs.map (·.1) = gs.map fun g => keyW g.1
  | _, _, .nil => rfl
  | _, _, .cons _ _ t => by rw [List.map_cons, List.map_cons, t.keys]
theorem GoK.at {H : Hp} : ∀ {kvs : List (List L2.Key × V)} {gs : List (Wy × List Pr)} {i : Nat} {k : List L2.Key} {v : V}, GoK H kvs gs → kvs[i]? = some (k, v) → ∃ g L us, gs[i]? = some g ∧ k = keyW g.1 ∧ v = .ref L ∧ H L = some (.lst us) ∧ PrL H us g.2
  | _, _, i, k, v, .nil, e => by simp at e
  | _, _, 0, k, v, .cons h1 h2 t, e => by
    cases (show (_, _) = (k, v) from Option.some.inj e)
    exact ⟨_, _, _, rfl, rfl, rfl, h1, h2⟩
  | _, _, i + 1, k, v, .cons h1 h2 t, e => t.at (i := i) (by simpa using e)
/-! goings_on -/
def spGo (CW : Addr) : Sp := fun vs H Q _ => ∃ (wv : V) (rows : List (List Wy)), vs = [wv] ∧ WO CW H wv rows ∧ ∀ H' D kvs, Ex H H' → H D = none → H' D = some (.dT kvs) → GoK H' kvs (goL rows) → Q (.ref D) H'
abbrev nGo : List Str := ["wishes", "table", "own", "far", "end"]
abbrev sGo : Stmt := top 25
theorem scGo : FnScope nGo ["wishes"] (defScope sGo) := ⟨rfl, rfl, rfl, by decide +kernel, rfl, by decide +kernel, by decide +kernel⟩
theorem ok_go (CL : Cal P w K mg base "let_ways" ["wishes"] 6 (spLetWays CW)) (CM : Cal P w K mg base "wished_more" ["wishes", "own"] 6 (spMore K CW)) (CE : Cal P w K mg base "ends" ["way"] 1 (spEnds endsW)) (F : FnP K "goings_on" sGo f fd) : FnOk P w K mg base CX0 7 f fd ["wishes"] (spGo CW) := by
  refine F.ok scGo (fun vs H Q E h => ?_) (fun cdv A outer s H vs Q E hr h => ?_)
  · obtain ⟨wv, rows, rfl, _⟩ := h
    rfl
  · obtain ⟨wv, rows, rfl, hw, k⟩ := h
    have hu : (A.deeper (envOfC "goings_on" (defScope sGo) s.heap.objs.size f cdv)).units + 1 < cLine := by have := hr.un; omega
    have hr1 : Room 1 _ := hr.mono (by decide)
    refine ⟨_, pss_cons (ps_set (i := 1) scGo.nd rfl (Or.inl rfl) pe_dnewT)
      (pss_cons (ps_for (passes_of rfl) rfl (pi_listK (K := K) rfl (pe_cal CL hr (by rfl) (pa_cons (pv 0) pa_nil))) (pg_name (i := 2) scGo.nd rfl (Or.inl rfl))
        (pss_one (ps_dput hu (pv 1) (pv 2) (pe_lc2 (own := [("far", 3), ("end", 4)]) (vs1 := [4]) (g := gName 3) (g1 := gName 4) (tt := tYes) (tt1 := tYes) rfl scGo.nd
          (pi_tupK (K := K) rfl (pe_cal CM hr (by rfl) (pa_cons (pv 0) (pa_cons (pv 2) pa_nil)))) (blkOk_by (N := nGo) (sc := defScope sGo) (by decide +kernel)) (by decide)
          (fun _ _ _ _ _ => pg_name (i := 3) scGo.nd rfl (Or.inl rfl)) (fun _ _ _ _ _ => pts_nil)
          (fun _ _ _ _ _ => pi_listK (K := K) rfl (pe_slice (sl_listK (K := K) rfl) (pe_cal CE hr1 (by rfl) (pa_cons (pv 3) pa_nil)) (po_some pe_int) po_none))
          (fun _ _ _ _ _ => pg_name (i := 4) scGo.nd rfl (Or.inl rfl)) (fun _ _ _ _ _ => pts_nil) (fun _ _ _ _ _ => pe_tup (pa_cons (pv 3) (pa_cons (pv 4) pa_nil)))) rfl)))
      (pss_one (ps_ret (pv 1)))), ?_⟩
    have n8 := hw.n8
    intro D hD
    have eD := Ex.new (o := .dT []) hD
    have hD1 : (upd H D (.dT [])) D = some (.dT []) := upd_same
    refine g_name ?_
    dsimp only
    generalize upd H D (.dT []) = H1 at *
    have hfl := goL_fst rows
    have hglen : (goL rows).length = rows.flatten.length := by rw [← hfl, List.length_map]
    have hlf := len_flat hw.r6
    refine q_forC (K := K) (fun l xs H2 => Ex H1 H2 ∧ H1 l = none ∧ H2 l = some (.lst xs) ∧ DqA H2 xs (rows.flatten.map wd)) (fun Q' q => ⟨wv, rfl, wv, rows, rfl, hw.up eD, fun H2 l us e hl h2 hd => q l us H2 ⟨e, hl, h2, hd⟩⟩) ?_
    rintro l xs H2 ⟨e2, hl, h2, hd2⟩
    have nlD : l ≠ D := fun z => by rw [z, hD1] at hl; cases hl
    have hD2 := e2 _ _ hD1
    have hxl := hd2.length
    rw [List.length_map] at hxl
    refine ⟨sq_of h2, fun i σ' H' => ∃ o2, σ' = [some wv, some (.ref D), o2, none, none] ∧ (∀ b o, b ≠ D → H2 b = some o → H' b = some o) ∧ ∃ kvs, H' D = some (.dT kvs) ∧ GoK (off D H') kvs ((goL rows).take i), ⟨none, rfl, fun _ _ _ z => z, [], hD2, .nil⟩, fun i σ' H' _ p => ?_, ?_, ?_⟩
    · obtain ⟨_, _, p2, _⟩ := p
      exact sq_of (p2 _ _ nlD h2)
    · rintro i x σ' H3 hx ⟨o2, rfl, hst, kvs, hD3, hK⟩
      obtain ⟨wy, hwy, hdw⟩ := hd2.wds_inv hx
      obtain ⟨oa, rfl, hoa⟩ := wd_ref hdw
      have noD : oa ≠ D := fun z => by rw [z, hD2] at hoa; cases hoa
      have hoa3 := hst _ _ noD hoa
      have hil := (List.getElem?_eq_some_iff.mp hwy).1
      have hgi : (goL rows)[i]? = some (goL rows)[i] := List.getElem?_eq_getElem (by omega)
      obtain ⟨i', j, row, hi', hj', hg2⟩ := goL_at (List.mem_of_getElem? hgi)
      have hg1 : (goL rows)[i].1 = wy := by
        have z : ((goL rows).map (·.1))[i]? = some (goL rows)[i].1 := by rw [List.getElem?_map, hgi]; rfl
        rw [hfl, hwy] at z
        exact (Option.some.inj z).symm
      have hkn := hK.keys
      generalize hgg : (goL rows)[i] = g at *
      subst hg1
      have eH3 : Ex H H3 := fun b o hb => hst b o (fun z => by rw [z, hD] at hb; cases hb) (e2 _ _ (eD _ _ hb))
      have hr6 := hw.r6 row (List.mem_of_getElem? hi')
      have hokr := hw.g.ok i' row hi'
      refine g_name ?_
      refine ⟨wv, rfl, .ref oa, rfl, wv, .ref oa, rows, i', j, row, g.1, rfl, hw.up eH3, wd_of hoa3, hi', hj', fun H5 t us e5 hs5 hd5 => ⟨t, rfl, ⟨us, hs5⟩, fun L hL => ?_⟩⟩
      have hul := hd5.length
      rw [List.length_map] at hul
      have hs5' : ∀ {Hx : Hp}, Ex H5 Hx → SqT K Hx t us := fun {Hx} e => ex_t e hs5
      refine ⟨fun k' m Hx => m = us.length - k' ∧ k' ≤ us.length ∧ PW L H5 (((row.take j).take k').flatMap fun far => ((endsW far).drop 1).map fun e => (far, e)) Hx, ⟨us.length, by simp, Nat.zero_le _, hL, Ex.new hL, [], upd_same, .nil⟩, ?_⟩
      rintro k' m H6 ⟨rfl, hk', pw⟩
      have s6 := hs5' pw.2.1
      by_cases lt : k' < us.length
      · refine .inr ⟨walk_tup.goes k' H6 lt s6, fun Hx => PW L H5 (((row.take j).take (k' + 1)).flatMap fun far => ((endsW far).drop 1).map fun e => (far, e)) Hx, fun Hx q => ⟨us.length - (k' + 1), by omega, rfl, lt, q⟩, ?_⟩
        intro y H7 hy
        obtain ⟨rfl, hy2⟩ := walk_tup.yields k' H6 y H7 lt s6 hy
        obtain ⟨far, hfar, hdf⟩ := hd5.wds_inv hy2
        obtain ⟨fa, rfl, hfa⟩ := wd_ref hdf
        have hfm : far ∈ row := List.mem_of_mem_take (List.mem_of_getElem? hfar)
        have hfk := hokr far hfm
        have etk : (row.take j).take (k' + 1) = (row.take j).take k' ++ [far] := take_snoc hfar
        have hpl : ∀ n, (((row.take j).take k').flatMap fun far => ((endsW far).drop 1).map fun e => (far, e)).length + ((((endsW far).drop 1).take n).map fun e => (far, e)).length ≤ 1000 := fun n => by
          have h1 := go_len (l := (row.take j).take k') (by rw [List.length_take, List.length_take]; omega) fun w hw => (hokr w (List.mem_of_mem_take (List.mem_of_mem_take hw))).l8
          have h2 : ((((endsW far).drop 1).take n).map fun e => (far, e)).length ≤ 8 := by
            have := hfk.l8
            rw [List.length_map, List.length_take, List.length_drop]
            unfold endsW
            rw [List.length_map, List.length_range]
            omega
          omega
        rw [etk, List.flatMap_append]
        simp only [List.flatMap_cons, List.flatMap_nil, List.append_nil]
        generalize ((row.take j).take k').flatMap (fun far => ((endsW far).drop 1).map fun e => (far, e)) = pre at *
        refine ⟨rfl, et_yes H7 (Ex.refl _) _ fun H8 e8 => ?_⟩
        rw [if_pos rfl]
        have hfa8 := e8 _ _ (pw.2.1 _ _ hfa)
        refine ⟨.ref fa, rfl, .ref fa, far, rfl, wd_of hfa8, by have := hfk.l8; omega, fun H9 le ues e9 hle h9 hd9 => ⟨1, rfl, le, ues, rfl, sq_of h9, fun l2 hl2 => ⟨l2, rfl, ⟨_, sq_of upd_same⟩, ?_⟩⟩⟩
        have hel := hd9.length
        rw [List.length_map] at hel
        have hel2 : (endsW far).length = far.length - 1 := by unfold endsW; rw [List.length_map, List.length_range]
        have hf2 := hfk.l2
        have ecut : cutV ues (some 1) none = ues.drop 1 := cut_from ues 1 (by omega)
        rw [ecut]
        have eA := Ex.new (o := .lst (ues.drop 1)) hl2
        have hA2 : (upd H9 l2 (.lst (ues.drop 1))) l2 = some (.lst (ues.drop 1)) := upd_same
        have pwA := ((pw.ext e8).ext e9).ext eA
        have hdA : DqA (upd H9 l2 (.lst (ues.drop 1))) (ues.drop 1) (((endsW far).drop 1).map wd) := by
          rw [List.map_drop]
          exact (hd9.drop 1).mono eA
        have hfaA := eA _ _ (e9 _ _ hfa8)
        have nlL : l2 ≠ L := fun z => by
          obtain ⟨_, _, us9, q, _⟩ := (pw.ext e8).ext e9
          rw [← z, hl2] at q
          cases q
        generalize upd H9 l2 (.lst (ues.drop 1)) = HA at *
        have hen : (ues.drop 1).length = ((endsW far).drop 1).length := by rw [List.length_drop, List.length_drop, hel]
        generalize ues.drop 1 = vs at *
        generalize (endsW far).drop 1 = ws at *
        obtain ⟨_, _, usA, hLA, _⟩ := pwA
        have g1 : off L HA l2 = some (.lst vs) := (off_at nlL).trans hA2
        have g2 := wds_off hLA hdA
        have g3 : off L HA fa = some (.tup (far.map V.int)) := (off_at fun z => by rw [z, hLA] at hfaA; cases hfaA).trans hfaA
        have pwA := ((pw.ext e8).ext e9).ext eA
        refine ⟨fun n m Hx => m = vs.length - n ∧ n ≤ vs.length ∧ PW L H5 (pre ++ (ws.take n).map fun e => (far, e)) Hx ∧ Ex (off L HA) (off L Hx), ⟨vs.length, by simp, Nat.zero_le _, by simpa using pwA, Ex.refl _⟩, ?_⟩
        rintro n m HB ⟨rfl, hn, pwB, exB⟩
        have sB : SqL K HB l2 vs := sq_of (off_in L HB _ _ (exB _ _ g1))
        by_cases ltn : n < vs.length
        · refine .inr ⟨walk_list.goes n HB ltn sB, fun Hx => PW L H5 (pre ++ (ws.take (n + 1)).map fun e => (far, e)) Hx ∧ Ex (off L HA) (off L Hx), fun Hx q => ⟨vs.length - (n + 1), by omega, rfl, ltn, q.1, q.2⟩, ?_⟩
          intro y HC hy
          obtain ⟨rfl, hy2⟩ := walk_list.yields n HB y HC ltn sB hy
          obtain ⟨e', he', hde⟩ := g2.wds_inv hy2
          refine ⟨rfl, et_yes HC (Ex.refl _) _ fun HE eE => ?_⟩
          rw [if_pos rfl]
          refine ⟨.ref fa, rfl, y, rfl, by show 2 ≤ sizeLine; decide, fun t3 ht3 => ?_⟩
          have eT := Ex.new (o := .tup [.ref fa, y]) ht3
          have pwT := (pwB.ext eE).ext eT
          have n3L : t3 ≠ L := fun z => by
            obtain ⟨_, _, us9, q, _⟩ := pwB.ext eE
            rw [← z, ht3] at q
            cases q
          have exT := (exB.trans (off_ex eE)).trans (off_ex eT)
          obtain ⟨acc, a1, a2, a3⟩ := pwT.put (p := (far, e')) (a := .ref fa) (b := y) (by have := hpl n; rw [List.length_append]; omega) ((off_at n3L).trans upd_same) (wd_of (exT _ _ g3)) (hde.mono exT)
          refine ⟨acc, a1, a2, ?_, ?_⟩
          · rw [take_snoc he', List.map_append, ← List.append_assoc]
            exact a3
          · rw [off_upd]
            exact exT
        · have en : n = vs.length := by omega
          subst en
          rw [List.take_of_length_le (Nat.le_of_eq hen.symm)] at pwB
          exact .inl ⟨walk_list.stops HB sB, pwB⟩
      · have ek : k' = us.length := by omega
        subst ek
        rw [List.take_of_length_le (Nat.le_of_eq hul.symm)] at pw
        refine .inl ⟨walk_tup.stops H6 s6, ?_⟩
        obtain ⟨p1, p2, us6, p3, p4⟩ := pw
        have eH6 : Ex H3 H6 := e5.trans p2
        have hD6 := eH6 _ _ hD3
        have nLD : L ≠ D := fun z => by rw [z, hD6] at p3; cases p3
        have hoa6 := eH6 _ _ hoa3
        have hkl := hK.length
        rw [List.length_take] at hkl
        refine ⟨.ref D, rfl, .ref oa, rfl, D, _, rfl, DPut.t (k := keyW g.1) hD6 (by rw [keyW_kV]; exact hoa6) (sz_lt (by omega)), ?_⟩
        have hkn2 : keyW g.1 ∉ kvs.map (·.1) := fun z => by
          rw [hkn] at z
          obtain ⟨g2, hg2m, e⟩ := List.mem_map.mp z
          have e2 := keyW_inj e
          obtain ⟨r, hr⟩ := List.mem_iff_getElem?.mp hg2m
          rw [List.getElem?_take] at hr
          by_cases c : r < i
          · rw [if_pos c] at hr
            have nd := gw_flat_nd hw.g
            rw [← hfl] at nd
            have h1 : ((goL rows).map (·.1))[r]? = some g.1 := by rw [List.getElem?_map, hr]; exact congrArg some e2
            have h2 : ((goL rows).map (·.1))[i]? = some g.1 := by rw [List.getElem?_map, hgi]; rfl
            have := (List.getElem?_inj (by rw [List.length_map]; omega) nd).mp (h1.trans h2.symm)
            omega
          · rw [if_neg c] at hr
            cases hr
        rw [put_new hkn2]
        refine ⟨_, rfl, fun b o nb hb => by rw [upd_ne nb]; exact eH6 _ _ (hst b o nb hb), _, upd_same, ?_⟩
        rw [off_upd, take_snoc hgi]
        refine (hK.mono (off_ex eH6)).append (.cons ((off_at nLD).trans p3) ?_ .nil)
        rw [hg2]
        refine p4.tk fun b xs hb => ?_
        have hb6 := off_in L H6 _ _ hb
        exact (off_at fun z => by rw [z, hD6] at hb6; cases hb6).trans hb6
    · rintro σ' H3 ⟨o2, rfl, hst, kvs, hD3, hK⟩
      rw [List.take_of_length_le (by omega)] at hK
      refine ⟨.ref D, rfl, k H3 D kvs (fun b o hb => hst b o (fun z => by rw [z, hD] at hb; cases hb) (e2 _ _ (eD _ _ hb))) hD hD3 (hK.mono (off_in D H3))⟩
end
end Wk

set_option Elab.async false
set_option linter.all false
set_option maxRecDepth 100000
set_option maxHeartbeats 4000000
namespace Wk
open PySem PySem.Spec PyProof.Rows L2 Evl
/-! sorted(ways) -/
def sortW (ws : List Wy) : List Wy := ws.mergeSort fun a b => decide (a ≤ b)
theorem dataLe_wd {β : Type} (x : β → Wy) : PySem.W.dataLe false (fun b => wd (x b)) = fun p q => decide (x p ≤ x q) := by
  funext p q
  show (!PySem.W.dataLt (wd (x q)) (wd (x p))) = _
  have e : PySem.W.dataLt (wd (x q)) (wd (x p)) = PySem.W.rowLt ((x q).map .int) ((x p).map .int) := by
    unfold wd PySem.W.rowLt
    first | rfl | rw [PySem.W.dataLt_tuple_list] | simp [PySem.W.dataLt]
  rw [e, PySem.W.dataLt_ints]
  by_cases h : x q < x p
  · have h' : ¬ x p ≤ x q := fun r => List.not_lt.mpr r h
    simp [h, h']
  · have h' : x p ≤ x q := List.not_lt.mp h
    simp [h, h']
def rSortW (K : PySem.W.Frag) : List V → Hp → VK → Prop := fun vs H Q => ∃ (a : Addr) (ps : List (Addr × Wy)), vs = [.ref a] ∧ SqL K H a (ps.map fun p => V.ref p.1) ∧ (∀ p ∈ ps, SqT K H p.1 (p.2.map V.int)) ∧ (∀ p ∈ ps, p.2 ≠ []) ∧
  ∀ (qs : List (Addr × Wy)) D, qs.Perm ps → qs.map (·.2) = sortW (ps.map (·.2)) → H D = none → Q (.ref D) (upd H D (.lst (qs.map fun p => V.ref p.1)))
theorem map_sortW (ps : List (Addr × Wy)) : (ps.mergeSort fun p q => decide (p.2 ≤ q.2)).map (·.2) = sortW (ps.map (·.2)) := by
  unfold sortW
  exact List.map_mergeSort fun a _ b _ => rfl
theorem each_refs : ∀ (ps : List (Addr × Wy)) {us : List Value}, Vals (ps.map fun p => V.ref p.1) us → PySem.W.EachIs (fun (v : Value) (p : Addr × Wy) => v = Value.ref p.1) us ps
  | [], _, .nil => .nil
  | p :: ps, _, .cons r rv => .cons r (each_refs ps rv)
theorem vals_refs : ∀ {ps : List (Addr × Wy)} {us : List Value}, PySem.W.EachIs (fun (v : Value) (p : Addr × Wy) => v = Value.ref p.1) us ps → Vals (ps.map fun p => V.ref p.1) us
  | [], _, .nil => .nil
  | p :: ps, _, .cons r rv => .cons r (vals_refs rv)
theorem each_reads {X : Cx} {pins : List (Addr × Obj)} {σ : L2.St} {H : Hp} {s : Shared} (I : Inv X pins σ H s) : ∀ (ps : List (Addr × Wy)) {us : List Value}, (∀ p ∈ ps, SqT X.K H p.1 (p.2.map V.int)) → Vals (ps.map fun p => V.ref p.1) us → PySem.W.EachIs (fun (v : Value) (p : Addr × Wy) => ∃ as, Reads s.heap v (wd p.2) as) us ps
  | [], _, _, .nil => .nil
  | p :: ps, _, h, .cons r rv => by
    refine .cons ?_ (each_reads I ps (fun q hq => h q (List.mem_cons_of_mem _ hq)) rv)
    obtain ⟨its, rv2, pl, _⟩ := I.tuple (h p List.mem_cons_self)
    obtain ⟨op, hop, hcls, npl, hdat⟩ := pl
    cases r
    exact ⟨[], .tuple hop hcls hdat (LmP.reads_ints rv2)⟩
theorem cr_sortW {X : Cx} {K : PySem.W.Frag} (hK : X.K = K) (hu : X.A.units + 70 < cLine) : CallR X (.builtin "sorted") (rSortW K) := by
  subst hK
  intro pins s σ H vs us Q I r h
  obtain ⟨a, ps, rfl, q1, q2, qn, q3⟩ := h
  obtain ⟨its, rv, hl, hz⟩ := I.list q1
  rw [Vals.ref1 r]
  have hal : PySem.W.AllAlike (ps.map fun p : Addr × Wy => wd p.2) := PySem.W.AllAlike.of fun _ _ => by
    unfold wd
    simp only [PySem.W.alike, PySem.W.alike_ints]
  refine PySem.W.sorted_data (β := Addr × Wy) (enc := fun p : Addr × Wy => wd p.2) (R := fun (v : Value) (p : Addr × Wy) => v = Value.ref p.1) hl.isList (each_refs ps rv) (each_reads I ps q2 rv) hal (.inl fun d hd => by
    obtain ⟨p, hp, rfl⟩ := List.mem_map.mp hd
    have hne := qn p hp
    unfold wd
    cases hw : p.2 with
    | nil => exact absurd hw hne
    | cons x l => exact ⟨_, _, rfl⟩) (by rw [List.length_map] at hz; exact hz) (fun y _ => ?_) (fun out hlen he => ?_)
  · have hd : (wd y.2).depth ≤ 2 := by
      unfold wd
      simp only [PyData.depth]
      have := Wk.depth_ints y.2
      omega
    omega
  · rw [dataLe_wd (fun p : Addr × Wy => p.2)] at he
    have hperm := List.mergeSort_perm ps (fun p q : Addr × Wy => decide (p.2 ≤ q.2))
    have hm := map_sortW ps
    generalize ps.mergeSort (fun p q : Addr × Wy => decide (p.2 ≤ q.2)) = qs at *
    obtain ⟨ep, he'⟩ := PyProof.Rows.sortedAll_at s.heap its out.toArray
    exact ⟨.ref _, upd H (s.heap.objs.size + 1) (.lst (qs.map fun p => V.ref p.1)), I.laid (t' := s.toks) (fun _ _ => PyProof.Rows.sortedAll_old) (Nat.le_succ _) ⟨by rw [List.length_map] at hz ⊢; rw [hperm.length_eq]; exact hz, out, ep, vals_refs he, he'⟩, rfl, q3 qs _ hperm hm (I.hok.fresh (Nat.le_succ _))⟩
theorem sortW_perm (ws : List Wy) : (sortW ws).Perm ws := List.mergeSort_perm ws _
theorem sortW_eq {a b : List Wy} (h : a.Perm b) : sortW a = sortW b := by
  have ha : (sortW a).Pairwise (· ≤ ·) := by
    have := List.pairwise_mergeSort (le := fun a b : Wy => decide (a ≤ b)) (fun a b c h1 h2 => by
      simp only [decide_eq_true_eq] at *
      exact List.le_trans h1 h2) (fun a b => by
      simp only [Bool.or_eq_true, decide_eq_true_eq]
      exact List.le_total a b) a
    exact this.imp fun h => of_decide_eq_true h
  have hb : (sortW b).Pairwise (· ≤ ·) := by
    have := List.pairwise_mergeSort (le := fun a b : Wy => decide (a ≤ b)) (fun a b c h1 h2 => by
      simp only [decide_eq_true_eq] at *
      exact List.le_trans h1 h2) (fun a b => by
      simp only [Bool.or_eq_true, decide_eq_true_eq]
      exact List.le_total a b) b
    exact this.imp fun h => of_decide_eq_true h
  have hp : (sortW a).Perm (sortW b) := ((sortW_perm a).trans h).trans (sortW_perm b).symm
  generalize sortW a = x at *
  generalize sortW b = y at *
  clear h
  induction x generalizing y with
  | nil => exact (List.Perm.eq_nil hp.symm).symm
  | cons u x ih =>
    cases y with
    | nil => exact absurd hp.eq_nil (by simp)
    | cons v y =>
      have hu := List.pairwise_cons.mp ha
      have hv := List.pairwise_cons.mp hb
      have e : u = v := by
        rcases List.mem_cons.mp (hp.mem_iff.mp List.mem_cons_self) with z | z
        · exact z
        · rcases List.mem_cons.mp (hp.mem_iff.mpr (List.mem_cons_self (a := v) (l := y))) with z2 | z2
          · exact z2.symm
          · exact List.le_antisymm (hu.1 v z2) (hv.1 u z)
      subst e
      rw [ih hu.2 y hv.2 hp.cons_inv]
end Wk

set_option Elab.async false
set_option linter.all false
set_option maxRecDepth 100000
set_option maxHeartbeats 4000000
namespace Wk
open PySem PySem.Spec PyProof.Rows L2 Evl
/-! _law_pairs: a way and an end of a way that is wished more -/
def hiP (row : List Wy) (low high : Nat) : List Pr := (List.range ((row.getD high []).length - 2)).map fun t => (row.getD low [], (row.getD high []).drop (t + 1))
def loP (row : List Wy) (low : Nat) : List Pr := (List.range low).flatMap (hiP row low)
def roP (row : List Wy) : List Pr := (List.range row.length).flatMap (loP row)
def alP (rows : List (List Wy)) : List Pr := rows.flatMap roP
theorem fm_succ {β : Type} (f : Nat → List β) (n : Nat) : (List.range (n + 1)).flatMap f = (List.range n).flatMap f ++ f n := by
  rw [List.range_succ, List.flatMap_append]
  simp
theorem fm_len {β : Type} {f : Nat → List β} {c : Nat} : ∀ {n : Nat}, (∀ i, i < n → (f i).length ≤ c) → ((List.range n).flatMap f).length ≤ c * n
  | 0, _ => by simp
  | n + 1, h => by
    rw [fm_succ, List.length_append]
    have h1 := fm_len (n := n) fun i hi => h i (by omega)
    have h2 := h n (by omega)
    rw [Nat.mul_succ]
    omega
theorem hiP_len {row : List Wy} {lo hi : Nat} (h8 : ∀ w ∈ row, w.length ≤ 8) : (hiP row lo hi).length ≤ 8 := by
  unfold hiP
  rw [List.length_map, List.length_range]
  by_cases h : hi < row.length
  · have := h8 _ (List.getElem_mem h)
    rw [List.getD_eq_getElem?_getD, List.getElem?_eq_getElem h]
    show row[hi].length - 2 ≤ 8
    omega
  · rw [List.getD_eq_getElem?_getD, List.getElem?_eq_none (by omega)]
    simp
theorem loP_len {row : List Wy} {lo : Nat} (h8 : ∀ w ∈ row, w.length ≤ 8) (n : Nat) : ((List.range n).flatMap (hiP row lo)).length ≤ 8 * n := fm_len fun _ _ => hiP_len h8
theorem roP_len {row : List Wy} (h6 : row.length ≤ 6) (h8 : ∀ w ∈ row, w.length ≤ 8) {n : Nat} (hn : n ≤ row.length) : ((List.range n).flatMap (loP row)).length ≤ 48 * n := fm_len fun i hi => by
  have := loP_len (lo := i) h8 i
  unfold loP
  omega
theorem alP_len : ∀ {rows : List (List Wy)}, (∀ row ∈ rows, row.length ≤ 6 ∧ ∀ w ∈ row, w.length ≤ 8) → (rows.flatMap roP).length ≤ 300 * rows.length
  | [], _ => by simp
  | row :: rows, h => by
    have h1 := alP_len (rows := rows) fun r hr => h r (List.mem_cons_of_mem _ hr)
    obtain ⟨h2, h3⟩ := h row List.mem_cons_self
    have h4 := roP_len h2 h3 (Nat.le_refl row.length)
    rw [List.flatMap_cons, List.length_append, List.length_cons]
    unfold roP at *
    omega
section
variable {P : Program} {w : World} {K : PySem.W.Frag} {mg : Str → Option Value} {base : Heap} {f : Addr} {fd : FuncData}
def spPairs : Sp := fun vs H Q _ => ∃ (v : V) (rows : List (List Wy)), vs = [v] ∧ Dq H v (pd rows) ∧ GW rows ∧ rows.length ≤ 8 ∧ (∀ row ∈ rows, row.length ≤ 6) ∧ ∀ H' l us, Ex H H' → H l = none → H' l = some (.lst us) → PrL H' us (alP rows) → Q (.ref l) H'
abbrev nPairs : List Str := ["_law_lists_here", "_law_pairs_here", "_law_row", "_law_low", "_law_high", "_law_k"]
abbrev sPairs : Stmt := top 36
theorem scPairs : FnScope nPairs ["_law_lists_here"] (defScope sPairs) := ⟨rfl, rfl, rfl, by decide +kernel, rfl, by decide +kernel, by decide +kernel⟩
theorem ok_pairs (B : Bl mg) (F : FnP K "_law_pairs" sPairs f fd) : FnOk P w K mg base CX0 1 f fd ["_law_lists_here"] spPairs := by
  refine F.ok scPairs (fun vs H Q E h => ?_) (fun cdv A outer s H vs Q E hr h => ?_)
  · obtain ⟨v, rows, rfl, _⟩ := h
    rfl
  · obtain ⟨v, rows, rfl, hv, hG, h8, h6, k⟩ := h
    refine ⟨_, pss_cons (ps_set (i := 1) scPairs.nd rfl (Or.inl rfl) (pe_lst pa_nil))
      (pss_cons (ps_for (passes_of rfl) rfl (pi_tupK (K := K) rfl (pv 0)) (pg_name (i := 2) scPairs.nd rfl (Or.inl rfl))
        (pss_one (ps_for (passes_of rfl) rfl (pi_range1 (by rfl) B.range (pa_cons (pe_callB call_len_seq (by rfl) B.len PySem.boot_len (pa_cons (pv 2) pa_nil)) pa_nil)) (pg_name (i := 3) scPairs.nd rfl (Or.inl rfl))
          (pss_one (ps_for (passes_of rfl) rfl (pi_range1 (by rfl) B.range (pa_cons (pv 3) pa_nil)) (pg_name (i := 4) scPairs.nd rfl (Or.inl rfl))
            (pss_one (ps_for (passes_of rfl) rfl (pi_range2 (by rfl) B.range (pa_cons pe_int (pa_cons (pe_op op_sub (pe_callB call_len_seq (by rfl) B.len PySem.boot_len (pa_cons (pe_ix ix_tup (pv 2) (pv 4) (fun _ _ => rfl)) pa_nil)) pe_int) pa_nil))) (pg_name (i := 5) scPairs.nd rfl (Or.inl rfl))
              (pss_one (ps_expr (pe_bm PySem.F.plainAttrs_list PySem.F.slot_list_append PySem.F.type_list_append mt_append (pv 1) (pa_cons (pe_tup (pa_cons (pe_ix ix_tup (pv 2) (pv 3) (fun _ _ => rfl)) (pa_cons (pe_slice sl_tupA (pe_ix ix_tup (pv 2) (pv 4) (fun _ _ => rfl)) (po_some (pv 5)) po_none) pa_nil))) pa_nil)))))))))))
      (pss_one (ps_ret (pv 1)))), ?_⟩
    refine ⟨by show 0 ≤ sizeLine; decide, fun L hL => ?_⟩
    have pw0 : PW L H [] (upd H L (.lst [])) := ⟨hL, Ex.new hL, [], upd_same, .nil⟩
    generalize upd H L (.lst []) = H1 at *
    refine g_name ?_
    dsimp only
    obtain ⟨va, vxs, rfl, hva, hvx⟩ := Dq.seqT (K := K) (ds := rows.map rd) hv
    have hvl := hvx.length
    rw [List.length_map] at hvl
    refine q_forT (K := K) (a := va) (xs := vxs) (ev_var rfl) (hva _ pw0.2.1) (fun i σ' H' => ∃ o2 o3 o4 o5, σ' = [some (.ref va), some (.ref L), o2, o3, o4, o5] ∧ PW L H ((rows.take i).flatMap roP) H') (fun H2 e2 => ⟨none, none, none, none, rfl, pw0.ext e2⟩) (fun i σ' H' _ p => by
      obtain ⟨_, _, _, _, _, p⟩ := p
      exact hva _ p.2.1) ?_ ?_
    · rintro i x σ' H2 hx ⟨o2, o3, o4, o5, rfl, pw⟩
      obtain ⟨rdd, hrd, hxd⟩ := hvx.get hx
      obtain ⟨row, hrow, rfl⟩ : ∃ row, rows[i]? = some row ∧ rdd = rd row := by
        rw [List.getElem?_map] at hrd
        cases hq : rows[i]? with
        | none => rw [hq] at hrd; cases hrd
        | some row => rw [hq] at hrd; exact ⟨row, rfl, (Option.some.inj hrd).symm⟩
      have hr6 := h6 row (List.mem_of_getElem? hrow)
      have hok := hG.ok i row hrow
      obtain ⟨ra, rxs, rfl, hra, hrx⟩ := Dq.seqT (K := K) (ds := row.map wd) hxd
      have hrl := hrx.length
      rw [List.length_map] at hrl
      refine g_name ?_
      rw [take_snoc hrow, List.flatMap_append]
      simp only [List.flatMap_cons, List.flatMap_nil, List.append_nil]
      have hw8 : ∀ w ∈ row, w.length ≤ 8 := fun w hw => (hok w hw).l8
      have hpre : ((rows.take i).flatMap roP).length ≤ 2400 := by
        have := alP_len (rows := rows.take i) fun r hr => ⟨h6 r (List.mem_of_mem_take hr), fun w hw => by
          obtain ⟨m, hm⟩ := List.mem_iff_getElem?.mp (List.mem_of_mem_take hr)
          exact (hG.ok m r hm w hw).l8⟩
        rw [List.length_take] at this
        omega
      generalize (rows.take i).flatMap roP = pre at *
      refine s_forR1 (ea_cons (ev_lenT (K := K) (ev_var rfl) (hra _ pw.2.1)) ea_nil) (n := (rxs.length : Int)) (by omega) (fun lo σ' H' => ∃ o3 o4 o5, σ' = [some (.ref va), some (.ref L), some (.ref ra), o3, o4, o5] ∧ PW L H (pre ++ (List.range lo).flatMap (loP row)) H') (fun H3 e3 => ⟨_, _, _, rfl, by simpa using pw.ext e3⟩) ?_ ?_
      · rintro lo σ' H3 hlo ⟨o3, o4, o5, rfl, pw3⟩
        rw [fm_succ, ← List.append_assoc]
        have hpre2 : (pre ++ (List.range lo).flatMap (loP row)).length ≤ 3000 := by
          have := roP_len (n := lo) hr6 hw8 (by omega)
          rw [List.length_append]
          omega
        generalize pre ++ (List.range lo).flatMap (loP row) = pre2 at *
        refine s_forR1 (ea_cons (ev_var rfl) ea_nil) (n := (lo : Int)) (by omega) (fun hi σ' H' => ∃ o4 o5, σ' = [some (.ref va), some (.ref L), some (.ref ra), some (.int (lo : Int)), o4, o5] ∧ PW L H (pre2 ++ (List.range hi).flatMap (hiP row lo)) H') (fun H4 e4 => ⟨_, _, rfl, by simpa using pw3.ext e4⟩) ?_ ?_
        · rintro hi σ' H4 hhi ⟨o4, o5, rfl, pw4⟩
          rw [fm_succ, ← List.append_assoc]
          have hpre3 : (pre2 ++ (List.range hi).flatMap (hiP row lo)).length ≤ 4000 := by
            have := loP_len (lo := lo) hw8 hi
            rw [List.length_append]
            omega
          generalize pre2 ++ (List.range hi).flatMap (hiP row lo) = pre3 at *
          have hil : hi < row.length := by omega
          have hlol : lo < row.length := by omega
          have hhr : row[hi]? = some row[hi] := List.getElem?_eq_getElem hil
          have hlr : row[lo]? = some row[lo] := List.getElem?_eq_getElem hlol
          have ehi : hiP row lo hi = (List.range (row[hi].length - 2)).map fun t => (row[lo], row[hi].drop (t + 1)) := by
            unfold hiP
            rw [List.getD_eq_getElem?_getD, List.getD_eq_getElem?_getD, hhr, hlr]
            rfl
          rw [ehi]
          have hhk := hok _ (List.getElem_mem hil)
          obtain ⟨hv1, hhv1, hhd⟩ := hrx.at (i := hi) (d := wd row[hi]) (by rw [List.getElem?_map, hhr]; rfl)
          obtain ⟨lv1, hlv1, hld⟩ := hrx.at (i := lo) (d := wd row[lo]) (by rw [List.getElem?_map, hlr]; rfl)
          generalize row[hi] = far at *
          generalize row[lo] = own at *
          obtain ⟨fa, rfl, hfa⟩ := wd_ref hhd
          obtain ⟨oa, rfl, hoa⟩ := wd_ref hld
          have h2l := hhk.l2
          have h8l := hhk.l8
          have ifar : ∀ {H5 : Hp} {o5 : Option V}, Ex H H5 → Ev (tOp (rIxT K) (tVar 2) (tVar 4)) [some (.ref va), some (.ref L), some (.ref ra), some (.int (lo : Int)), some (.int (hi : Int)), o5] H5 (.ref fa) := fun {H5 o5} e => ev_op (ev_var rfl) (ev_var rfl) (rv_ixT (hra _ e) (atI_nat hhv1))
          have iown : ∀ {H5 : Hp} {o5 : Option V}, Ex H H5 → Ev (tOp (rIxT K) (tVar 2) (tVar 3)) [some (.ref va), some (.ref L), some (.ref ra), some (.int (lo : Int)), some (.int (hi : Int)), o5] H5 (.ref oa) := fun {H5 o5} e => ev_op (ev_var rfl) (ev_var rfl) (rv_ixT (hra _ e) (atI_nat hlv1))
          have hlen : Ev (tOp (rI0 fun i j => .int (i - j)) (tCB (rLenS K) (tCons (tOp (rIxT K) (tVar 2) (tVar 4)) tNil)) (tC (.int 1))) [some (.ref va), some (.ref L), some (.ref ra), some (.int (lo : Int)), some (.int (hi : Int)), o5] H4 (.int ((far.length : Int) - 1)) := by
            have q := ev_op (r := rI0 fun i j => .int (i - j)) (ev_lenT (K := K) (ifar (o5 := o5) pw4.2.1) (st_of (pw4.2.1 _ _ hfa))) (ev_c (v := .int 1)) rv_I0
            rw [List.length_map] at q
            exact q
          refine s_forR2 (ea_cons ev_c (ea_cons hlen ea_nil)) (lo := 1) (n := (far.length : Int) - 1) (by omega) (fun t σ' H' => ∃ o5, σ' = [some (.ref va), some (.ref L), some (.ref ra), some (.int (lo : Int)), some (.int (hi : Int)), o5] ∧ PW L H (pre3 ++ (List.range t).map fun t => (own, far.drop (t + 1))) H') (fun H5 e5 => ⟨_, rfl, by simpa using pw4.ext e5⟩) ?_ ?_
          · rintro t σ' H5 ht ⟨o5', rfl, pw5⟩
            obtain ⟨_, p2, us5, p3, _⟩ := id pw5
            refine ⟨.ref L, rfl, .inl ⟨rfl, _, sq_of p3⟩, ?_⟩
            refine iown p2 H5 (Ex.refl _) _ fun H6 e6 => ?_
            have sl := es_sl (K := K) (σ := [some (.ref va), some (.ref L), some (.ref ra), some (.int (lo : Int)), some (.int (hi : Int)), some (.int (1 + (t : Int)))]) (H := H6) (ifar (p2.trans e6)) (eo_some (ev_var (i := 5) rfl)) eo_none (e6 _ _ (p2 _ _ hfa))
            refine sl H6 (Ex.refl _) _ fun pS H7 e7 hS => ⟨by show 2 ≤ sizeLine; decide, fun tA htA => ?_⟩
            rw [show (1 : Int) + (t : Int) = ((t + 1 : Nat) : Int) by omega, cut_from _ (t + 1) (by rw [List.length_map]; omega), ← List.map_drop] at hS
            have e57 := e6.trans e7
            have eT := Ex.new (o := .tup [.ref oa, .ref pS]) htA
            have pwT := (pw5.ext e57).ext eT
            have h7L := e57 _ _ p3
            have nTL : tA ≠ L := fun z => by rw [z, h7L] at htA; cases htA
            have hoaT := eT _ _ (e57 _ _ (p2 _ _ hoa))
            have hLT := eT _ _ h7L
            have nst : ∀ {b : Addr} {xs : List V}, (upd H7 tA (.tup [.ref oa, .ref pS])) b = some (.tup xs) → off L (upd H7 tA (.tup [.ref oa, .ref pS])) b = some (.tup xs) := fun {b xs} hb => (off_at fun z => by rw [z, hLT] at hb; cases hb).trans hb
            obtain ⟨acc, a1, a2, a3⟩ := pwT.put (p := (own, far.drop (t + 1))) (a := .ref oa) (b := .ref pS) (by rw [List.length_append, List.length_map, List.length_range]; omega) (nst upd_same) (wd_of (nst hoaT)) (wd_of (nst (eT _ _ hS)))
            refine ⟨L, acc, .ref tA, rfl, rfl, a1, a2, _, rfl, ?_⟩
            rw [List.range_succ, List.map_append, ← List.append_assoc]
            exact a3
          · rintro σ' H5 ⟨o5', rfl, pw5⟩
            rw [show ((far.length : Int) - 1 - 1).toNat = far.length - 2 by omega] at pw5
            exact ⟨_, _, rfl, pw5⟩
        · rintro σ' H4 ⟨o4, o5, rfl, pw4⟩
          rw [show ((lo : Int)).toNat = lo by omega] at pw4
          exact ⟨_, _, _, rfl, pw4⟩
      · rintro σ' H3 ⟨o3, o4, o5, rfl, pw3⟩
        rw [show ((rxs.length : Int)).toNat = row.length by omega] at pw3
        exact ⟨_, _, _, _, rfl, pw3⟩
    · rintro σ' H2 ⟨o2, o3, o4, o5, rfl, pw⟩
      rw [hvl, List.take_length] at pw
      obtain ⟨p1, p2, us, p3, p4⟩ := pw
      exact ⟨.ref L, rfl, k H2 L us p2 p1 p3 (p4.mono (off_in L H2))⟩
end
end Wk

set_option Elab.async false
set_option linter.all false
set_option maxRecDepth 100000
set_option maxHeartbeats 4000000
namespace Wk
open PySem PySem.Spec PyProof.Rows L2 Evl
/-! ### dicts from ways to ints -/
def tabW (ws : List Wy) (h : Wy → Int) : List (List L2.Key × V) := ws.map fun w => (keyW w, V.int (h w))
def upF (h : Wy → Int) (a : Wy) (v : Int) : Wy → Int := fun x => if x = a then v else h x
theorem tabW_keys (ws : List Wy) (h : Wy → Int) : (tabW ws h).map (·.1) = ws.map keyW := by
  unfold tabW
  rw [List.map_map]
  rfl
theorem tabW_val {h : Wy → Int} {a : Wy} : ∀ {ws : List Wy}, a ∈ ws → valV (tabW ws h) (keyW a) = some (.int (h a))
  | [], hm => by cases hm
  | w :: ws, hm => by
    by_cases e : w = a
    · subst e
      exact valV_pos rfl
    · show valV ((keyW w, V.int (h w)) :: tabW ws h) _ = _
      rw [valV_neg fun z => e (keyW_inj z)]
      refine tabW_val ?_
      rcases List.mem_cons.mp hm with z | z
      · exact absurd z.symm e
      · exact z
theorem tabW_none {h : Wy → Int} {a : Wy} : ∀ {ws : List Wy}, a ∉ ws → valV (tabW ws h) (keyW a) = none
  | [], _ => rfl
  | w :: ws, hm => by
    show valV ((keyW w, V.int (h w)) :: tabW ws h) _ = _
    rw [valV_neg fun z => hm (by rw [keyW_inj z]; exact List.mem_cons_self)]
    exact tabW_none fun z => hm (List.mem_cons_of_mem _ z)
theorem tabW_put {h : Wy → Int} {a : Wy} {v : Int} {ws : List Wy} (hm : a ∈ ws) : putK (tabW ws h) (keyW a) (.int v) = tabW ws (upF h a v) := by
  unfold putK
  rw [if_pos]
  · unfold tabW
    rw [List.map_map]
    refine List.map_congr_left fun w _ => ?_
    show (if keyW w = keyW a then (keyW w, V.int v) else (keyW w, V.int (h w))) = (keyW w, V.int (upF h a v w))
    unfold upF
    by_cases e : w = a
    · rw [if_pos (by rw [e]), if_pos e]
    · rw [if_neg fun z => e (keyW_inj z), if_neg e]
  · rw [valV_any, tabW_val hm]
    rfl
theorem tabW_new {h : Wy → Int} {a : Wy} {ws : List Wy} (hm : a ∉ ws) : putK (tabW ws h) (keyW a) (.int (h a)) = tabW (ws ++ [a]) h := by
  rw [put_new]
  · unfold tabW
    rw [List.map_append]
    rfl
  · rw [tabW_keys]
    intro z
    obtain ⟨w, hw, e⟩ := List.mem_map.mp z
    rw [keyW_inj e] at hw
    exact hm hw
theorem tabW_len (ws : List Wy) (h : Wy → Int) : (tabW ws h).length = ws.length := List.length_map _
section
variable {P : Program} {w : World} {K : PySem.W.Frag} {mg : Str → Option Value} {base : Heap} {f : Addr} {fd : FuncData}
/-! _law_ways -/
def spLWays : Sp := fun vs H Q _ => ∃ (v : V) (rows : List (List Wy)), vs = [v] ∧ Dq H v (pd rows) ∧ GW rows ∧ rows.length ≤ 8 ∧ (∀ row ∈ rows, row.length ≤ 6) ∧ ∀ H' l us, Ex H H' → H l = none → H' l = some (.lst us) → DqA H' us ((sortW rows.flatten).map wd) → Q (.ref l) H'
abbrev nLWays : List Str := ["_law_lists_here", "_law_every", "_law_row"]
abbrev sLWays : Stmt := top 37
theorem scLWays : FnScope nLWays ["_law_lists_here"] (defScope sLWays) := ⟨rfl, rfl, rfl, by decide +kernel, rfl, by decide +kernel, by decide +kernel⟩
theorem ok_lways (B : Bl mg) (hso : mg "sorted" = none) (F : FnP K "_law_ways" sLWays f fd) : FnOk P w K mg base CX0 2 f fd ["_law_lists_here"] spLWays := by
  refine F.ok scLWays (fun vs H Q E h => ?_) (fun cdv A outer s H vs Q E hr h => ?_)
  · obtain ⟨v, rows, rfl, _⟩ := h
    rfl
  · obtain ⟨v, rows, rfl, hv, hG, h8, h6, k⟩ := h
    have hu : (A.deeper (envOfC "_law_ways" (defScope sLWays) s.heap.objs.size f cdv)).units + 70 < cLine := by have := hr.un; omega
    refine ⟨_, pss_cons (ps_set (i := 1) scLWays.nd rfl (Or.inl rfl) (pe_lst pa_nil))
      (pss_cons (ps_for (passes_of rfl) rfl (pi_tupK (K := K) rfl (pv 0)) (pg_name (i := 2) scLWays.nd rfl (Or.inl rfl))
        (pss_one (ps_set (i := 1) scLWays.nd rfl (Or.inl rfl) (pe_op op_cat (pv 1) (pe_callTy (call_listK2 (K := K) rfl) (by rfl) B.list PyProof.Rows.boot_list (pa_cons (pv 2) pa_nil))))))
      (pss_one (ps_ret (pe_callB (cr_sortW (K := K) rfl hu) (by rfl) hso PyProof.Rows.boot_sorted (pa_cons (pv 1) pa_nil))))), ?_⟩
    refine ⟨by show 0 ≤ sizeLine; decide, fun L hL => ?_⟩
    have eL := Ex.new (o := .lst []) hL
    have hL1 : (upd H L (.lst [])) L = some (.lst []) := upd_same
    generalize upd H L (.lst []) = H1 at *
    refine g_name ?_
    dsimp only
    obtain ⟨va, vxs, rfl, hva, hvx⟩ := Dq.seqT (K := K) (ds := rows.map rd) hv
    have hvl := hvx.length
    rw [List.length_map] at hvl
    have hlf : ∀ i, ((rows.take i).flatten).length ≤ 48 := fun i => by
      have := len_flat (rows := rows.take i) fun row hm => h6 row (List.mem_of_mem_take hm)
      rw [List.length_take] at this
      omega
    refine q_forT (K := K) (a := va) (xs := vxs) (ev_var rfl) (hva _ eL) (fun i σ' H' => ∃ b bs o2, σ' = [some (.ref va), some (.ref b), o2] ∧ Ex H H' ∧ H b = none ∧ H' b = some (.lst bs) ∧ DqA H' bs (((rows.take i).flatten).map wd)) (fun H2 e2 => ⟨L, [], none, rfl, eL.trans e2, hL, e2 _ _ hL1, .nil⟩) (fun i σ' H' _ p => by
      obtain ⟨_, _, _, _, p, _⟩ := p
      exact hva _ p) ?_ ?_
    · rintro i x σ' H2 hx ⟨b, bs, o2, rfl, e2, hb0, hb, hd⟩
      obtain ⟨rdd, hrd, hxd⟩ := hvx.get hx
      obtain ⟨row, hrow, rfl⟩ : ∃ row, rows[i]? = some row ∧ rdd = rd row := by
        rw [List.getElem?_map] at hrd
        cases hq : rows[i]? with
        | none => rw [hq] at hrd; cases hrd
        | some row => rw [hq] at hrd; exact ⟨row, rfl, (Option.some.inj hrd).symm⟩
      obtain ⟨ra, rxs, rfl, hra, hrx⟩ := Dq.seqT (K := K) (ds := row.map wd) hxd
      have hrl := hrx.length
      rw [List.length_map] at hrl
      have hr6 := h6 row (List.mem_of_getElem? hrow)
      have hbl := hd.length
      rw [List.length_map] at hbl
      have := hlf i
      refine g_name ?_
      refine ⟨.ref b, rfl, .ref ra, rfl, ra, rxs, rfl, .inr (hra _ e2), fun l2 hl2 => ?_⟩
      have e3 := Ex.new (o := .lst rxs) hl2
      refine ⟨b, l2, bs, rxs, rfl, rfl, e3 _ _ hb, upd_same, sz_of (by omega), fun l3 hl3 => ?_⟩
      have e4 := Ex.new (o := .lst (bs ++ rxs)) hl3
      refine ⟨l3, _, _, rfl, (e2.trans e3).trans e4, fresh_back (e2.trans e3) hl3, upd_same, ?_⟩
      rw [take_snoc hrow, List.flatten_append, List.map_append]
      simp only [List.flatten_cons, List.flatten_nil, List.append_nil]
      exact (hd.mono (e3.trans e4)).append (hrx.mono ((e2.trans e3).trans e4))
    · rintro σ' H2 ⟨b, bs, o2, rfl, e2, hb0, hb, hd⟩
      rw [hvl, List.take_length] at hd
      obtain ⟨ps, rfl, hps, hpt⟩ := ps_of hd
      refine ret_cb ?_
      refine ⟨.ref b, rfl, b, ps, rfl, sq_of hb, fun p hp => st_of (hpt p hp), fun p hp z => ?_, fun qs D hq hs hD => ?_⟩
      · have hm : p.2 ∈ rows.flatten := by rw [hps]; exact List.mem_map.mpr ⟨p, hp, rfl⟩
        obtain ⟨row, hr, hw⟩ := List.mem_flatten.mp hm
        obtain ⟨i, hi⟩ := List.mem_iff_getElem?.mp hr
        have := (hG.ok i row hi _ hw).l2
        rw [z] at this
        simp at this
      · rw [← hps] at hs
        refine k _ D _ (e2.trans (Ex.new hD)) (fresh_back e2 hD) upd_same ?_
        rw [← hs]
        exact (dq_ps fun a ha => hpt a (hq.mem_iff.mp ha)).mono (Ex.new hD)
end
end Wk

set_option Elab.async false
set_option linter.all false
set_option maxRecDepth 100000
set_option maxHeartbeats 4000000
namespace Wk
open PySem PySem.Spec PyProof.Rows L2 Evl
/-! _law_heights -/
def stepH (s : (Wy → Int) × Bool) (p : Pr) : (Wy → Int) × Bool := if s.1 p.1 ≤ s.1 p.2 then (upF s.1 p.1 (s.1 p.2 + 1), true) else s
def passH (ps : List Pr) (h : Wy → Int) : (Wy → Int) × Bool := ps.foldl stepH (h, false)
def hgt (ps : List Pr) : Nat → (Wy → Int) → Option (Wy → Int)
  | 0, _ => none
  | m + 1, h => if (passH ps h).2 = true then hgt ps m (passH ps h).1 else some (passH ps h).1
theorem hgt_succ (ps : List Pr) (m : Nat) (h : Wy → Int) : hgt ps (m + 1) h = if (passH ps h).2 = true then hgt ps m (passH ps h).1 else some (passH ps h).1 := rfl
theorem gw_drop {rows : List (List Wy)} (h : GW rows) {w : Wy} (hw : w ∈ rows.flatten) : ∀ k, k + 2 ≤ w.length → w.drop k ∈ rows.flatten
  | 0, _ => by simpa using hw
  | k + 1, hk => by
    have ih := gw_drop h hw k (by omega)
    obtain ⟨row, hr, hm⟩ := List.mem_flatten.mp ih
    obtain ⟨i, hi⟩ := List.mem_iff_getElem?.mp hr
    have e : (w.drop k).drop 1 = w.drop (k + 1) := by rw [List.drop_drop]
    rcases h.rest i row hi _ hm with z | ⟨j, row', _, z2, z3⟩
    · rw [e] at z
      have := congrArg List.length z
      rw [List.length_drop] at this
      simp at this
      omega
    · rw [e] at z3
      exact List.mem_flatten.mpr ⟨row', List.mem_of_getElem? z2, z3⟩
/-- a pair: a way, an end of one that is wished more -/
theorem mem_alP {rows : List (List Wy)} {p : Pr} : p ∈ alP rows ↔ ∃ row ∈ rows, ∃ (lo hi : Nat) (own far : Wy) (t : Nat), hi < lo ∧ row[lo]? = some own ∧ row[hi]? = some far ∧ t + 2 < far.length ∧ p = (own, far.drop (t + 1)) := by
  unfold alP roP loP
  simp only [List.mem_flatMap, List.mem_range]
  constructor
  · rintro ⟨row, hr, lo, hlo, hi, hhi, hp⟩
    unfold hiP at hp
    obtain ⟨t, ht, rfl⟩ := List.mem_map.mp hp
    have ht := List.mem_range.mp ht
    have hhr : row[hi]? = some row[hi] := List.getElem?_eq_getElem (by omega)
    have hlr : row[lo]? = some row[lo] := List.getElem?_eq_getElem hlo
    rw [List.getD_eq_getElem?_getD, List.getD_eq_getElem?_getD, hhr, hlr]
    rw [List.getD_eq_getElem?_getD, hhr] at ht
    exact ⟨row, hr, lo, hi, row[lo], row[hi], t, hhi, hlr, hhr, by have : t < row[hi].length - 2 := ht; omega, rfl⟩
  · rintro ⟨row, hr, lo, hi, own, far, t, h1, h2, h3, h4, rfl⟩
    refine ⟨row, hr, lo, (List.getElem?_eq_some_iff.mp h2).1, hi, h1, ?_⟩
    unfold hiP
    refine List.mem_map.mpr ⟨t, List.mem_range.mpr ?_, ?_⟩
    · rw [List.getD_eq_getElem?_getD, h3]
      show t < far.length - 2
      omega
    · rw [List.getD_eq_getElem?_getD, List.getD_eq_getElem?_getD, h3, h2]
      rfl
theorem alP_in {rows : List (List Wy)} (hG : GW rows) {p : Pr} (h : p ∈ alP rows) : p.1 ∈ rows.flatten ∧ p.2 ∈ rows.flatten := by
  obtain ⟨row, hr, lo, hi, own, far, t, h1, h2, h3, h4, rfl⟩ := mem_alP.mp h
  refine ⟨List.mem_flatten.mpr ⟨row, hr, List.mem_of_getElem? h2⟩, gw_drop hG (List.mem_flatten.mpr ⟨row, hr, List.mem_of_getElem? h3⟩) (t + 1) (by omega)⟩
section
variable {σ : L2.St} {H : Hp} {td ty : TE}
theorem ev_dgetT {D b : Addr} {kvs : List (List L2.Key × V)} {w : Wy} {v : V} (hd : Ev td σ H (.ref D)) (hy : Ev ty σ H (.ref b)) (hD : H D = some (.dT kvs)) (hb : H b = some (.tup (w.map V.int))) (hv : valV kvs (keyW w) = some v) : Ev (tDGet td ty) σ H v := fun H1 e Q q =>
  hd H1 e _ fun H2 e2 => hy H2 (e.trans e2) _ fun H3 e3 => by
    have e' := (e.trans e2).trans e3
    refine ⟨D, v, rfl, ?_, q H3 (e2.trans e3)⟩
    rw [← hv]
    exact DGet.t (e' _ _ hD) (by rw [keyW_kV]; exact e' _ _ hb)
theorem ev_lenD {K : PySem.W.Frag} {D : Addr} {kvs : List (List L2.Key × V)} (hd : Ev td σ H (.ref D)) (hD : H D = some (.dT kvs)) (hl : kvs.length ≤ 100000) : Ev (tCB rLenT (tCons td tNil)) σ H (.int (kvs.length : Int)) := fun H1 e Q q =>
  hd H1 e _ fun H2 e2 => ⟨D, kvs, rfl, (e.trans e2) _ _ hD, q H2 e2⟩
end
section
variable {P : Program} {w : World} {K : PySem.W.Frag} {mg : Str → Option Value} {base : Heap} {f : Addr} {fd : FuncData}
def spHgt : Sp := fun vs H Q _ => ∃ (v : V) (rows : List (List Wy)), vs = [v] ∧ Dq H v (pd rows) ∧ GW rows ∧ rows.length ≤ 8 ∧ (∀ row ∈ rows, row.length ≤ 6) ∧ (hgt (alP rows) (rows.flatten.length + 1) (fun _ => 0) = none → ∀ H', Ex H H' → Q .non H') ∧ (hgt (alP rows) (rows.flatten.length + 1) (fun _ => 0) ≠ none → ∀ H' D, Ex H H' → Q (.ref D) H')
abbrev nHgt : List Str := ["_law_lists_here", "_law_pairs_here", "_law_heights_here", "_law_way", "_law_turn", "_law_changed", "_law_pair"]
abbrev sHgt : Stmt := top 38
theorem scHgt : FnScope nHgt ["_law_lists_here"] (defScope sHgt) := ⟨rfl, rfl, rfl, by decide +kernel, rfl, by decide +kernel, by decide +kernel⟩
theorem ok_hgt (B : Bl mg) (CP : Cal P w K mg base "_law_pairs" ["_law_lists_here"] 1 spPairs) (CW : Cal P w K mg base "_law_ways" ["_law_lists_here"] 2 spLWays) (F : FnP K "_law_heights" sHgt f fd) : FnOk P w K mg base CX0 3 f fd ["_law_lists_here"] spHgt := by
  refine F.ok scHgt (fun vs H Q E h => ?_) (fun cdv A outer s H vs Q E hr h => ?_)
  · obtain ⟨v, rows, rfl, _⟩ := h
    rfl
  · obtain ⟨v, rows, rfl, hv, hG, h8, h6, kN, kS⟩ := h
    have hu : (A.deeper (envOfC "_law_heights" (defScope sHgt) s.heap.objs.size f cdv)).units + 1 < cLine := by have := hr.un; omega
    have hr1 : Room 1 _ := hr.mono (by decide)
    refine ⟨_, pss_cons (ps_set (i := 1) scHgt.nd rfl (Or.inl rfl) (pe_cal CP hr1 (by rfl) (pa_cons (pv 0) pa_nil)))
      (pss_cons (ps_set (i := 2) scHgt.nd rfl (Or.inl rfl) pe_dnewT)
      (pss_cons (ps_for (passes_of rfl) rfl (pi_listK (K := K) rfl (pe_cal CW hr (by rfl) (pa_cons (pv 0) pa_nil))) (pg_name (i := 3) scHgt.nd rfl (Or.inl rfl)) (pss_one (ps_dput hu (pv 2) (pv 3) pe_int rfl)))
      (pss_cons (ps_for (passes_of rfl) rfl (pi_range1 (by rfl) B.range (pa_cons (pe_op op_add (pe_callB call_len_dT (by rfl) B.len PySem.boot_len (pa_cons (pv 2) pa_nil)) pe_int) pa_nil)) (pg_name (i := 4) scHgt.nd rfl (Or.inl rfl))
        (pss_cons (ps_set (i := 5) scHgt.nd rfl (Or.inl rfl) pe_bl)
        (pss_cons (ps_for (passes_of rfl) rfl (pi_list (pv 1)) (pg_name (i := 6) scHgt.nd rfl (Or.inl rfl))
          (pss_one (ps_if (pt_cmpR op_le (pe_dget hu (pv 2) (pe_ix ix_tup (pv 6) pe_int (fun _ _ => rfl)) (fun _ _ => rfl)) (pe_dget hu (pv 2) (pe_ix ix_tup (pv 6) pe_int (fun _ _ => rfl)) (fun _ _ => rfl)) (nomark _))
            (pss_cons (ps_dput hu (pv 2) (pe_ix ix_tup (pv 6) pe_int (fun _ _ => rfl)) (pe_op op_add (pe_dget hu (pv 2) (pe_ix ix_tup (pv 6) pe_int (fun _ _ => rfl)) (fun _ _ => rfl)) pe_int) rfl) (pss_one (ps_set (i := 5) scHgt.nd rfl (Or.inl rfl) pe_bl))) pss_nil)))
        (pss_one (ps_if (pt_not (pt_val (pv 5))) (pss_one (ps_ret (pv 2))) pss_nil)))))
      (pss_one (ps_ret pe_non))))), ?_⟩
    have hlf := len_flat h6
    have hnd : (sortW rows.flatten).Nodup := (sortW_perm _).nodup_iff.mpr (gw_flat_nd hG)
    have hsl : (sortW rows.flatten).length = rows.flatten.length := (sortW_perm _).length_eq
    have hsm : ∀ x, x ∈ sortW rows.flatten ↔ x ∈ rows.flatten := fun x => (sortW_perm _).mem_iff
    refine ⟨v, rfl, v, rows, rfl, hv, hG, h8, h6, fun H1 L us e1 hL hL1 hP1 => ?_⟩
    refine g_name ?_
    intro Dh hDh
    have e2 := Ex.new (o := .dT []) hDh
    have hD2 : (upd H1 Dh (.dT [])) Dh = some (.dT []) := upd_same
    have hP2 := hP1.mono e2
    have hL2 := e2 _ _ hL1
    have e02 := e1.trans e2
    have hDh0 := fresh_back e1 hDh
    generalize upd H1 Dh (.dT []) = H2 at *
    refine g_name ?_
    dsimp only
    have nLD : L ≠ Dh := fun z => by rw [z, hD2] at hL2; cases hL2
    refine q_forC (K := K) (fun l xs H3 => Ex H2 H3 ∧ H2 l = none ∧ H3 l = some (.lst xs) ∧ DqA H3 xs ((sortW rows.flatten).map wd)) (fun Q' q => ⟨v, rfl, v, rows, rfl, hv.mono e02, hG, h8, h6, fun H3 l us e hl h3 hd => q l us H3 ⟨e, hl, h3, hd⟩⟩) ?_
    rintro l xs H3 ⟨e3, hl, h3, hd3⟩
    have nlD : l ≠ Dh := fun z => by rw [z, hD2] at hl; cases hl
    generalize hws : sortW rows.flatten = ws at *
    have hxl := hd3.length
    rw [List.length_map] at hxl
    have hD3 := e3 _ _ hD2
    have hP3 := hP2.mono e3
    have hL3 := e3 _ _ hL2
    refine ⟨sq_of h3, fun i σ' H' => ∃ o3, σ' = [some v, some (.ref L), some (.ref Dh), o3, none, none, none] ∧ (∀ b o, b ≠ Dh → H3 b = some o → H' b = some o) ∧ H' Dh = some (.dT (tabW (ws.take i) fun _ => 0)), ⟨none, rfl, fun _ _ _ z => z, hD3⟩, fun i σ' H' _ p => ?_, ?_, ?_⟩
    · obtain ⟨_, _, p2, _⟩ := p
      exact sq_of (p2 _ _ nlD h3)
    · rintro i x σ' H4 hx ⟨o3, rfl, hst, hD4⟩
      obtain ⟨wy, hwy, hdw⟩ := hd3.wds_inv hx
      obtain ⟨oa, rfl, hoa⟩ := wd_ref hdw
      have hil := (List.getElem?_eq_some_iff.mp hwy).1
      have hoa4 := hst _ _ (fun z => by rw [z, hD3] at hoa; cases hoa) hoa
      refine g_name ?_
      refine ⟨.ref Dh, rfl, .ref oa, rfl, Dh, _, rfl, DPut.t (k := keyW wy) hD4 (by rw [keyW_kV]; exact hoa4) (by rw [tabW_len, List.length_take]; exact sz_lt (by omega)), ?_⟩
      rw [tabW_new (h := fun _ => 0) (nd_take hnd hwy), ← take_snoc hwy]
      exact ⟨_, rfl, fun b o nb hb => by rw [upd_ne nb]; exact hst b o nb hb, upd_same⟩
    · rintro σ' H4 ⟨o3, rfl, hst, hD4⟩
      rw [List.take_of_length_le (by omega)] at hD4
      have hP4 : PrL H4 us (alP rows) := hP3.tk fun b xs hb => hst b _ (fun z => by rw [z, hD3] at hb; cases hb) hb
      have hL4 := hst _ _ nLD hL3
      have ex4 : ∀ {H' : Hp}, (∀ b o, b ≠ Dh → H4 b = some o → H' b = some o) → Ex H H' := fun {H'} st b o hb => st b o (fun z => by rw [z, hDh0] at hb; cases hb) (hst b o (fun z => by rw [z, hDh0] at hb; cases hb) (e3 _ _ (e02 _ _ hb)))
      have hpl := hP4.length
      have hal : (alP rows).length ≤ 2400 := by
        have := alP_len (rows := rows) fun r hr => ⟨h6 r hr, fun w hw => by
          obtain ⟨m, hm⟩ := List.mem_iff_getElem?.mp hr
          exact (hG.ok m r hm w hw).l8⟩
        unfold alP
        omega
      have hlenD : Ev (tOp (rI0 fun i j => .int (i + j)) (tCB rLenT (tCons (tVar 2) tNil)) (tC (.int 1))) [some v, some (.ref L), some (.ref Dh), o3, none, none, none] H4 (.int ((ws.length : Int) + 1)) := by
        have q := ev_op (r := rI0 fun i j => .int (i + j)) (ev_lenD (K := K) (td := tVar 2) (σ := [some v, some (.ref L), some (.ref Dh), o3, none, none, none]) (ev_var rfl) hD4 (by rw [tabW_len]; omega)) (ev_c (v := .int 1)) rv_I0
        rw [tabW_len] at q
        exact q
      refine q_forR1 (ea_cons hlenD ea_nil) (n := (ws.length : Int) + 1) (by omega) (fun t σ' H' => ∃ (o4 o5 o6 : Option V) (h : Wy → Int), σ' = [some v, some (.ref L), some (.ref Dh), o3, o4, o5, o6] ∧ (∀ b o, b ≠ Dh → H4 b = some o → H' b = some o) ∧ H' Dh = some (.dT (tabW ws h)) ∧ hgt (alP rows) (rows.flatten.length + 1) (fun _ => 0) = hgt (alP rows) (rows.flatten.length + 1 - t) h) (fun H5 e5 => ⟨none, none, none, _, rfl, fun b o _ hb => e5 b o hb, e5 _ _ hD4, rfl⟩) ?_ ?_
      · rintro t σ' H5 ht ⟨o4, o5, o6, h, rfl, hst5, hD5, hg5⟩
        refine q_c ?_
        change tSeq (tFor _ _ _) _ _ [some v, some (.ref L), some (.ref Dh), o3, some (.int (t : Int)), some (.bl false), o6] H5
        refine q_forL (K := K) (ev_var rfl) (sq_of (hst5 _ _ nLD hL4)) (fun j σ' H' => ∃ (o6 : Option V) (h' : Wy → Int) (c : Bool), σ' = [some v, some (.ref L), some (.ref Dh), o3, some (.int (t : Int)), some (.bl c), o6] ∧ (∀ b o, b ≠ Dh → H4 b = some o → H' b = some o) ∧ H' Dh = some (.dT (tabW ws h')) ∧ ((alP rows).take j).foldl stepH (h, false) = (h', c)) (fun H6 e6 => ⟨_, h, false, rfl, fun b o nb hb => e6 _ _ (hst5 b o nb hb), e6 _ _ hD5, rfl⟩) (fun j σ' H' _ p => by
          obtain ⟨_, _, _, _, p, _⟩ := p
          exact sq_of (p _ _ nLD hL4)) ?_ ?_
        · rintro j x σ' H6 hx ⟨o6', h', c, rfl, hst6, hD6, hf⟩
          obtain ⟨pt, a, b, p, rfl, hp, hpt, hda, hdb⟩ := hP4.at hx
          obtain ⟨aa, rfl, haa⟩ := wd_ref hda
          obtain ⟨ba, rfl, hba⟩ := wd_ref hdb
          have tk : ∀ {b : Addr} {ys : List V}, H4 b = some (.tup ys) → H6 b = some (.tup ys) := fun {b ys} hb => hst6 b _ (fun z => by rw [z, hD4] at hb; cases hb) hb
          obtain ⟨i1, i2⟩ := alP_in hG (List.mem_of_getElem? hp)
          have m1 : p.1 ∈ ws := (hsm _).mpr i1
          have m2 : p.2 ∈ ws := (hsm _).mpr i2
          have hf2 : ((alP rows).take (j + 1)).foldl stepH (h, false) = stepH (h', c) p := by rw [take_snoc hp, List.foldl_append, hf]; rfl
          refine g_name ?_
          have ia : ∀ {H7 : Hp}, Ex H6 H7 → Ev (tOp (rIxT K) (tVar 6) (tC (.int 0))) [some v, some (.ref L), some (.ref Dh), o3, some (.int (t : Int)), some (.bl c), some (.ref pt)] H7 (.ref aa) := fun {H7} e => ev_op (ev_var rfl) ev_c (rv_ixT (st_of (e _ _ (tk hpt))) (atI_nat (j := 0) rfl))
          have ib : ∀ {H7 : Hp}, Ex H6 H7 → Ev (tOp (rIxT K) (tVar 6) (tC (.int 1))) [some v, some (.ref L), some (.ref Dh), o3, some (.int (t : Int)), some (.bl c), some (.ref pt)] H7 (.ref ba) := fun {H7} e => ev_op (ev_var rfl) ev_c (rv_ixT (st_of (e _ _ (tk hpt))) (atI_nat (j := 1) rfl))
          have da : ∀ {H7 : Hp}, Ex H6 H7 → Ev (tDGet (tVar 2) (tOp (rIxT K) (tVar 6) (tC (.int 0)))) [some v, some (.ref L), some (.ref Dh), o3, some (.int (t : Int)), some (.bl c), some (.ref pt)] H7 (.int (h' p.1)) := fun {H7} e => ev_dgetT (ev_var rfl) (ia e) (e _ _ hD6) (e _ _ (tk haa)) (tabW_val m1)
          have db : ∀ {H7 : Hp}, Ex H6 H7 → Ev (tDGet (tVar 2) (tOp (rIxT K) (tVar 6) (tC (.int 1)))) [some v, some (.ref L), some (.ref Dh), o3, some (.int (t : Int)), some (.bl c), some (.ref pt)] H7 (.int (h' p.2)) := fun {H7} e => ev_dgetT (ev_var rfl) (ib e) (e _ _ hD6) (e _ _ (tk hba)) (tabW_val m2)
          refine s_when (b := decide (h' p.1 ≤ h' p.2)) (et_test (ev_op (da (Ex.refl _)) (db (Ex.refl _)) rv_I0)) (fun hb H7 e7 => ?_) (fun hb H7 e7 => ?_)
          · have hle := of_decide_eq_true hb
            have es : stepH (h', c) p = (upF h' p.1 (h' p.2 + 1), true) := by unfold stepH; rw [if_pos hle]
            have q := ev_op (r := rI0 fun i j => .int (i + j)) (db e7) (ev_c (v := .int 1)) rv_I0
            refine q H7 (Ex.refl _) _ fun H8 e8 => ?_
            refine ⟨.ref Dh, rfl, ia (e7.trans e8) H8 (Ex.refl _) _ fun H9 e9 => ?_⟩
            have e79 := (e7.trans e8).trans e9
            refine ⟨Dh, _, rfl, DPut.t (k := keyW p.1) (e79 _ _ hD6) (by rw [keyW_kV]; exact e79 _ _ (tk haa)) (by rw [tabW_len]; exact sz_lt (by omega)), ?_⟩
            rw [tabW_put m1]
            exact ⟨_, _, true, rfl, fun b o nb hb => by rw [upd_ne nb]; exact e79 _ _ (hst6 b o nb hb), upd_same, by rw [hf2, es]⟩
          · have hle := of_decide_eq_false hb
            have es : stepH (h', c) p = (h', c) := by unfold stepH; rw [if_neg hle]
            exact ⟨_, h', c, rfl, fun b o nb hb => e7 _ _ (hst6 b o nb hb), e7 _ _ hD6, by rw [hf2, es]⟩
        · rintro σ' H6 ⟨o6', h', c, rfl, hst6, hD6, hf⟩
          rw [hpl, List.take_length] at hf
          have hfp : passH (alP rows) h = (h', c) := hf
          have hgs : hgt (alP rows) (rows.flatten.length + 1 - t) h = if c = true then hgt (alP rows) (rows.flatten.length + 1 - (t + 1)) h' else some h' := by
            have e : rows.flatten.length + 1 - t = (rows.flatten.length + 1 - (t + 1)) + 1 := by omega
            rw [e, hgt_succ, hfp]
          refine s_when (b := !c) (et_not (et_B (ev_var rfl))) (fun hb H7 e7 => ?_) (fun hb H7 e7 => ?_)
          · have hc : c = false := by simpa using hb
            rw [hc] at hgs
            exact ⟨.ref Dh, rfl, kS (by rw [hg5, hgs]; simp) H7 Dh ((ex4 hst6).trans e7)⟩
          · have hc : c = true := by simpa using hb
            rw [hc, if_pos rfl] at hgs
            exact ⟨_, _, _, h', rfl, fun b o nb hb => e7 _ _ (hst6 b o nb hb), e7 _ _ hD6, by rw [hg5, hgs]⟩
      · rintro σ' H5 ⟨o4, o5, o6, h, rfl, hst5, hD5, hg5⟩
        rw [show (((ws.length : Int) + 1)).toNat = rows.flatten.length + 1 by omega, Nat.sub_self] at hg5
        exact kN (by rw [hg5]; rfl) H5 (ex4 hst5)
end
end Wk

set_option Elab.async false
set_option linter.all false
set_option maxRecDepth 100000
set_option maxHeartbeats 4000000
namespace Wk
open PySem PySem.Spec PyProof.Rows L2 Evl
/-! for k, v in d.items(), d a dict whose keys are tuples -/
section
variable {X : Cx} {pins : List (Addr × Obj)} {σ : L2.St} {H : Hp} {s : Shared} {d : Addr} {o : Obj}
theorem frzTi {kvs : List (List L2.Key × V)} (I : Inv X pins σ H s) (h : H d = some (.frz o (.dT kvs))) :
    (d == sysModules) = false ∧ s.heap.get? d = some o ∧ o.ExactDict ∧ ∃ (es : Array DictEntry) (ep : Nat), o.data = .dict es ep ∧ es.size = kvs.length ∧
      ∀ (i : Nat) (k : List L2.Key) (v : V), kvs[i]? = some (k, v) → ∃ (en : DictEntry) (q : Addr), es[i]? = some en ∧ en.key = .ref q ∧ H q = some (.tup (k.map kV)) ∧ RelV v en.val := by
  obtain ⟨hd, z, hs, xs, pr, o', es, ep, ho, hx, hdt, he, _⟩ := I.hok d _ h
  rw [hd] at ho
  cases ho
  refine ⟨hs, hd, hx, es, ep, hdt, ?_, fun i k v e => ?_⟩
  · have l1 : es.size = xs.length := size_of_entries he
    have l2 : kvs.length = xs.length := Paired.length pr
    omega
  · obtain ⟨b, hb, e1, e2, e3⟩ := L2.paired_get pr e
    have q := entry_at he i
    rw [hb] at q
    exact ⟨_, b.2.1, q, rfl, e2, e3⟩
end
/-- the pairs, each a new tuple of the key's own tuple and the value -/
def Itit (d : Addr) (o : Obj) (kvs : List (List L2.Key × V)) : It :=
  ⟨fun i H => H d = some (.frz o (.dT kvs)) ∧ i < kvs.length, fun i H x H' => ∃ T k v q, kvs[i]? = some (k, v) ∧ x = .ref T ∧ H T = none ∧ H q = some (.tup (k.map kV)) ∧ H' = upd H T (.tup [.ref q, v]), fun i H => H d = some (.frz o (.dT kvs)) ∧ kvs.length ≤ i⟩
section
variable {P : Program} {w : World} {K : PySem.W.Frag} {d : Addr} {o : Obj} {es : Array DictEntry} {ep : Nat}
theorem turn_itemsT {kvs : List (List L2.Key × V)} {elts : List Expr} {kk : Nat} {tpos : Pos} (it : Addr) (hod : o.data = .dict es ep) :
    Turn P w K (.Tuple elts kk tpos) (Itit d o kvs) [it] it (fun i h => ∃ ok ov, IsItemIter h it d i kvs.length ep ok ov) where
  mem := by simp
  obj := fun i h st b hb => by
    have e : b = it := by simpa using hb
    subst e
    obtain ⟨ok, ov, e⟩ := st
    exact ⟨_, e, fun v z => nomatch z⟩
  keep := fun i h h' st k => let ⟨ok, ov, e⟩ := st; ⟨ok, ov, k it (by simp) _ e⟩
  item := by
    intro X hP hw hK hc i pins s σ H E I hf st hg
    subst hP hw hK
    obtain ⟨hd, hi⟩ := hg
    obtain ⟨hs, hgd, hx, es', ep', hdt, hsz, ent⟩ := frzTi I hd
    obtain ⟨rfl, rfl⟩ := dict_ep hod hdt
    obtain ⟨⟨k, v⟩, hkv⟩ : ∃ p, kvs[i]? = some p := ⟨kvs[i], List.getElem?_eq_getElem hi⟩
    obtain ⟨en, q, hen, hkey, hq, ru⟩ := ent i k v hkv
    have hlt' : i < es'.size := by omega
    have hget : es'[i] = en := by
      rw [Array.getElem?_eq_getElem hlt'] at hen
      exact Option.some.inj hen
    obtain ⟨ok, ov, he⟩ := st
    rw [← hsz] at he
    have hlt : it < s.heap.objs.size := Heap.lt_size he
    refine wpAny_pyNext_items_item_raw he ⟨o, hgd, hx, hdt⟩ hlt' fun h' ho hT hz hk => ?_
    rw [hget] at ho hT
    refine ⟨_, rfl, wpAny_letOwnedTupleGo_items (s := { s with heap := h' }) ho fun h'' he' sb => ?_⟩
    have hT2 : h''.get? s.heap.objs.size = some { cls := .type "tuple", data := .seq #[en.key, en.val] } := (sb.2 _ (Nat.ne_of_gt hlt)).trans hT
    have new : ObjOk X.prog X.w (upd H s.heap.objs.size (.tup [.ref q, v])) h'' s.heap.objs.size (.tup [.ref q, v]) :=
      ⟨by show 2 ≤ sizeLine; decide, [en.key, en.val], .cons (show RelV (.ref q) en.key from hkey) (.cons ru .nil), ⟨_, hT2, rfl, _, rfl⟩⟩
    have I1 : Inv X pins σ (upd H s.heap.objs.size (.tup [.ref q, v])) { s with heap := h'' } :=
      I.turnedNew (t' := s.toks) (ch := [it]) (fun b ob hb e => (sb.2 b (by simpa using hb)).trans (hk b ob (by simpa using hb) e)) hf (Nat.le_refl _) new
    refine ⟨.ref s.heap.objs.size, _, I1, rfl, ⟨_, k, v, q, hkv, rfl, I.hok.fresh (Nat.le_refl _), hq, rfl⟩, ⟨en.key, en.val, ?_⟩, fun b hb => ?_⟩
    · rw [← hsz]; exact he'
    · have e : b = it := by simpa using hb
      rw [e, upd_ne (Nat.ne_of_lt hlt)]
      exact (hf it (by simp)).1
  done := by
    intro X hP hw hK hc i pins s σ H E I hf st hg
    subst hP hw hK
    obtain ⟨hd, hi⟩ := hg
    obtain ⟨f0, f1, f2, f3, f4, f5⟩ := hf it (by simp)
    obtain ⟨hs, hgd, hx, es', ep', hdt, hsz, ent⟩ := frzTi I hd
    obtain ⟨rfl, rfl⟩ := dict_ep hod hdt
    obtain ⟨ok, ov, he⟩ := st
    rw [← hsz] at he
    exact wpAny_pyNext_items_end_raw (I.ok.hd hc) he ⟨o, hgd, hx, hdt⟩ (by omega) fun h' eb => ⟨rfl, I.turned (t' := s.toks) (fun b ob hb e => eb b ob hb e) f0 f1 f3 f4 f5⟩
  self := fun A i s Q E st h => let ⟨_, _, e⟩ := st; PySem.W.kcp_self e h
theorem walk_itemsT {kvs : List (List L2.Key × V)} : Walk (Itit d o kvs) kvs.length (fun H => H d = some (.frz o (.dT kvs))) (fun i H x H' => ∃ T k v q, kvs[i]? = some (k, v) ∧ x = .ref T ∧ H T = none ∧ H q = some (.tup (k.map kV)) ∧ H' = upd H T (.tup [.ref q, v])) :=
  ⟨fun _ _ hi q => ⟨q, hi⟩, fun _ q => ⟨q, Nat.le_refl _⟩, fun _ _ _ _ _ _ y => y⟩
end
def iItemsT (td : TE) : TI := fun σ H R => td σ H fun x H1 => ∃ d o kvs, x = .ref d ∧ H1 d = some (.frz o (.dT kvs)) ∧ R (Itit d o kvs) H1
section
variable {X : Cx} {tg e : Expr} {td : TE} {apos cpos : Pos}
theorem pi_itemsT {elts : List Expr} {kk : Nat} {tpos : Pos} (he : PE X e td) (hbase : attributeBase e "items" X.env (eval e X.env) = eval e X.env := by rfl) (hline : (apos.endLine == cpos.line) = true := by rfl) :
    PI X (.Tuple elts kk tpos) (.Call (.Attribute e "items" apos) [] [] cpos) (iItemsT td) := by
  refine ⟨fun pins s σ H R I h => ?_⟩
  refine wpAny_Call_method (T := "dict") (id := "dict.items") hbase rfl hline F.plainAttrs_dict F.slot_dict_items F.type_dict_items (thn (he.run pins s σ H _ I h) fun u s1 ⟨x, H1, I1, rx, d, o, kvs, ex, hd, q⟩ => ?_)
  subst ex
  obtain rfl : u = Value.ref d := rx
  obtain ⟨hs, hgd, hx, es, ep, hdt, hsz, ent⟩ := frzTi I1 hd
  have hm : s1.heap.DictRaw d es ep := ⟨o, hgd, hx, hdt⟩
  have hty : s1.TypeIs (.ref d) "dict" := ⟨o, hgd, hx.1⟩
  refine ⟨hty, fun a e => (by cases e; exact ⟨o, hgd, hx.2.1⟩), ?_⟩
  have I2 : Inv X pins σ H1 { s1 with heap := s1.heap.push { cls := .type "dict_items", data := .fields #[.ref d] } } := I1.kept (t' := s1.toks) fun b ob q => Heap.get?_push_of_some _ q
  have fin : wpAny (model X.prog X.w) X.A (pyIter (.ref s1.heap.objs.size)) (PIE X pins σ (.Tuple elts kk tpos) R) X.xe { s1 with heap := s1.heap.push { cls := .type "dict_items", data := .fields #[.ref d] } } := by
    refine wpAny_pyIter_items_raw (d := d) (es := es) (ep := ep) ⟨_, Heap.get?_push_size _ rfl, rfl, rfl⟩ ⟨o, Heap.get?_push_of_some _ hgd, hx, hdt⟩ (pi_one (tk := s1.toks) I2 _ (turn_itemsT _ hdt) ⟨.none, .none, ?_⟩ q)
    rw [← hsz]
    exact Heap.get?_push_size _ rfl
  show wpAny _ _ (callWith cpos (.builtin "dict.items") [.ref d] [] []) _ X.xe s1
  exact method_meetsIn F.slot_dict_items F.entry_dict_items rfl (PySem.evalArgs_none ⟨rfl, hty, F.args_dict_items_1 _, _, meets_dict_items_raw d hs, ⟨es, ep, hm⟩, fin⟩)
end
end Wk

set_option Elab.async false
set_option linter.all false
set_option maxRecDepth 100000
set_option maxHeartbeats 4000000
namespace Wk
open PySem PySem.Spec PyProof.Rows L2 Evl
/-! a dict that is made on the way, locked for good -/
def tFz (t : TE) : TE := fun σ H Q => t σ H fun v H1 => ∃ d u, v = .ref d ∧ H1 d = some u ∧ Mut (some u) ∧ ∀ od, Q v (upd H1 d (.frz od u))
theorem pe_fz {X : Cx} {e : Expr} {t : TE} (h : PE X e t) : PE X e (tFz t) := by
  refine ⟨fun pins s σ H Q I hw => thn (h.run pins s σ H _ I hw) fun u s1 z => ?_⟩
  obtain ⟨x, H1, I1, rx, d, u', rfl, hd, mu, q⟩ := z
  obtain ⟨od, I2⟩ := I1.lock hd mu
  exact ⟨.ref d, _, I2, rx, q od⟩
theorem pi_keysK {X : Cx} {tg e : Expr} {td : TE} (he : PE X e td) : PI X tg e (iKeys td) := pi_keys he
/-! the ends of pairs -/
theorem prl_bs {H : Hp} : ∀ {us : List V} {ps : List Pr}, PrL H us ps → ∃ bs : List V, DqA H bs ((ps.map (·.2)).map wd) ∧ bs.length = us.length ∧ ∀ (i : Nat) (v : V), us[i]? = some v → ∃ t a b, v = .ref t ∧ H t = some (.tup [a, b]) ∧ bs[i]? = some b
  | _, _, .nil => ⟨[], .nil, rfl, fun i v e => by simp at e⟩
  | _, _, .cons (t := t) (a := a) (b := b) h1 h2 h3 tl => by
    obtain ⟨bs, k1, k2, k3⟩ := prl_bs tl
    refine ⟨b :: bs, .cons h3 k1, by simp [k2], fun i v e => ?_⟩
    cases i with
    | zero => exact ⟨t, a, b, (Option.some.inj e).symm, h1, rfl⟩
    | succ i => exact k3 i v (by simpa using e)
theorem el_snd {K : PySem.W.Frag} {σ : L2.St} {H : Hp} {ta : TE} {a : Addr} {us : List V} {ps : List Pr} {i j : Nat} {vs : List Nat} (ha : Ev ta σ H (.ref a)) (hx : H a = some (.lst us)) (hp : PrL H us ps) (hl : us.length ≤ 10000) (hw : ∀ x y, wipe (((wipe σ vs).set i (some x)).set j (some y)) vs = wipe σ vs) (hj : ∀ x y, (((wipe σ vs).set i (some x)).set j (some y))[j]? = some (some y)) :
    ∃ bs, DqA H bs ((ps.map (·.2)).map wd) ∧ EvL (tLc (iList K ta) (gTup K 2 (gCons (gName i) (gCons (gName j) gNil))) tYes (tVar j) vs) σ H bs := by
  obtain ⟨bs, hb, hbl, hat⟩ := prl_bs hp
  refine ⟨bs, hb, fun H1 e Q q => ha H1 e _ fun H2 e2 => ⟨a, rfl, ⟨us, sq_of ((e.trans e2) _ _ hx)⟩, fun D hD => lc_list (K := K) (xs := us) (fun n H' => Ex H2 H' ∧ H' D = some (.lst (bs.take n))) ⟨Ex.new hD, upd_same⟩ (fun n H' _ h => sq_of (((e.trans e2).trans h.1) _ _ hx)) ?_ ?_⟩⟩
  · rintro n x H' hxn ⟨e3, hd⟩
    obtain ⟨t, a', b, rfl, ht, hbn⟩ := hat n x hxn
    have ht' := ((e.trans e2).trans e3) _ _ ht
    refine ⟨t, [a', b], rfl, st_of ht', rfl, _, _, rfl, ⟨_, _, rfl, ⟨rfl, hw _ _, et_yes H' (Ex.refl _) _ fun H3 e4 => ?_⟩⟩⟩
    rw [if_pos rfl]
    refine ⟨b, hj _ _, _, e4 _ _ hd, by rw [List.length_take, sizeLine_eq]; omega, Ex.mut (e3.trans e4) hD, ?_⟩
    rw [upd_same, take_snoc hbn]
  · rintro H' ⟨e3, hd⟩
    rw [← hbl, List.take_length] at hd
    exact q D H' (fresh_back e2 hD) (e2.trans e3) hd
/-- the dict of the ends -/
inductive BlK (H : Hp) : List (List L2.Key × V) → List (Wy × List Pr) → Prop
  | nil : BlK H [] []
  | cons {L : Addr} {us : List V} {g : Wy × List Pr} {kvs : List (List L2.Key × V)} {gs : List (Wy × List Pr)} : H L = some (.lst us) → DqA H us ((g.2.map (·.2)).map wd) → BlK H kvs gs → BlK H ((keyW g.1, .ref L) :: kvs) (g :: gs)
theorem BlK.mono {G H : Hp} (e : Ex G H) : ∀ {kvs : List (List L2.Key × V)} {gs : List (Wy × List Pr)}, BlK G kvs gs → BlK H kvs gs
  | _, _, .nil => .nil
  | _, _, .cons h1 h2 t => .cons (e _ _ h1) (h2.mono e) (t.mono e)
theorem BlK.append {H : Hp} : ∀ {kvs k2 : List (List L2.Key × V)} {gs g2 : List (Wy × List Pr)}, BlK H kvs gs → BlK H k2 g2 → BlK H (kvs ++ k2) (gs ++ g2)
  | _, _, _, _, .nil, k => k
  | _, _, _, _, .cons h1 h2 t, k => .cons h1 h2 (t.append k)
theorem BlK.length {H : Hp} : ∀ {kvs : List (List L2.Key × V)} {gs : List (Wy × List Pr)}, BlK H kvs gs → kvs.length = gs.length
  | _, _, .nil => rfl
  | _, _, .cons _ _ t => congrArg Nat.succ t.length
theorem BlK.keys {H : Hp} : ∀ {kvs : List (List L2.Key × V)} {gs : List (Wy × List Pr)}, BlK H kvs gs → kvs.map (·.1) = gs.map fun g => keyW g.1
  | _, _, .nil => rfl
  | _, _, .cons _ _ t => by rw [List.map_cons, List.map_cons, t.keys]
theorem BlK.at {H : Hp} : ∀ {kvs : List (List L2.Key × V)} {gs : List (Wy × List Pr)} {i : Nat} {k : List L2.Key} {v : V}, BlK H kvs gs → kvs[i]? = some (k, v) → ∃ g L us, gs[i]? = some g ∧ k = keyW g.1 ∧ v = .ref L ∧ H L = some (.lst us) ∧ DqA H us ((g.2.map (·.2)).map wd)
  | _, _, i, k, v, .nil, e => by simp at e
  | _, _, 0, k, v, .cons h1 h2 t, e => by
    cases (show (_, _) = (k, v) from Option.some.inj e)
    exact ⟨_, _, _, rfl, rfl, rfl, h1, h2⟩
  | _, _, i + 1, k, v, .cons h1 h2 t, e => t.at (i := i) (by simpa using e)
/-- all but dicts stays -/
theorem PrL.mv {G H : Hp} (k : ∀ b o, (∀ kvs, o ≠ .dT kvs) → G b = some o → H b = some o) {us : List V} {ps : List Pr} (h : PrL G us ps) : PrL H us ps := h.tk fun b xs hb => k b _ (fun kvs z => by cases z) hb
theorem GoK.mv {G H : Hp} (k : ∀ b o, (∀ kvs, o ≠ .dT kvs) → G b = some o → H b = some o) : ∀ {kvs : List (List L2.Key × V)} {gs : List (Wy × List Pr)}, GoK G kvs gs → GoK H kvs gs
  | _, _, .nil => .nil
  | _, _, .cons h1 h2 t => .cons (k _ _ (fun kvs z => by cases z) h1) (h2.mv k) (t.mv k)
theorem dqa_mv {G H : Hp} (k : ∀ b o, (∀ kvs, o ≠ .dT kvs) → G b = some o → H b = some o) : ∀ {ws : List Wy} {us : List V}, DqA G us (ws.map wd) → DqA H us (ws.map wd)
  | [], _, .nil => .nil
  | w :: ws, _, .cons h t => .cons (wd_tk (fun b xs hb => k b _ (fun kvs z => by cases z) hb) h) (dqa_mv k t)
theorem BlK.mv {G H : Hp} (k : ∀ b o, (∀ kvs, o ≠ .dT kvs) → G b = some o → H b = some o) : ∀ {kvs : List (List L2.Key × V)} {gs : List (Wy × List Pr)}, BlK G kvs gs → BlK H kvs gs
  | _, _, .nil => .nil
  | _, _, .cons h1 h2 t => .cons (k _ _ (fun kvs z => by cases z) h1) (dqa_mv k h2) (t.mv k)
theorem goL_small {rows : List (List Wy)} (hG : GW rows) (h6 : ∀ row ∈ rows, row.length ≤ 6) {g : Wy × List Pr} (h : g ∈ goL rows) : g.2.length ≤ 48 := by
  obtain ⟨i, j, row, hi, hj, e⟩ := goL_at h
  rw [e]
  exact goP_len (h6 row (List.mem_of_getElem? hi)) fun w hw => (hG.ok i row hi w hw).l8
theorem goL_nd {rows : List (List Wy)} (hG : GW rows) : ((goL rows).map (·.1)).Nodup := by
  rw [goL_fst]
  exact gw_flat_nd hG
/-- a key that comes first at place i is not among those before -/
theorem key_new {gl : List (Wy × List Pr)} {i : Nat} {g : Wy × List Pr} (nd : (gl.map (·.1)).Nodup) (hi : gl[i]? = some g) : keyW g.1 ∉ (gl.take i).map fun g => keyW g.1 := fun z => by
  obtain ⟨g2, hg2m, e⟩ := List.mem_map.mp z
  have e2 := keyW_inj e
  obtain ⟨r, hr⟩ := List.mem_iff_getElem?.mp hg2m
  rw [List.getElem?_take] at hr
  by_cases c : r < i
  · rw [if_pos c] at hr
    have hil := (List.getElem?_eq_some_iff.mp hi).1
    have h1 : (gl.map (·.1))[r]? = some g.1 := by rw [List.getElem?_map, hr]; exact congrArg some e2
    have h2 : (gl.map (·.1))[i]? = some g.1 := by rw [List.getElem?_map, hi]; rfl
    have := (List.getElem?_inj (by rw [List.length_map]; omega) nd).mp (h1.trans h2.symm)
    omega
  · rw [if_neg c] at hr
    cases hr
/-- below = {own: [end for _, end in pairs] for own, pairs in goings_on(wishes).items()} -/
theorem dq_below {K : PySem.W.Frag} {CW : Addr} {te : TE} {σ : L2.St} {H : Hp} {Q : VK} {rows : List (List Wy)} {io ip ie iu : Nat} {vs v2 : List Nat} (hG : GW rows) (h6 : ∀ row ∈ rows, row.length ≤ 6) (h8 : rows.length ≤ 8)
    (hte : ∀ Q' : VK, (∀ H' D kvs, Ex H H' → H D = none → H' D = some (.dT kvs) → GoK H' kvs (goL rows) → Q' (.ref D) H') → te σ H Q')
    (hw : ∀ x y, wipe (((wipe σ vs).set io (some x)).set ip (some y)) vs = wipe σ vs) (ho : ∀ x y, (((wipe σ vs).set io (some x)).set ip (some y))[io]? = some (some x)) (hp : ∀ x y, (((wipe σ vs).set io (some x)).set ip (some y))[ip]? = some (some y))
    (hw2 : ∀ x y a b, wipe (((wipe (((wipe σ vs).set io (some x)).set ip (some y)) v2).set iu (some a)).set ie (some b)) v2 = wipe (((wipe σ vs).set io (some x)).set ip (some y)) v2) (hj2 : ∀ x y a b, (((wipe (((wipe σ vs).set io (some x)).set ip (some y)) v2).set iu (some a)).set ie (some b))[ie]? = some (some b))
    (k : ∀ H' D kb, Ex H H' → H D = none → H' D = some (.dT kb) → BlK H' kb (goL rows) → Q (.ref D) H') :
    tDq (iItemsT (tFz te)) (gTup K 2 (gCons (gName io) (gCons (gName ip) gNil))) tYes (tVar io) (tLc (iList K (tVar ip)) (gTup K 2 (gCons (gName iu) (gCons (gName ie) gNil))) tYes (tVar ie) v2) vs σ H Q := by
  refine hte _ fun H0 d0 kv0 e0 n0 hd0 hK0 => ⟨d0, _, rfl, hd0, trivial, fun od => ⟨d0, od, kv0, rfl, upd_same, fun D hD => ?_⟩⟩
  have nD0 : D ≠ d0 := fun z => by rw [z, upd_same] at hD; cases hD
  have hD0 : H0 D = none := by rw [upd_ne nD0] at hD; exact hD
  have hmv : ∀ b o, (∀ kvs, o ≠ .dT kvs) → H0 b = some o → (upd H0 d0 (.frz od (.dT kv0))) b = some o := fun b o n hb => by
    rw [upd_ne fun z => by rw [z, hd0] at hb; exact n _ (Option.some.inj hb).symm]
    exact hb
  have hK1 := hK0.mv hmv
  have eH1 : Ex H (upd H0 d0 (.frz od (.dT kv0))) := fun b o hb => by
    rw [upd_ne fun z => by rw [z, n0] at hb; cases hb]
    exact e0 _ _ hb
  have hd1 : (upd H0 d0 (.frz od (.dT kv0))) d0 = some (.frz od (.dT kv0)) := upd_same
  have hDH : H D = none := fresh_back e0 hD0
  generalize upd H0 d0 (.frz od (.dT kv0)) = H1 at *
  have hkl := hK1.length
  have hlf := len_flat h6
  have hgl : (goL rows).length = rows.flatten.length := by rw [← goL_fst rows, List.length_map]
  have nd := goL_nd hG
  have w := walk_itemsT (d := d0) (o := od) (kvs := kv0)
  refine ⟨fun i m H' => m = kv0.length - i ∧ i ≤ kv0.length ∧ Ex H1 H' ∧ ∃ kb, H' D = some (.dT kb) ∧ BlK (off D H') kb ((goL rows).take i), ⟨kv0.length, by simp, Nat.zero_le _, Ex.new hD, [], upd_same, .nil⟩, ?_⟩
  rintro i m H2 ⟨rfl, hi, e2, kb, hDb, hB⟩
  by_cases lt : i < kv0.length
  · refine .inr ⟨w.goes i H2 lt (e2 _ _ hd1), fun H' => Ex H1 H' ∧ ∃ kb, H' D = some (.dT kb) ∧ BlK (off D H') kb ((goL rows).take (i + 1)), fun H' z => ⟨kv0.length - (i + 1), by omega, rfl, lt, z⟩, fun x H3 y => ?_⟩
    obtain ⟨T, kk, v, q, hkv, rfl, hT, hq, rfl⟩ := w.yields i H2 x H3 lt (e2 _ _ hd1) y
    obtain ⟨g, L, us, hg, rfl, rfl, hL, hPr⟩ := hK1.at hkv
    have eT := Ex.new (o := .tup [.ref q, .ref L]) hT
    have hT3 : (upd H2 T (.tup [.ref q, .ref L])) T = some (.tup [.ref q, .ref L]) := upd_same
    have hD3 := eT _ _ hDb
    have hq3 := eT _ _ hq
    have e3 := e2.trans eT
    have hB3 := hB.mono (off_ex (D := D) eT)
    generalize upd H2 T (.tup [.ref q, .ref L]) = H3 at *
    refine ⟨T, [.ref q, .ref L], rfl, st_of hT3, rfl, _, _, rfl, ⟨_, _, rfl, ⟨rfl, hw _ _, et_yes H3 (Ex.refl _) _ fun H4 e4 => ?_⟩⟩⟩
    rw [if_pos rfl]
    have e14 := e3.trans e4
    have hsm := goL_small hG h6 (List.mem_of_getElem? hg)
    have hul := hPr.length
    obtain ⟨bs, hbs, hev⟩ := el_snd (K := K) (σ := ((wipe σ vs).set io (some (.ref q))).set ip (some (.ref L))) (ta := tVar ip) (i := iu) (j := ie) (vs := v2) (ev_var (hp _ _)) (e14 _ _ hL) (hPr.mono e14) (by omega) (hw2 _ _) (hj2 _ _)
    refine ⟨.ref q, ho _ _, hev H4 (Ex.refl _) _ fun LL H5 hLL e5 hLL5 => ?_⟩
    have hD5 := e5 _ _ (e4 _ _ hD3)
    have hbl := hB3.length
    rw [List.length_take] at hbl
    have hkn : keyW g.1 ∉ kb.map (·.1) := by rw [hB3.keys]; exact key_new nd hg
    refine ⟨_, DPut.t (k := keyW g.1) hD5 (e5 _ _ (e4 _ _ hq3)) (sz_lt (by omega)), Ex.mut (e14.trans e5) hD, ?_⟩
    rw [put_new hkn]
    refine ⟨_, upd_same, ?_⟩
    rw [off_upd, take_snoc hg]
    have nLL : LL ≠ D := fun z => by rw [z, hD5] at hLL5; cases hLL5
    refine (hB3.mono (off_ex (e4.trans e5))).append (.cons ((off_at nLL).trans hLL5) ?_ .nil)
    refine dqa_mv (fun b o n hb => ?_) hbs
    have hb5 := e5 _ _ hb
    exact (off_at fun z => by rw [z, hD5] at hb5; exact n _ (Option.some.inj hb5).symm).trans hb5
  · have ei : i = kv0.length := by omega
    subst ei
    rw [List.take_of_length_le (by omega)] at hB
    exact .inl ⟨w.stops H2 (e2 _ _ hd1), k H2 D kb (eH1.trans e2) hDH hDb (hB.mono (off_in D H2))⟩
/-! ladder -/
def rdyL (gl : List (Wy × List Pr)) (P : List Wy) : List Wy := (gl.filter fun g => !decide (g.1 ∈ P) && g.2.all fun p => decide (p.2 ∈ P)).map (·.1)
def lad (gl : List (Wy × List Pr)) : Nat → List Wy → (Wy → Int) → Int → Option (List Wy × (Wy → Int))
  | 0, _, _, _ => none
  | m + 1, P, h, k => if P.length < gl.length then (if rdyL gl P = [] then none else lad gl m (P ++ rdyL gl P) (fun w => if w ∈ rdyL gl P then k else h w) (k + 1)) else some (P, h)
end Wk

set_option Elab.async false
set_option linter.all false
set_option maxRecDepth 100000
set_option maxHeartbeats 4000000
namespace Wk
open PySem PySem.Spec PyProof.Rows L2 Evl
section
variable {K : PySem.W.Frag} {σ : L2.St} {H : Hp} {tl te td ty : TE}
theorem ev_allW {a : Addr} {us : List V} {es : List Wy} {j : Nat} {vs : List Nat} (f : Wy → Bool) (h : Ev tl σ H (.ref a)) (hx : H a = some (.lst us)) (hd : DqA H us (es.map wd)) (hz : us.length ≤ 40000) (hw : ∀ x, wipe ((wipe σ vs).set j (some x)) vs = wipe σ vs)
    (he : ∀ (e : Wy) (b : Addr) H1, Ex H H1 → e ∈ es → H1 b = some (.tup (e.map V.int)) → Ev te ((wipe σ vs).set j (some (.ref b))) H1 (.bl (f e))) :
    Ev (tCB (rAll K) (tCons (tLc (iList K tl) (gName j) tYes te vs) tNil)) σ H (.bl (es.all f)) := by
  have hl := hd.length
  rw [List.length_map] at hl
  have eb : es.all f = ((List.range us.length).map fun i => f (es.getD i [])).all id := by
    rw [hl, List.all_map]
    have : es = (List.range es.length).map fun i => es.getD i [] := by
      refine List.ext_getElem? fun i => ?_
      rw [List.getElem?_map]
      by_cases h : i < es.length
      · rw [List.getElem?_range h, List.getElem?_eq_getElem h]
        show _ = some (es.getD i [])
        rw [List.getD_eq_getElem?_getD, List.getElem?_eq_getElem h]
        rfl
      · rw [List.getElem?_eq_none (by omega), List.getElem?_eq_none (by simpa using h)]
        rfl
    conv => lhs; rw [this]
    rw [List.all_map]
    rfl
  rw [eb]
  refine ev_allL ?_
  have q := el_lcL (K := K) (te := te) (t := tYes) (fun _ => true) (fun k => .bl (f (es.getD k []))) h (sq_of hx) hz hw (fun _ _ _ _ _ => et_yes) (fun i x H1 e hi _ => by
    obtain ⟨w, hw', hdw⟩ := hd.wds_inv hi
    obtain ⟨b, rfl, hb⟩ := wd_ref hdw
    rw [List.getD_eq_getElem?_getD, hw']
    exact he w b H1 e (List.mem_of_getElem? hw') (e _ _ hb))
  rw [given_all] at q
  rw [List.map_map]
  exact q
/-- way in d, a dict from ways to ints -/
theorem tab_some (h : Wy → Int) (ws : List Wy) (a : Wy) : (valV (tabW ws h) (keyW a)).isSome = decide (a ∈ ws) := by
  by_cases c : a ∈ ws
  · rw [tabW_val c, decide_eq_true c]; rfl
  · rw [tabW_none c, decide_eq_false c]; rfl
theorem ev_inW {D b : Addr} {ws : List Wy} {h : Wy → Int} {a : Wy} (hy : Ev ty σ H (.ref b)) (hd : Ev td σ H (.ref D)) (hD : H D = some (.dT (tabW ws h))) (hb : H b = some (.tup (a.map V.int))) : Ev (tDIn ty td) σ H (.bl (decide (a ∈ ws))) := fun H1 e Q q =>
  hy H1 e _ fun H2 e2 => hd H2 (e.trans e2) _ fun H3 e3 => by
    have e' := (e.trans e2).trans e3
    refine ⟨D, _, rfl, DGet.t (k := keyW a) (e' _ _ hD) (by rw [keyW_kV]; exact e' _ _ hb), ?_⟩
    rw [tab_some]
    exact q H3 (e2.trans e3)
theorem ev_ninW {D b : Addr} {ws : List Wy} {h : Wy → Int} {a : Wy} (hy : Ev ty σ H (.ref b)) (hd : Ev td σ H (.ref D)) (hD : H D = some (.dT (tabW ws h))) (hb : H b = some (.tup (a.map V.int))) : Ev (tDNotIn ty td) σ H (.bl (!decide (a ∈ ws))) := fun H1 e Q q =>
  hy H1 e _ fun H2 e2 => hd H2 (e.trans e2) _ fun H3 e3 => by
    have e' := (e.trans e2).trans e3
    refine ⟨D, _, rfl, DGet.t (k := keyW a) (e' _ _ hD) (by rw [keyW_kV]; exact e' _ _ hb), ?_⟩
    rw [tab_some]
    exact q H3 (e2.trans e3)
theorem ev_dgetF {D b : Addr} {o : Obj} {kvs : List (List L2.Key × V)} {w : Wy} {v : V} (hd : Ev td σ H (.ref D)) (hy : Ev ty σ H (.ref b)) (hD : H D = some (.frz o (.dT kvs))) (hb : H b = some (.tup (w.map V.int))) (hv : valV kvs (keyW w) = some v) : Ev (tDGet td ty) σ H v := fun H1 e Q q =>
  hd H1 e _ fun H2 e2 => hy H2 (e.trans e2) _ fun H3 e3 => by
    have e' := (e.trans e2).trans e3
    exact ⟨D, v, rfl, .inr ⟨kvs, keyW w, b, .inr ⟨o, e' _ _ hD⟩, rfl, by rw [keyW_kV]; exact e' _ _ hb, hv.symm⟩, q H3 (e2.trans e3)⟩
end
theorem dqa_tk {G H : Hp} (k : ∀ b xs, G b = some (.tup xs) → H b = some (.tup xs)) : ∀ {ws : List Wy} {us : List V}, DqA G us (ws.map wd) → DqA H us (ws.map wd)
  | [], _, .nil => .nil
  | w :: ws, _, .cons h t => .cons (wd_tk k h) (dqa_tk k t)
theorem q_asgX {te : TE} {tz : TS} {D : Ends} {σ : L2.St} {H : Hp} {i : Nat} (h : te σ H fun v H1 => tz D (σ.set i (some v)) H1) : tSeq (tAsg te (gName i)) tz D σ H := h
theorem val_nd {κ : Type} [DecidableEq κ] : ∀ {l : List (κ × V)} {i : Nat} {k : κ} {v : V}, (l.map (·.1)).Nodup → l[i]? = some (k, v) → valV l k = some v
  | [], i, k, v, _, h => by cases h
  | p :: l, 0, k, v, _, h => by
    cases h
    exact valV_pos rfl
  | p :: l, i + 1, k, v, nd, h => by
    have h : l[i]? = some (k, v) := h
    rw [List.map_cons, List.nodup_cons] at nd
    rw [valV_neg fun z => nd.1 (List.mem_map.mpr ⟨(k, v), List.mem_of_getElem? h, z.symm⟩)]
    exact val_nd nd.2 h
theorem rdyL_snoc {gl : List (Wy × List Pr)} {P : List Wy} {i : Nat} {g : Wy × List Pr} (h : gl[i]? = some g) : rdyL (gl.take (i + 1)) P = rdyL (gl.take i) P ++ if (!decide (g.1 ∈ P) && (g.2.map (·.2)).all fun e => decide (e ∈ P)) = true then [g.1] else [] := by
  unfold rdyL
  rw [take_snoc h, List.filter_append, List.map_append]
  congr 1
  rw [List.all_map]
  by_cases c : (!decide (g.1 ∈ P) && g.2.all ((fun e => decide (e ∈ P)) ∘ fun x => x.2)) = true
  · rw [if_pos c]
    have c' : (!decide (g.1 ∈ P) && g.2.all fun p => decide (p.2 ∈ P)) = true := c
    simp [c']
  · rw [if_neg c]
    have c' : ¬ (!decide (g.1 ∈ P) && g.2.all fun p => decide (p.2 ∈ P)) = true := c
    simp only [Bool.not_eq_true] at c'
    simp [c']
/-- ready = [own for own in below if own not in rungs and all([end in rungs for end in below[own]])] -/
theorem lc_ready {K : PySem.W.Frag} {σ : L2.St} {H : Hp} {Q : VK} {Db Dr : Addr} {od : Obj} {kb : List (List L2.Key × V)} {gl : List (Wy × List Pr)} {P : List Wy} {h : Wy → Int} {io ie ib ir : Nat} {vs v2 : List Nat}
    (hDb : H Db = some (.frz od (.dT kb))) (hB : BlK H kb gl) (nd : (gl.map (·.1)).Nodup) (hDr : H Dr = some (.dT (tabW P h))) (hl : gl.length ≤ 1000) (hs : ∀ g ∈ gl, g.2.length ≤ 1000)
    (hσ : σ[ib]? = some (some (.ref Db))) (hw : ∀ x, wipe ((wipe σ vs).set io (some x)) vs = wipe σ vs) (ho : ∀ x, ((wipe σ vs).set io (some x))[io]? = some (some x)) (hb1 : ∀ x, ((wipe σ vs).set io (some x))[ib]? = some (some (.ref Db))) (hr1 : ∀ x, ((wipe σ vs).set io (some x))[ir]? = some (some (.ref Dr)))
    (hw2 : ∀ x y, wipe ((wipe ((wipe σ vs).set io (some x)) v2).set ie (some y)) v2 = wipe ((wipe σ vs).set io (some x)) v2) (he2 : ∀ x y, ((wipe ((wipe σ vs).set io (some x)) v2).set ie (some y))[ie]? = some (some y)) (hr2 : ∀ x y, ((wipe ((wipe σ vs).set io (some x)) v2).set ie (some y))[ir]? = some (some (.ref Dr)))
    (k : ∀ H' L us, Ex H H' → H L = none → H' L = some (.lst us) → DqA H' us ((rdyL gl P).map wd) → Q (.ref L) H') :
    tLc (iKeys (tVar ib)) (gName io) (tAnd (tB (tDNotIn (tVar io) (tVar ir))) (tB (tCB (rAll K) (tCons (tLc (iList K (tDGet (tVar ib) (tVar io))) (gName ie) tYes (tDIn (tVar ie) (tVar ir)) v2) tNil)))) (tVar io) vs σ H Q := by
  refine ⟨.ref Db, hσ, Db, od, rfl, .inr ⟨kb, hDb, fun L hL => ?_⟩⟩
  have w := walk_keysT (d := Db) (o := od) (kvs := kb)
  have hkl := hB.length
  have hkn : (kb.map (·.1)).Nodup := by
    rw [hB.keys]
    have : gl.map (fun g => keyW g.1) = (gl.map (·.1)).map keyW := by rw [List.map_map]; rfl
    rw [this]
    exact nd_map _ nd fun x _ y _ e => keyW_inj e
  refine ⟨fun i m H' => m = kb.length - i ∧ i ≤ kb.length ∧ Ex H H' ∧ ∃ us, H' L = some (.lst us) ∧ DqA (off L H') us ((rdyL (gl.take i) P).map wd), ⟨kb.length, by simp, Nat.zero_le _, Ex.new hL, [], upd_same, .nil⟩, ?_⟩
  rintro i m H1 ⟨rfl, hi, e1, us, hL1, hd1⟩
  by_cases lt : i < kb.length
  · refine .inr ⟨w.goes i H1 lt (e1 _ _ hDb), fun H' => Ex H H' ∧ ∃ us, H' L = some (.lst us) ∧ DqA (off L H') us ((rdyL (gl.take (i + 1)) P).map wd), fun H' z => ⟨kb.length - (i + 1), by omega, rfl, lt, z⟩, fun x H2 y => ?_⟩
    obtain ⟨rfl, kk, u, t, hk, rfl, ht⟩ := w.yields i H1 x H2 lt (e1 _ _ hDb) y
    obtain ⟨g, Lg, gs, hg, rfl, rfl, hLg, hdg⟩ := hB.at hk
    rw [keyW_kV] at ht
    have hval := val_nd hkn hk
    have hgs := hs g (List.mem_of_getElem? hg)
    have hgl := hdg.length
    rw [List.length_map, List.length_map] at hgl
    rw [rdyL_snoc hg]
    have ctest : EvT (tAnd (tB (tDNotIn (tVar io) (tVar ir))) (tB (tCB (rAll K) (tCons (tLc (iList K (tDGet (tVar ib) (tVar io))) (gName ie) tYes (tDIn (tVar ie) (tVar ir)) v2) tNil)))) ((wipe σ vs).set io (some (.ref t))) H2 (!decide (g.1 ∈ P) && (g.2.map (·.2)).all fun e => decide (e ∈ P)) :=
      et_and (et_B (ev_ninW (ev_var (ho _)) (ev_var (hr1 _)) (e1 _ _ hDr) ht)) fun _ => et_B (ev_allW (K := K) (fun e => decide (e ∈ P)) (ev_dgetF (ev_var (hb1 _)) (ev_var (ho _)) (e1 _ _ hDb) ht hval) (e1 _ _ hLg) (hdg.mono e1) (by omega) (hw2 _) fun e b H3 e3 _ hb => ev_inW (ev_var (he2 _ _)) (ev_var (hr2 _ _)) (e3 _ _ (e1 _ _ hDr)) hb)
    refine ⟨hw _, ctest H2 (Ex.refl _) _ fun H3 e3 => ?_⟩
    have hul := hd1.length
    rw [List.length_map] at hul
    have hrl : (rdyL (gl.take i) P).length ≤ 1000 := by
      unfold rdyL
      rw [List.length_map]
      refine Nat.le_trans (List.length_filter_le _ _) ?_
      rw [List.length_take]
      omega
    by_cases c : (!decide (g.1 ∈ P) && (g.2.map (·.2)).all fun e => decide (e ∈ P)) = true
    · rw [if_pos c, if_pos c]
      have hL3 := e3 _ _ hL1
      have ht3 := e3 _ _ ht
      refine ⟨.ref t, ho _, us, hL3, sz_lt (by omega), Ex.mut (e1.trans e3) hL, _, upd_same, ?_⟩
      rw [off_upd, List.map_append]
      exact (hd1.mono (off_ex e3)).append (.cons (wd_of ((off_at fun z => by rw [z, hL3] at ht3; cases ht3).trans ht3)) .nil)
    · rw [if_neg c, if_neg c, List.append_nil]
      exact ⟨e1.trans e3, us, e3 _ _ hL1, hd1.mono (off_ex e3)⟩
  · have ei : i = kb.length := by omega
    subst ei
    rw [List.take_of_length_le (by omega)] at hd1
    exact .inl ⟨w.stops H1 (e1 _ _ hDb), k H1 L us e1 hL hL1 (hd1.mono (off_in L H1))⟩
end Wk

set_option Elab.async false
set_option linter.all false
set_option maxRecDepth 100000
set_option maxHeartbeats 4000000
namespace Wk
open PySem PySem.Spec PyProof.Rows L2 Evl
section
variable {P : Program} {w : World} {K : PySem.W.Frag} {mg : Str → Option Value} {base : Heap} {f : Addr} {fd : FuncData} {CW CN : Addr}
abbrev ladR (rows : List (List Wy)) : Option (List Wy × (Wy → Int)) := lad (goL rows) (rows.flatten.length + 1) [] (fun _ => 0) 0
def spLad (CW : Addr) : Sp := fun vs H Q _ => ∃ (wv : V) (rows : List (List Wy)), vs = [wv] ∧ WO CW H wv rows ∧ (ladR rows = none → ∀ H', Ex H H' → Q .non H') ∧
  (∀ P h, ladR rows = some (P, h) → ∀ H' D, Ex H H' → H D = none → H' D = some (.dT (tabW (sortW P) h)) → Q (.ref D) H')
abbrev nLad : List Str := ["wishes", "below", "rungs", "height", "ready", "own", "pairs", "end", "_"]
abbrev sLad : Stmt := top 27
theorem scLad : FnScope nLad ["wishes"] (defScope sLad) := ⟨rfl, rfl, rfl, by decide +kernel, rfl, by decide +kernel, by decide +kernel⟩
theorem ok_lad (B : Bl mg) (hso : mg "sorted" = none) (CG : Cal P w K mg base "goings_on" ["wishes"] 7 (spGo CW)) (F : FnP K "ladder" sLad f fd) : FnOk P w K mg base CX0 8 f fd ["wishes"] (spLad CW) := by
  refine F.ok scLad (fun vs H Q E h => ?_) (fun cdv A outer s H vs Q E hr h => ?_)
  · obtain ⟨wv, rows, rfl, _⟩ := h
    rfl
  · obtain ⟨wv, rows, rfl, hw, kN, kS⟩ := h
    have hu : (A.deeper (envOfC "ladder" (defScope sLad) s.heap.objs.size f cdv)).units + 1 < cLine := by have := hr.un; omega
    have hu70 : (A.deeper (envOfC "ladder" (defScope sLad) s.heap.objs.size f cdv)).units + 70 < cLine := by have := hr.un; omega
    refine ⟨_, pss_cons (ps_set (i := 1) scLad.nd rfl (Or.inr rfl) (pe_dq (own := [("own", 5), ("pairs", 6)]) (g := gTup K 2 (gCons (gName 5) (gCons (gName 6) gNil))) (tt := tYes) (tk := tVar 5) rfl hu scLad.nd (pi_itemsT (pe_fz (pe_cal CG hr (by rfl) (pa_cons (pv 0) pa_nil)))) (blkOk_by (N := nLad) (sc := defScope sLad) (by decide +kernel))
          (fun _ _ _ _ _ => pg_tup rfl (pgs_cons (pg_name (i := 5) scLad.nd rfl (.inl rfl)) (pgs_cons (pg_name (i := 6) scLad.nd rfl (.inl rfl)) pgs_nil))) (fun _ _ _ _ _ => pts_nil) (fun _ _ _ _ _ => pv 5)
          (fun _ _ _ _ _ => pe_lc (own := [("_", 8), ("end", 7)]) (g := gTup K 2 (gCons (gName 8) (gCons (gName 7) gNil))) (tt := tYes) (te := tVar 7) rfl scLad.nd (pi_listK (K := K) rfl (pv 6)) (blkOk_by (N := nLad) (by first | rfl | decide +kernel))
            (fun _ _ _ _ _ => pg_tup rfl (pgs_cons (pg_name (i := 8) scLad.nd rfl (.inl rfl)) (pgs_cons (pg_name (i := 7) scLad.nd rfl (.inl rfl)) pgs_nil))) (fun _ _ _ _ _ => pts_nil) (fun _ _ _ _ _ => pv 7))))
      (pss_cons (ps_set (i := 2) scLad.nd rfl (Or.inr rfl) pe_dnewT)
      (pss_cons (ps_set (i := 3) scLad.nd rfl (Or.inl rfl) pe_int)
      (pss_cons (ps_while (passes_of rfl) (pt_cmpR op_lt (pe_callB call_len_dT (by rfl) B.len PySem.boot_len (pa_cons (pv 2) pa_nil)) (pe_callB call_len_dT (by rfl) B.len PySem.boot_len (pa_cons (pv 1) pa_nil)) (nomark _))
        (pss_cons (ps_lock (ps_setLc (i := 4) (own := [("own", 5)]) (g := gName 5) (tt := tAnd (tB (tDNotIn (tVar 5) (tVar 2))) (tB (tCB (rAll K) (tCons (tLc (iList K (tDGet (tVar 1) (tVar 5))) (gName 7) tYes (tDIn (tVar 7) (tVar 2)) [7]) tNil)))) rfl scLad.nd rfl rfl (sw_true rfl rfl rfl (by decide +kernel)) (pi_keys (pv 1)) (blkOk_by (N := nLad) (sc := defScope sLad) (by decide +kernel))
          (fun _ _ _ _ _ => pg_name (i := 5) scLad.nd rfl (Or.inl rfl))
          (fun _ _ _ _ _ => pts_one (PW.pt (pw_and (pt_cmp (pc_dnotin hu (pv 5) (pv 2))) (pw_and1 (pt_val (pe_callB (cr_all rfl) (by rfl) B.all boot_all (pa_cons (pe_lc (own := [("end", 7)]) (g := gName 7) (tt := tYes) (te := tDIn (tVar 7) (tVar 2)) rfl scLad.nd (pi_listK (K := K) rfl (pe_dget hu (pv 1) (pv 5) (fun _ _ => rfl))) (blkOk_by (N := nLad) (by first | rfl | decide +kernel))
              (fun _ _ _ _ _ => pg_name (i := 7) scLad.nd rfl (Or.inl rfl)) (fun _ _ _ _ _ => pts_nil) (fun _ _ _ _ _ => pe_cmp (pc_din hu (pv 7) (pv 2)))) pa_nil)))))))
          (fun _ _ _ _ _ => pv 5)))
        (pss_cons (ps_if (pt_not (pt_truth (pv 4) (fun _ => rfl))) (pss_one (ps_ret pe_non)) pss_nil)
        (pss_cons (ps_for (passes_of rfl) rfl (pi_list (pv 4)) (pg_name (i := 5) scLad.nd rfl (Or.inl rfl)) (pss_one (ps_dput hu (pv 2) (pv 5) (pv 3) rfl)))
        (pss_one (ps_aug (i := 3) scLad.nd rfl (Or.inl rfl) pe_int ip_add))))))
      (pss_one (ps_ret (pe_dq (own := [("own", 5)]) (g := gName 5) (tt := tYes) (tk := tVar 5) rfl hu scLad.nd (pi_list (pe_callB (cr_sortW (K := K) rfl hu70) (by rfl) hso PyProof.Rows.boot_sorted (pa_cons (pe_callTy (call_list_dT rfl) (by rfl) B.list PyProof.Rows.boot_list (pa_cons (pv 2) pa_nil)) pa_nil))) (blkOk_by (N := nLad) (sc := defScope sLad) (by decide +kernel))
          (fun _ _ _ _ _ => pg_name (i := 5) scLad.nd rfl (Or.inl rfl)) (fun _ _ _ _ _ => pts_nil) (fun _ _ _ _ _ => pv 5) (fun _ _ _ _ _ => pe_dget hu (pv 2) (pv 5) (fun _ _ => rfl)))))))), ?_⟩
    have hG := hw.g
    have h6 := hw.r6
    have n8 := hw.n8
    have hgl : (goL rows).length = rows.flatten.length := by rw [← goL_fst rows, List.length_map]
    have hlf := len_flat h6
    have nd := goL_nd hG
    have hkN : ∀ {H' : Hp}, ladR rows = none → Ex H H' → Q .non H' := fun z e => kN z _ e
    refine q_asgX ?_
    refine dq_below (K := K) (CW := CW) (rows := rows) hG h6 n8 (fun Q' q => ⟨wv, rfl, wv, rows, rfl, hw, fun H' D kvs e hD h1 h2 => q H' D kvs e hD h1 h2⟩) (fun _ _ => rfl) (fun _ _ => rfl) (fun _ _ => rfl) (fun _ _ _ _ => rfl) (fun _ _ _ _ => rfl) fun H1 Db kb e1 hDb0 hDb hB => ?_
    refine q_asgX ?_
    intro Dr hDr
    have e2 := Ex.new (o := .dT []) hDr
    have hDr2 : (upd H1 Dr (.dT [])) Dr = some (.dT []) := upd_same
    have hDb2 := e2 _ _ hDb
    have hB2 := hB.mono e2
    have e02 := e1.trans e2
    have hDr0 := fresh_back e1 hDr
    generalize upd H1 Dr (.dT []) = H2 at *
    have nDbr : Db ≠ Dr := fun z => by rw [z, hDr] at hDb; cases hDb
    have hkl := hB2.length
    refine q_c ?_
    change tSeq (tWhile _ _) _ _ [some wv, some (.ref Db), some (.ref Dr), some (.int 0), none, none, none, none, none] H2
    have exR : ∀ {H' : Hp}, (∀ b o, b ≠ Dr → H2 b = some o → H' b = some o) → Ex H H' := fun {H'} st b o hb => st b o (fun z => by rw [z, hDr0] at hb; cases hb) (e02 _ _ hb)
    refine q_while (fun m σ' H' => ∃ (P : List Wy) (h : Wy → Int) (k : Int) (o4 o5 o6 o7 o8 : Option V), σ' = [some wv, some (.ref Db), some (.ref Dr), some (.int k), o4, o5, o6, o7, o8] ∧ ladR rows = lad (goL rows) m P h k ∧ rows.flatten.length + 1 ≤ P.length + m ∧ P.Nodup ∧ (∀ x ∈ P, x ∈ rows.flatten) ∧ (∀ b o, b ≠ Dr → H2 b = some o → H' b = some o) ∧ H' Dr = some (.dT (tabW P h))) (rows.flatten.length + 1) ⟨[], fun _ => 0, 0, none, none, none, none, none, rfl, rfl, by simp, List.nodup_nil, (fun x hx => by cases hx), fun _ _ _ z => z, hDr2⟩ ?_
    rintro m σ' H3 ⟨P, h, k, o4, o5, o6, o7, o8, rfl, hlad, hfm, hPn, hPi, hst, hD3⟩
    have hPl : P.length ≤ rows.flatten.length := nd_le P rows.flatten hPn hPi
    have hDb3 := hst _ _ nDbr hDb2
    have hB3 : BlK H3 kb (goL rows) := hB2.mv fun b o n hb => hst b o (fun z => by rw [z, hDr2] at hb; exact n _ (Option.some.inj hb).symm) hb
    obtain ⟨m', rfl⟩ : ∃ m', m = m' + 1 := ⟨m - 1, by omega⟩
    refine ⟨decide (P.length < (goL rows).length), ?_, fun hb H4 e4 => ?_, fun hb H4 e4 => ?_⟩
    · have q1 := ev_lenD (K := K) (td := tVar 2) (σ := [some wv, some (.ref Db), some (.ref Dr), some (.int k), o4, o5, o6, o7, o8]) (ev_var rfl) hD3 (by rw [tabW_len]; omega)
      have q2 := ev_lenD (K := K) (td := tVar 1) (σ := [some wv, some (.ref Db), some (.ref Dr), some (.int k), o4, o5, o6, o7, o8]) (ev_var rfl) hDb3 (by omega)
      rw [tabW_len] at q1
      rw [hkl] at q2
      have q := ev_op (r := rI0 fun i j => .bl (decide (i < j))) q1 q2 rv_I0
      have ed : decide (((P.length : Nat) : Int) < (((goL rows).length : Nat) : Int)) = decide (P.length < (goL rows).length) := by
        rw [decide_eq_decide]
        omega
      rw [ed] at q
      exact et_test q
    · have hlt := of_decide_eq_true hb
      have hladS : lad (goL rows) (m' + 1) P h k = if rdyL (goL rows) P = [] then none else lad (goL rows) m' (P ++ rdyL (goL rows) P) (fun w => if w ∈ rdyL (goL rows) P then k else h w) (k + 1) := by
        show (if P.length < (goL rows).length then _ else _) = _
        rw [if_pos hlt]
      rw [hladS] at hlad
      have hst4 : ∀ b o, b ≠ Dr → H2 b = some o → H4 b = some o := fun b o nb hb => e4 _ _ (hst b o nb hb)
      have hDb4 := e4 _ _ hDb3
      have hB4 := hB3.mono e4
      have hD4 := e4 _ _ hD3
      -- what is ready
      have hRm : ∀ x ∈ rdyL (goL rows) P, x ∉ P ∧ x ∈ rows.flatten := fun x hx => by
        unfold rdyL at hx
        obtain ⟨g, hg, rfl⟩ := List.mem_map.mp hx
        obtain ⟨g1, g2⟩ := List.mem_filter.mp hg
        rw [Bool.and_eq_true] at g2
        refine ⟨by simpa using g2.1, ?_⟩
        rw [← goL_fst rows]
        exact List.mem_map.mpr ⟨g, g1, rfl⟩
      have hRn : (rdyL (goL rows) P).Nodup := by
        have : (rdyL (goL rows) P).Sublist ((goL rows).map (·.1)) := by
          unfold rdyL
          exact List.filter_sublist.map _
        exact this.nodup nd
      refine ⟨fun σ2 H5 => ∃ (h' : Wy → Int) (o4 o5 : Option V), σ2 = [some wv, some (.ref Db), some (.ref Dr), some (.int (k + 1)), o4, o5, o6, o7, o8] ∧ ladR rows = lad (goL rows) m' (P ++ rdyL (goL rows) P) h' (k + 1) ∧ 1 ≤ (rdyL (goL rows) P).length ∧ (∀ b o, b ≠ Dr → H2 b = some o → H5 b = some o) ∧ H5 Dr = some (.dT (tabW (P ++ rdyL (goL rows) P) h')), fun σ2 H5 z => ?_, ?_⟩
      · obtain ⟨h', o4', o5', rfl, z1, z2, z3, z4⟩ := z
        refine ⟨m', by omega, _, h', k + 1, _, _, _, _, _, rfl, z1, by rw [List.length_append]; omega, List.nodup_append.mpr ⟨hPn, hRn, fun x hx y hy e => (hRm y hy).1 (e ▸ hx)⟩, fun x hx => ?_, z3, z4⟩
        rcases List.mem_append.mp hx with z | z
        · exact hPi x z
        · exact (hRm x z).2
      · refine ⟨Db, _, hDb4, trivial, fun od => ?_⟩
        have hl1000 : (goL rows).length ≤ 1000 := by omega
        have mvF : ∀ b o, (∀ kvs, o ≠ .dT kvs) → H4 b = some o → (upd H4 Db (.frz od (.dT kb))) b = some o := fun b o n hb => by
          rw [upd_ne fun z => by rw [z, hDb4] at hb; exact n _ (Option.some.inj hb).symm]
          exact hb
        refine lc_ready (K := K) (Db := Db) (Dr := Dr) (od := od) (kb := kb) (gl := goL rows) (P := P) (h := h) upd_same (hB4.mv mvF) nd (by rw [upd_ne (Ne.symm nDbr)]; exact hD4) hl1000 (fun g hg => Nat.le_trans (goL_small hG h6 hg) (by decide)) rfl (fun _ => rfl) (fun _ => rfl) (fun _ => rfl) (fun _ => rfl) (fun _ _ => rfl) (fun _ _ => rfl) (fun _ _ => rfl) fun H5 L us e5 hL hL5 hd5 => ?_
        have hF5 := e5 _ _ (upd_same (H := H4) (a := Db) (o := .frz od (.dT kb)))
        refine g_name ⟨hF5, ?_⟩
        have nLD : L ≠ Db := fun z => by rw [z, hF5] at hL5; cases hL5
        have nLR : L ≠ Dr := fun z => by
          rw [z, e5 _ _ (by rw [upd_ne (Ne.symm nDbr)]; exact hD4)] at hL5
          cases hL5
        have hst6 : ∀ b o, b ≠ Dr → H2 b = some o → (upd H5 Db (.dT kb)) b = some o := fun b o nb hb => by
          by_cases z : b = Db
          · rw [z] at hb ⊢
            rw [hDb2] at hb
            cases hb
            exact upd_same
          · rw [upd_ne z]
            exact e5 _ _ (by rw [upd_ne z]; exact hst4 b o nb hb)
        have hD6 : (upd H5 Db (.dT kb)) Dr = some (.dT (tabW P h)) := by
          rw [upd_ne (Ne.symm nDbr)]
          exact e5 _ _ (by rw [upd_ne (Ne.symm nDbr)]; exact hD4)
        have hL6 : (upd H5 Db (.dT kb)) L = some (.lst us) := by rw [upd_ne nLD]; exact hL5
        have hd6 : DqA (upd H5 Db (.dT kb)) us ((rdyL (goL rows) P).map wd) := dqa_tk (fun b xs hb => by
          rw [upd_ne fun z => by rw [z, hF5] at hb; cases hb]
          exact hb) hd5
        generalize upd H5 Db (.dT kb) = H6 at *
        have hul := hd6.length
        rw [List.length_map] at hul
        dsimp only
        have htr : EvT (fun σ H_1 Q => tVar 4 σ H_1 fun x H' => ∃ k, TruV K x H' k ∧ Q k H') [some wv, some (.ref Db), some (.ref Dr), some (.int k), some (.ref L), o5, o6, o7, o8] H6 (!us.isEmpty) := fun H7 e7 Q2 q => ⟨.ref L, rfl, _, .inl ⟨us, sq_of (e7 _ _ hL6), rfl⟩, q H7 (Ex.refl _)⟩
        refine q_when (b := !(!us.isEmpty)) (et_not htr) (fun hb7 H7 e7 => ?_) (fun hb7 H7 e7 => ?_)
        · have hus : us = [] := by simpa using hb7
          have hR0 : rdyL (goL rows) P = [] := by
            rw [hus] at hul
            exact List.length_eq_zero_iff.mp hul.symm
          rw [if_pos hR0] at hlad
          exact hkN hlad ((exR hst6).trans e7)
        · have hus : us ≠ [] := by simpa using hb7
          have hR1 : rdyL (goL rows) P ≠ [] := fun z => by
            rw [z] at hul
            exact hus (List.length_eq_zero_iff.mp hul)
          rw [if_neg hR1] at hlad
          have hRl : 1 ≤ (rdyL (goL rows) P).length := by
            cases hz : rdyL (goL rows) P with
            | nil => exact absurd hz hR1
            | cons a l => simp
          generalize rdyL (goL rows) P = R at *
          have hh : tabW P h = tabW P fun w => if w ∈ R then k else h w := by
            unfold tabW
            refine List.map_congr_left fun w hw => ?_
            show _ = (keyW w, V.int (if w ∈ R then k else h w))
            rw [if_neg fun z => (hRm w z).1 hw]
          rw [hh] at hD6
          have hRb : R.length ≤ 48 := by
            have := nd_le R rows.flatten hRn fun x hx => (hRm x hx).2
            omega
          have tk7 : ∀ {b : Addr} {xs : List V}, H6 b = some (.tup xs) → H7 b = some (.tup xs) := fun hb => e7 _ _ hb
          refine q_forL (K := K) (ev_var rfl) (sq_of (e7 _ _ hL6)) (fun i σ' H' => ∃ o5, σ' = [some wv, some (.ref Db), some (.ref Dr), some (.int k), some (.ref L), o5, o6, o7, o8] ∧ (∀ b o, b ≠ Dr → H7 b = some o → H' b = some o) ∧ H' Dr = some (.dT (tabW (P ++ R.take i) fun w => if w ∈ R then k else h w))) (fun H8 e8 => ⟨_, rfl, fun b o _ hb => e8 _ _ hb, by simpa using e8 _ _ (e7 _ _ hD6)⟩) (fun i σ' H' _ p => by
            obtain ⟨_, _, p2, _⟩ := p
            exact sq_of (p2 _ _ nLR (e7 _ _ hL6))) ?_ ?_
          · rintro i x σ' H8 hx ⟨o5', rfl, hst8, hD8⟩
            obtain ⟨wy, hwy, hdw⟩ := hd6.wds_inv hx
            obtain ⟨oa, rfl, hoa⟩ := wd_ref hdw
            have hoa8 := hst8 _ _ (fun z => by rw [z, hD6] at hoa; cases hoa) (tk7 hoa)
            have hwR : wy ∈ R := List.mem_of_getElem? hwy
            refine g_name ?_
            refine ⟨.int k, rfl, .ref Dr, rfl, .ref oa, rfl, Dr, _, rfl, DPut.t (k := keyW wy) hD8 (by rw [keyW_kV]; exact hoa8) (by rw [tabW_len, List.length_append, List.length_take]; exact sz_lt (by omega)), ?_⟩
            have hnew := tabW_new (h := fun w => if w ∈ R then k else h w) (a := wy) (ws := P ++ R.take i) (fun z => by
              rcases List.mem_append.mp z with y | y
              · exact (hRm wy hwR).1 y
              · exact nd_take hRn hwy y)
            rw [if_pos hwR, List.append_assoc, ← take_snoc hwy] at hnew
            rw [hnew]
            exact ⟨_, rfl, fun b o nb hb => by rw [upd_ne nb]; exact hst8 b o nb hb, upd_same⟩
          · rintro σ' H8 ⟨o5', rfl, hst8, hD8⟩
            rw [hul, List.take_length] at hD8
            refine ⟨.int k, rfl, k, 1, rfl, rfl, ?_⟩
            exact ⟨_, _, _, rfl, hlad, hRl, fun b o nb hb => hst8 b o nb (e7 _ _ (hst6 b o nb hb)), hD8⟩
    · have hge := of_decide_eq_false hb
      have hladS : lad (goL rows) (m' + 1) P h k = some (P, h) := by
        show (if P.length < (goL rows).length then _ else _) = _
        rw [if_neg hge]
      rw [hladS] at hlad
      have hD4 := e4 _ _ hD3
      have eH4 := (exR hst).trans e4
      have hst4 : ∀ b o, b ≠ Dr → H2 b = some o → H4 b = some o := fun b o nb hb => e4 _ _ (hst b o nb hb)
      refine ret_any ?_
      refine ⟨.ref Dr, rfl, Dr, _, rfl, .inl hD4, fun l bs hl hK => ?_⟩
      have e5 := Ex.new (o := .lst (bs.map V.ref)) hl
      have hl5 : (upd H4 l (.lst (bs.map V.ref))) l = some (.lst (bs.map V.ref)) := upd_same
      have hD5 := e5 _ _ hD4
      have hDrn : ∀ {b : Addr} {xs : List V}, H4 b = some (.tup xs) → (upd H4 l (.lst (bs.map V.ref))) b = some (.tup xs) := fun hb => e5 _ _ hb
      generalize upd H4 l (.lst (bs.map V.ref)) = H5 at *
      obtain ⟨ps, hps, hpw, hpt⟩ : ∃ ps : List (Addr × Wy), bs.map V.ref = ps.map (fun p => V.ref p.1) ∧ P = ps.map (·.2) ∧ ∀ p ∈ ps, H5 p.1 = some (.tup (p.2.map V.int)) := by
        clear hb hl5 hD5 hl hlad hladS hge hfm hPn hPi hPl hD3 hD4
        unfold IsKeys tabW at hK
        induction P generalizing bs with
        | nil => cases hK; exact ⟨[], rfl, rfl, fun p hp => by cases hp⟩
        | cons u P ih =>
          cases hK with
          | cons h1 h2 =>
            obtain ⟨ps, k1, k2, k3⟩ := ih _ h2
            rename_i b bs'
            refine ⟨(b, u) :: ps, by rw [List.map_cons, List.map_cons, k1], by rw [List.map_cons, ← k2], fun p hp => ?_⟩
            rcases List.mem_cons.mp hp with z | z
            · rw [z]
              have h1' : H4 b = some (.tup ((keyW u).map kV)) := h1
              rw [keyW_kV] at h1'
              exact hDrn h1'
            · exact k3 p z
      have hne : ∀ p ∈ ps, p.2 ≠ [] := fun p hp z => by
        have hm : p.2 ∈ rows.flatten := hPi _ (by rw [hpw]; exact List.mem_map.mpr ⟨p, hp, rfl⟩)
        obtain ⟨row, hr, hw'⟩ := List.mem_flatten.mp hm
        obtain ⟨i, hi⟩ := List.mem_iff_getElem?.mp hr
        have := (hG.ok i row hi _ hw').l2
        rw [z] at this
        simp at this
      refine ⟨l, ps, rfl, sq_of (by rw [hl5, hps]), fun p hp => st_of (hpt p hp), hne, fun qs D hq hs hD => ⟨D, rfl, ⟨_, sq_of upd_same⟩, fun N hN => ?_⟩⟩
      rw [← hpw] at hs
      have e6 := Ex.new (o := .lst (qs.map fun p => V.ref p.1)) hD
      have hDD : (upd H5 D (.lst (qs.map fun p => V.ref p.1))) D = some (.lst (qs.map fun p => V.ref p.1)) := upd_same
      have hD6 := e6 _ _ hD5
      have hq6 : ∀ p ∈ qs, (upd H5 D (.lst (qs.map fun p => V.ref p.1))) p.1 = some (.tup (p.2.map V.int)) := fun p hp => e6 _ _ (hpt p (hq.mem_iff.mp hp))
      generalize upd H5 D (.lst (qs.map fun p => V.ref p.1)) = H6 at *
      have hsn : (qs.map (·.2)).Nodup := by rw [hs]; exact (sortW_perm P).nodup_iff.mpr hPn
      have hqP : ∀ p ∈ qs, p.2 ∈ P := fun p hp => by rw [hpw]; exact List.mem_map.mpr ⟨p, hq.mem_iff.mp hp, rfl⟩
      have hqll : qs.length = P.length := by rw [hpw, List.length_map]; exact hq.length_eq
      have wl := walk_list (K := K) (a := D) (xs := qs.map fun p => V.ref p.1)
      refine ⟨fun i m H' => m = qs.length - i ∧ i ≤ qs.length ∧ Ex H6 H' ∧ H' N = some (.dT (tabW ((qs.map (·.2)).take i) h)), ⟨qs.length, by simp, Nat.zero_le _, Ex.new hN, upd_same⟩, ?_⟩
      rintro i m H7 ⟨rfl, hi, e7, hN7⟩
      by_cases lt : i < qs.length
      · refine .inr ⟨wl.goes i H7 (by rw [List.length_map]; exact lt) (sq_of (e7 _ _ hDD)), fun H' => Ex H6 H' ∧ H' N = some (.dT (tabW ((qs.map (·.2)).take (i + 1)) h)), fun H' z => ⟨qs.length - (i + 1), by omega, rfl, lt, z⟩, fun x H8 y => ?_⟩
        obtain ⟨rfl, hx⟩ := wl.yields i H7 x H8 (by rw [List.length_map]; exact lt) (sq_of (e7 _ _ hDD)) y
        have hqi : qs[i]? = some qs[i] := List.getElem?_eq_getElem lt
        rw [List.getElem?_map, hqi] at hx
        have hx' := (Option.some.inj hx).symm
        have hqm : qs[i] ∈ qs := List.getElem_mem lt
        have hq2 : (qs.map (·.2))[i]? = some qs[i].2 := by rw [List.getElem?_map, hqi]; rfl
        generalize qs[i] = pp at *
        subst hx'
        have hpp := e7 _ _ (hq6 pp hqm)
        refine ⟨rfl, et_yes H8 (Ex.refl _) _ fun H9 e9 => ?_⟩
        rw [if_pos rfl]
        refine ⟨.ref pp.1, rfl, ?_⟩
        have hg : Ev (tDGet (tVar 2) (tVar 5)) ((wipe [some wv, some (.ref Db), some (.ref Dr), some (.int k), o4, o5, o6, o7, o8] (List.map (fun x => x.2) [(Str.ofString "own", 5)])).set 5 (some (.ref pp.1))) H9 (.int (h pp.2)) := ev_dgetT (ev_var rfl) (ev_var rfl) (e9 _ _ (e7 _ _ hD6)) (e9 _ _ hpp) (tabW_val (hqP pp hqm))
        refine hg H9 (Ex.refl _) _ fun HA eA => ?_
        have e9A := e9.trans eA
        refine ⟨_, DPut.t (k := keyW pp.2) (e9A _ _ hN7) (by rw [keyW_kV]; exact e9A _ _ hpp) (by rw [tabW_len, List.length_take]; exact sz_lt (by omega)), Ex.mut (e7.trans e9A) hN, ?_⟩
        rw [tabW_new (nd_take hsn hq2), ← take_snoc hq2]
        exact upd_same
      · have ei : i = qs.length := by omega
        subst ei
        have hst' := wl.stops H7 (sq_of (e7 _ _ hDD))
        rw [List.length_map] at hst'
        rw [List.take_of_length_le (by rw [List.length_map]; exact Nat.le_refl _), hs] at hN7
        exact .inl ⟨hst', kS P h hlad H7 N (((eH4.trans e5).trans e6).trans e7) (fresh_back ((eH4.trans e5).trans e6) hN) hN7⟩
end
end Wk

set_option Elab.async false
set_option linter.all false
set_option maxRecDepth 100000
set_option maxHeartbeats 4000000
namespace Wk
open PySem PySem.Spec PyProof.Rows L2 Evl
/-! ### ladders and heights -/
theorem mem_ends1 {far e : Wy} : e ∈ (endsW far).drop 1 ↔ ∃ t, t + 2 < far.length ∧ e = far.drop (t + 1) := by
  constructor
  · intro h
    obtain ⟨i, hi⟩ := List.mem_iff_getElem?.mp h
    rw [List.getElem?_drop] at hi
    unfold endsW at hi
    rw [List.getElem?_map] at hi
    by_cases c : 1 + i < far.length - 1
    · rw [List.getElem?_range c] at hi
      exact ⟨i, by omega, by rw [← Option.some.inj hi]; congr 1; omega⟩
    · rw [List.getElem?_eq_none (by simpa using c)] at hi
      cases hi
  · rintro ⟨t, ht, rfl⟩
    refine List.mem_iff_getElem?.mpr ⟨t, ?_⟩
    rw [List.getElem?_drop]
    unfold endsW
    rw [List.getElem?_map, List.getElem?_range (by omega)]
    show some (far.drop (1 + t)) = _
    congr 2
    omega
theorem mem_goP {row : List Wy} {j : Nat} {p : Pr} : p ∈ goP row j ↔ ∃ hi far t, hi < j ∧ row[hi]? = some far ∧ t + 2 < far.length ∧ p = (far, far.drop (t + 1)) := by
  unfold goP
  rw [List.mem_flatMap]
  constructor
  · rintro ⟨far, hf, hp⟩
    obtain ⟨e, he, rfl⟩ := List.mem_map.mp hp
    obtain ⟨t, ht, rfl⟩ := mem_ends1.mp he
    obtain ⟨i, hi⟩ := List.mem_iff_getElem?.mp hf
    rw [List.getElem?_take] at hi
    by_cases c : i < j
    · rw [if_pos c] at hi
      exact ⟨i, far, t, c, hi, ht, rfl⟩
    · rw [if_neg c] at hi
      cases hi
  · rintro ⟨hi, far, t, h1, h2, h3, rfl⟩
    refine ⟨far, List.mem_iff_getElem?.mpr ⟨hi, ?_⟩, List.mem_map.mpr ⟨_, mem_ends1.mpr ⟨t, h3, rfl⟩, rfl⟩⟩
    rw [List.getElem?_take, if_pos h1]
    exact h2
theorem alP_goL {rows : List (List Wy)} {a e : Wy} : (a, e) ∈ alP rows ↔ ∃ g ∈ goL rows, g.1 = a ∧ e ∈ g.2.map (·.2) := by
  rw [mem_alP]
  constructor
  · rintro ⟨row, hr, lo, hi, own, far, t, h1, h2, h3, h4, he⟩
    cases he
    refine ⟨(row.getD lo [], goP row lo), ?_, ?_, ?_⟩
    · unfold goL
      refine List.mem_flatten.mpr ⟨goR row, List.mem_map.mpr ⟨row, hr, rfl⟩, ?_⟩
      unfold goR
      exact List.mem_map.mpr ⟨lo, List.mem_range.mpr (List.getElem?_eq_some_iff.mp h2).1, rfl⟩
    · show row.getD lo [] = a
      rw [List.getD_eq_getElem?_getD, h2]
      rfl
    · exact List.mem_map.mpr ⟨(far, far.drop (t + 1)), mem_goP.mpr ⟨hi, far, t, h1, h3, h4, rfl⟩, rfl⟩
  · rintro ⟨g, hg, rfl, he⟩
    obtain ⟨i, j, row, hi, hj, hgp⟩ := goL_at hg
    obtain ⟨p, hp, rfl⟩ := List.mem_map.mp he
    rw [hgp] at hp
    obtain ⟨hh, far, t, h1, h2, h3, rfl⟩ := mem_goP.mp hp
    exact ⟨row, List.mem_of_getElem? hi, j, hh, g.1, far, t, h1, hj, h2, h3, rfl⟩
/-- what holds on the way to a ladder -/
structure LadI (gl : List (Wy × List Pr)) (P : List Wy) (h : Wy → Int) (k : Int) : Prop where
  nd : P.Nodup
  inn : ∀ x ∈ P, x ∈ gl.map (·.1)
  rg : ∀ x ∈ P, 0 ≤ h x ∧ h x < k
  lt : ∀ g ∈ gl, g.1 ∈ P → ∀ e ∈ g.2.map (·.2), e ∈ P ∧ h e < h g.1
  ex : ∀ g ∈ gl, g.1 ∈ P → 1 ≤ h g.1 → ∃ e ∈ g.2.map (·.2), e ∈ P ∧ h e = h g.1 - 1
  pv : (k = 0 ∧ P = []) ∨ ∃ P0, P = P0 ++ rdyL gl P0 ∧ ∀ x ∈ rdyL gl P0, h x = k - 1
  ln : 0 ≤ k ∧ k ≤ P.length
theorem mem_rdy {gl : List (Wy × List Pr)} {P : List Wy} {x : Wy} : x ∈ rdyL gl P ↔ ∃ g ∈ gl, g.1 = x ∧ x ∉ P ∧ ∀ e ∈ g.2.map (·.2), e ∈ P := by
  unfold rdyL
  rw [List.mem_map]
  constructor
  · rintro ⟨g, hg, rfl⟩
    obtain ⟨g1, g2⟩ := List.mem_filter.mp hg
    rw [Bool.and_eq_true] at g2
    refine ⟨g, g1, rfl, by simpa using g2.1, fun e he => ?_⟩
    obtain ⟨p, hp, rfl⟩ := List.mem_map.mp he
    exact of_decide_eq_true (List.all_eq_true.mp g2.2 p hp)
  · rintro ⟨g, hg, rfl, h1, h2⟩
    refine ⟨g, List.mem_filter.mpr ⟨hg, ?_⟩, rfl⟩
    rw [Bool.and_eq_true]
    exact ⟨by simpa using h1, List.all_eq_true.mpr fun p hp => decide_eq_true (h2 _ (List.mem_map.mpr ⟨p, hp, rfl⟩))⟩
theorem uniq_g {gl : List (Wy × List Pr)} (nd : (gl.map (·.1)).Nodup) {g g' : Wy × List Pr} (h : g ∈ gl) (h' : g' ∈ gl) (e : g.1 = g'.1) : g = g' := by
  obtain ⟨i, hi⟩ := List.mem_iff_getElem?.mp h
  obtain ⟨j, hj⟩ := List.mem_iff_getElem?.mp h'
  have h1 : (gl.map (·.1))[i]? = some g.1 := by rw [List.getElem?_map, hi]; rfl
  have h2 : (gl.map (·.1))[j]? = some g.1 := by rw [List.getElem?_map, hj, e]; rfl
  have hil := (List.getElem?_eq_some_iff.mp hi).1
  have := (List.getElem?_inj (by rw [List.length_map]; exact hil) nd).mp (h1.trans h2.symm)
  rw [this, hj] at hi
  exact (Option.some.inj hi).symm
theorem lad_step {gl : List (Wy × List Pr)} {P : List Wy} {h : Wy → Int} {k : Int} (nd : (gl.map (·.1)).Nodup) (I : LadI gl P h k) (hR : rdyL gl P ≠ []) : LadI gl (P ++ rdyL gl P) (fun w => if w ∈ rdyL gl P then k else h w) (k + 1) := by
  have hx : ∀ x ∈ rdyL gl P, x ∉ P := fun x z => by
    obtain ⟨_, _, _, h1, _⟩ := mem_rdy.mp z
    exact h1
  have hv : ∀ x ∈ P, (if x ∈ rdyL gl P then k else h x) = h x := fun x z => if_neg fun y => hx x y z
  refine ⟨?_, fun x z => ?_, fun x z => ?_, fun g hg z e he => ?_, fun g hg z h1 => ?_, .inr ⟨P, rfl, fun x z => by show (if x ∈ rdyL gl P then k else h x) = _; rw [if_pos z]; omega⟩, ?_⟩
  · refine List.nodup_append.mpr ⟨I.nd, ?_, fun x h1 y h2 e => hx y h2 (e ▸ h1)⟩
    have : (rdyL gl P).Sublist (gl.map (·.1)) := by
      unfold rdyL
      exact List.filter_sublist.map _
    exact this.nodup nd
  · rcases List.mem_append.mp z with y | y
    · exact I.inn x y
    · obtain ⟨g, hg, rfl, _⟩ := mem_rdy.mp y
      exact List.mem_map.mpr ⟨g, hg, rfl⟩
  · show 0 ≤ (if x ∈ rdyL gl P then k else h x) ∧ (if x ∈ rdyL gl P then k else h x) < k + 1
    rcases List.mem_append.mp z with y | y
    · rw [hv x y]
      have := I.rg x y
      omega
    · rw [if_pos y]
      have := I.ln
      omega
  · show e ∈ P ++ rdyL gl P ∧ (if e ∈ rdyL gl P then k else h e) < (if g.1 ∈ rdyL gl P then k else h g.1)
    rcases List.mem_append.mp z with y | y
    · obtain ⟨h1, h2⟩ := I.lt g hg y e he
      rw [hv _ h1, hv _ y]
      exact ⟨List.mem_append_left _ h1, h2⟩
    · obtain ⟨g', hg', e', _, h2⟩ := mem_rdy.mp y
      have eg := uniq_g nd hg' hg e'
      rw [eg] at h2
      have h3 := h2 e he
      rw [hv _ h3, if_pos y]
      exact ⟨List.mem_append_left _ h3, (I.rg e h3).2⟩
  · have h1' : 1 ≤ (if g.1 ∈ rdyL gl P then k else h g.1) := h1
    show ∃ e ∈ g.2.map (·.2), e ∈ P ++ rdyL gl P ∧ (if e ∈ rdyL gl P then k else h e) = (if g.1 ∈ rdyL gl P then k else h g.1) - 1
    rcases List.mem_append.mp z with y | y
    · rw [hv _ y] at h1' ⊢
      obtain ⟨e, he, h2, h3⟩ := I.ex g hg y h1'
      exact ⟨e, he, List.mem_append_left _ h2, by rw [hv _ h2]; exact h3⟩
    · rw [if_pos y] at h1' ⊢
      obtain ⟨g', hg', e', h2, h3⟩ := mem_rdy.mp y
      have eg := uniq_g nd hg' hg e'
      rw [eg] at h3
      rcases I.pv with ⟨k0, _⟩ | ⟨P0, hP, hk⟩
      · omega
      · have : ¬ ∀ e ∈ g.2.map (·.2), e ∈ P0 := fun hall => by
          have hr : g.1 ∈ rdyL gl P0 := mem_rdy.mpr ⟨g, hg, rfl, fun w => h2 (by rw [hP]; exact List.mem_append_left _ w), hall⟩
          exact h2 (by rw [hP]; exact List.mem_append_right _ hr)
        obtain ⟨e, he⟩ := Classical.not_forall.mp this
        obtain ⟨he1, he2⟩ := Classical.not_imp.mp he
        have h4 := h3 e he1
        have h5 : e ∈ rdyL gl P0 := by
          rw [hP] at h4
          rcases List.mem_append.mp h4 with w | w
          · exact absurd w he2
          · exact w
        exact ⟨e, he1, List.mem_append_left _ h4, by rw [hv _ h4, hk e h5]⟩
  · have := I.ln
    have hl : 1 ≤ (rdyL gl P).length := by
      cases hz : rdyL gl P with
      | nil => exact absurd hz hR
      | cons a l => simp
    rw [List.length_append]
    omega
theorem lad_some {gl : List (Wy × List Pr)} (nd : (gl.map (·.1)).Nodup) {P' : List Wy} {h' : Wy → Int} : ∀ {m : Nat} {P : List Wy} {h : Wy → Int} {k : Int}, LadI gl P h k → lad gl m P h k = some (P', h') → ∃ k', LadI gl P' h' k' ∧ gl.length ≤ P'.length
  | 0, P, h, k, _, e => by cases e
  | m + 1, P, h, k, I, e => by
    have e : (if P.length < gl.length then (if rdyL gl P = [] then none else lad gl m (P ++ rdyL gl P) (fun w => if w ∈ rdyL gl P then k else h w) (k + 1)) else some (P, h)) = some (P', h') := e
    by_cases c : P.length < gl.length
    · rw [if_pos c] at e
      by_cases r : rdyL gl P = []
      · rw [if_pos r] at e
        cases e
      · rw [if_neg r] at e
        exact lad_some nd (lad_step nd I r) e
    · rw [if_neg c] at e
      cases e
      exact ⟨k, I, by omega⟩
theorem lad_none {gl : List (Wy × List Pr)} (nd : (gl.map (·.1)).Nodup) : ∀ {m : Nat} {P : List Wy} {h : Wy → Int} {k : Int}, LadI gl P h k → gl.length + 1 ≤ P.length + m → lad gl m P h k = none → ∃ P', P'.length < gl.length ∧ P'.Nodup ∧ rdyL gl P' = []
  | 0, P, h, k, I, hm, _ => by
    have := nd_le P (gl.map (·.1)) I.nd I.inn
    rw [List.length_map] at this
    omega
  | m + 1, P, h, k, I, hm, e => by
    have e : (if P.length < gl.length then (if rdyL gl P = [] then none else lad gl m (P ++ rdyL gl P) (fun w => if w ∈ rdyL gl P then k else h w) (k + 1)) else some (P, h)) = none := e
    by_cases c : P.length < gl.length
    · rw [if_pos c] at e
      by_cases r : rdyL gl P = []
      · exact ⟨P, c, I.nd, r⟩
      · rw [if_neg r] at e
        refine lad_none nd (lad_step nd I r) ?_ e
        rw [List.length_append]
        have hl : 1 ≤ (rdyL gl P).length := by
          cases hz : rdyL gl P with
          | nil => exact absurd hz r
          | cons a l => simp
        omega
    · rw [if_neg c] at e
      cases e
theorem lad_start (gl : List (Wy × List Pr)) : LadI gl [] (fun _ => 0) 0 := ⟨List.nodup_nil, (fun x h => by cases h), (fun x h => by cases h), (fun g _ h => by cases h), (fun g _ h => by cases h), .inl ⟨rfl, rfl⟩, by simp⟩
/-! passes -/
theorem fold_false {h1 : Wy → Int} : ∀ {ps : List Pr} {h : Wy → Int} {c : Bool}, ps.foldl stepH (h, c) = (h1, false) → c = false ∧ h1 = h ∧ ∀ p ∈ ps, h p.2 < h p.1
  | [], h, c, e => by cases e; exact ⟨rfl, rfl, fun p hp => by cases hp⟩
  | p :: ps, h, c, e => by
    rw [List.foldl_cons] at e
    unfold stepH at e
    by_cases z : h p.1 ≤ h p.2
    · rw [if_pos z] at e
      have := (fold_false e).1
      cases this
    · rw [if_neg z] at e
      obtain ⟨k1, k2, k3⟩ := fold_false e
      refine ⟨k1, k2, fun q hq => ?_⟩
      rcases List.mem_cons.mp hq with y | y
      · rw [y]; omega
      · exact k3 q y
theorem hgt_some {ps : List Pr} {h1 : Wy → Int} : ∀ {m : Nat} {h : Wy → Int}, hgt ps m h = some h1 → ∀ p ∈ ps, h1 p.2 < h1 p.1
  | 0, h, e => by cases e
  | m + 1, h, e => by
    rw [hgt_succ] at e
    by_cases c : (passH ps h).2 = true
    · rw [if_pos c] at e
      exact hgt_some e
    · rw [if_neg c] at e
      have e1 := Option.some.inj e
      have hp : ps.foldl stepH (h, false) = (h1, false) := by
        show passH ps h = _
        rw [← e1]
        have : (passH ps h).2 = false := by simpa using c
        rw [← this]
      obtain ⟨_, k2, k3⟩ := fold_false hp
      rw [k2]
      exact k3
theorem ex_min (f : Wy → Int) : ∀ {U : List Wy}, U ≠ [] → ∃ x ∈ U, ∀ y ∈ U, f x ≤ f y
  | [], h => absurd rfl h
  | [a], _ => ⟨a, by simp, fun y hy => by rw [List.mem_singleton.mp hy]; exact Int.le_refl _⟩
  | a :: b :: U, _ => by
    obtain ⟨x, hx, hm⟩ := ex_min f (U := b :: U) (by simp)
    by_cases c : f a ≤ f x
    · refine ⟨a, by simp, fun y hy => ?_⟩
      rcases List.mem_cons.mp hy with z | z
      · rw [z]; exact Int.le_refl _
      · exact Int.le_trans c (hm y z)
    · refine ⟨x, List.mem_cons_of_mem _ hx, fun y hy => ?_⟩
      rcases List.mem_cons.mp hy with z | z
      · rw [z]; omega
      · exact hm y z
/-- no ladder: no heights -/
theorem lad_hgt {rows : List (List Wy)} (hG : GW rows) {m : Nat} {h0 : Wy → Int} (h : ladR rows = none) : hgt (alP rows) m h0 = none := by
  have nd := goL_nd hG
  have hgl : (goL rows).length = rows.flatten.length := by rw [← goL_fst rows, List.length_map]
  obtain ⟨P, hl, hn, hr⟩ := lad_none nd (lad_start _) (by rw [hgl]; simp) h
  cases e : hgt (alP rows) m h0 with
  | none => rfl
  | some h1 =>
    have hs := hgt_some e
    let U := ((goL rows).map (·.1)).filter fun x => !decide (x ∈ P)
    have hU : U ≠ [] := fun z => by
      have hall : ∀ x ∈ (goL rows).map (·.1), x ∈ P := fun x hx => by
        have : x ∉ U := by rw [z]; simp
        have q : ¬ (!decide (x ∈ P)) = true := fun y => this (List.mem_filter.mpr ⟨hx, y⟩)
        simpa using q
      have := nd_le ((goL rows).map (·.1)) P nd hall
      rw [List.length_map] at this
      omega
    obtain ⟨x, hx, hmin⟩ := ex_min h1 hU
    obtain ⟨hx1, hx2⟩ := List.mem_filter.mp hx
    have hxP : x ∉ P := by simpa using hx2
    obtain ⟨g, hg, rfl⟩ := List.mem_map.mp hx1
    have : ¬ ∀ e ∈ g.2.map (·.2), e ∈ P := fun hall => by
      have : g.1 ∈ rdyL (goL rows) P := mem_rdy.mpr ⟨g, hg, rfl, hxP, hall⟩
      rw [hr] at this
      cases this
    obtain ⟨b, hb⟩ := Classical.not_forall.mp this
    obtain ⟨hb1, hb2⟩ := Classical.not_imp.mp hb
    have hp : (g.1, b) ∈ alP rows := alP_goL.mpr ⟨g, hg, rfl, hb1⟩
    have hbU : b ∈ U := List.mem_filter.mpr ⟨by rw [goL_fst]; exact (alP_in hG hp).2, by simpa using hb2⟩
    have h1' := hs _ hp
    have h2' := hmin b hbU
    have h3 : h1 b < h1 g.1 := h1'
    omega
theorem fold_same {h : Wy → Int} : ∀ {ps : List Pr} {c : Bool}, (∀ p ∈ ps, h p.2 < h p.1) → ps.foldl stepH (h, c) = (h, c)
  | [], _, _ => rfl
  | p :: ps, c, hp => by
    have e : stepH (h, c) p = (h, c) := by
      unfold stepH
      rw [if_neg]
      have := hp p List.mem_cons_self
      show ¬ h p.1 ≤ h p.2
      omega
    rw [List.foldl_cons, e]
    exact fold_same fun q hq => hp q (List.mem_cons_of_mem _ hq)
theorem step_up {r : Wy → Int} {S : List Wy} {h : Wy → Int} {c : Bool} {p : Pr} (hp : p.2 ∈ S ∧ r p.2 < r p.1) (hr : ∀ x ∈ S, h x ≤ r x) : (∀ x ∈ S, (stepH (h, c) p).1 x ≤ r x) ∧ (∀ x, h x ≤ (stepH (h, c) p).1 x) ∧ h p.2 + 1 ≤ (stepH (h, c) p).1 p.1 := by
  unfold stepH
  by_cases z : h p.1 ≤ h p.2
  · rw [if_pos z]
    refine ⟨fun x hx => ?_, fun x => ?_, ?_⟩
    · show upF h p.1 (h p.2 + 1) x ≤ r x
      unfold upF
      by_cases y : x = p.1
      · rw [if_pos y, y]
        have := hr p.2 hp.1
        have := hp.2
        omega
      · rw [if_neg y]
        exact hr x hx
    · show h x ≤ upF h p.1 (h p.2 + 1) x
      unfold upF
      by_cases y : x = p.1
      · rw [if_pos y, y]
        omega
      · rw [if_neg y]
        exact Int.le_refl _
    · show h p.2 + 1 ≤ upF h p.1 (h p.2 + 1) p.1
      unfold upF
      rw [if_pos rfl]
      exact Int.le_refl _
  · rw [if_neg z]
    exact ⟨hr, fun x => Int.le_refl _, by show h p.2 + 1 ≤ h p.1; omega⟩
theorem fold_up {r : Wy → Int} {S : List Wy} : ∀ {ps : List Pr} {h : Wy → Int} {c : Bool}, (∀ p ∈ ps, p.2 ∈ S ∧ r p.2 < r p.1) → (∀ x ∈ S, h x ≤ r x) → (∀ x ∈ S, (ps.foldl stepH (h, c)).1 x ≤ r x) ∧ (∀ x, h x ≤ (ps.foldl stepH (h, c)).1 x) ∧ ∀ p ∈ ps, h p.2 + 1 ≤ (ps.foldl stepH (h, c)).1 p.1
  | [], h, c, _, hr => ⟨hr, fun x => Int.le_refl _, fun p hp => by cases hp⟩
  | p :: ps, h, c, hp, hr => by
    obtain ⟨s1, s2, s3⟩ := step_up (c := c) (hp p List.mem_cons_self) hr
    rw [List.foldl_cons]
    generalize stepH (h, c) p = s at *
    obtain ⟨h', c'⟩ := s
    obtain ⟨k1, k2, k3⟩ := fold_up (ps := ps) (h := h') (c := c') (fun q hq => hp q (List.mem_cons_of_mem _ hq)) s1
    refine ⟨k1, fun x => Int.le_trans (s2 x) (k2 x), fun q hq => ?_⟩
    rcases List.mem_cons.mp hq with y | y
    · rw [y]
      exact Int.le_trans s3 (k2 p.1)
    · have := s2 q.2
      have := k3 q y
      show h q.2 + 1 ≤ _
      have e1 : h q.2 ≤ h' q.2 := s2 q.2
      omega
theorem hgt_runs {ps : List Pr} {r : Wy → Int} {S : List Wy} {n : Int} (hp : ∀ p ∈ ps, p.1 ∈ S ∧ p.2 ∈ S ∧ r p.2 < r p.1) (hn : ∀ x ∈ S, r x ≤ n) (he : ∀ x ∈ S, 1 ≤ r x → ∃ p ∈ ps, p.1 = x ∧ r p.2 = r x - 1) :
    ∀ {m : Nat} {t : Int} {h : Wy → Int}, 0 ≤ t → n + 1 ≤ t + m → 1 ≤ m → (∀ x ∈ S, h x ≤ r x) → (∀ x ∈ S, r x ≤ h x ∨ t ≤ h x) → hgt ps m h ≠ none
  | 0, t, h, _, _, h1, _, _ => by omega
  | m + 1, t, h, ht, hm, _, hr, hl => by
    rw [hgt_succ]
    by_cases c : (passH ps h).2 = true
    · rw [if_pos c]
      obtain ⟨k1, k2, k3⟩ := fold_up (c := false) (fun p hq => (hp p hq).2) hr
      by_cases hm0 : m = 0
      · exfalso
        subst hm0
        have heq : ∀ x ∈ S, h x = r x := fun x hx => by
          have a := hr x hx
          have b := hn x hx
          rcases hl x hx with z | z
          · omega
          · omega
        have : passH ps h = (h, false) := fold_same fun p hq => by
          obtain ⟨a, b, d⟩ := hp p hq
          rw [heq _ a, heq _ b]
          exact d
        rw [this] at c
        cases c
      · refine hgt_runs hp hn he (t := t + 1) (by omega) (by push_cast at hm ⊢; omega) (by omega) k1 fun x hx => ?_
        by_cases y : r x ≤ t
        · left
          have b := k2 x
          rcases hl x hx with z | z
          · exact Int.le_trans z b
          · have := hr x hx
            have : r x ≤ h x := by omega
            exact Int.le_trans this b
        · right
          obtain ⟨p, hpp, rfl, e⟩ := he x hx (by omega)
          have b := k3 p hpp
          have a := (hp p hpp).2.1
          have d := hr _ a
          rcases hl _ a with z | z
          · have : t ≤ h p.2 := by omega
            show t + 1 ≤ (passH ps h).1 p.1
            have b' : h p.2 + 1 ≤ (passH ps h).1 p.1 := b
            omega
          · have b' : h p.2 + 1 ≤ (passH ps h).1 p.1 := b
            show t + 1 ≤ (passH ps h).1 p.1
            omega
    · rw [if_neg c]
      simp
/-- a ladder: its rungs, and heights -/
theorem lad_good {rows : List (List Wy)} (hG : GW rows) {P : List Wy} {h : Wy → Int} (e : ladR rows = some (P, h)) :
    P.Perm rows.flatten ∧ (∀ p ∈ alP rows, h p.2 < h p.1) ∧ hgt (alP rows) (rows.flatten.length + 1) (fun _ => 0) ≠ none := by
  have nd := goL_nd hG
  have hgl : (goL rows).length = rows.flatten.length := by rw [← goL_fst rows, List.length_map]
  obtain ⟨k, I, hl⟩ := lad_some nd (lad_start _) e
  have hin : ∀ x ∈ P, x ∈ rows.flatten := fun x hx => by
    have := I.inn x hx
    rw [goL_fst] at this
    exact this
  have hall : ∀ x ∈ rows.flatten, x ∈ P := fun x hx => Classical.byContradiction fun z => by
    have := nd_le (x :: P) rows.flatten (List.nodup_cons.mpr ⟨z, I.nd⟩) fun y hy => by
      rcases List.mem_cons.mp hy with w | w
      · rw [w]; exact hx
      · exact hin y w
    rw [List.length_cons] at this
    omega
  have hlt : ∀ p ∈ alP rows, h p.2 < h p.1 := fun p hp => by
    obtain ⟨a, b⟩ := p
    obtain ⟨g, hg, rfl, hb⟩ := alP_goL.mp hp
    exact (I.lt g hg (hall _ (alP_in hG hp).1) b hb).2
  refine ⟨(List.perm_ext_iff_of_nodup I.nd (gw_flat_nd hG)).mpr fun x => ⟨hin x, hall x⟩, hlt, ?_⟩
  have hPl := nd_le P rows.flatten I.nd hin
  refine hgt_runs (r := h) (S := rows.flatten) (n := rows.flatten.length) (fun p hp => ⟨(alP_in hG hp).1, (alP_in hG hp).2, hlt p hp⟩) (fun x hx => ?_) (fun x hx h1 => ?_) (t := 0) (Int.le_refl _) (by omega) (by omega) (fun x hx => ?_) (fun x hx => .inr (Int.le_refl _))
  · have := (I.rg x (hall x hx)).2
    have := I.ln
    omega
  · have hx' := hx
    rw [← goL_fst rows] at hx'
    obtain ⟨g, hg, rfl⟩ := List.mem_map.mp hx'
    obtain ⟨b, hb, _, hv⟩ := I.ex g hg (hall _ hx) h1
    exact ⟨(g.1, b), alP_goL.mpr ⟨g, hg, rfl, hb⟩, rfl, hv⟩
  · exact (I.rg x (hall x hx)).1
end Wk

set_option Elab.async false
set_option linter.all false
set_option maxRecDepth 100000
set_option maxHeartbeats 4000000
namespace Wk
open PySem PySem.Spec PyProof.Rows L2 Evl
/-! kinds -/
def IsK (K : PySem.W.Frag) (H : Hp) (v : V) (n : String) (b : Bool) : Prop := ∀ H', Ex H H' → ∃ t, TyX K H' v t ∧ PySem.W.kitOne K t (.type n) = some b
theorem isk_dT {K : PySem.W.Frag} {H : Hp} {a : Addr} {kvs : List (List L2.Key × V)} {n : String} {b : Bool} (h : H a = some (.dT kvs)) (hk : kitB "dict" n = some b) : IsK K H (.ref a) n b := fun H' e => ⟨_, .base (.dT (e _ _ h)), kit_ty hk⟩
section
variable {K : PySem.W.Frag} {σ : L2.St} {H : Hp} {ta : TE}
theorem ev_isk {v : V} {n : String} {b : Bool} (h : Ev ta σ H v) (hk : IsK K H v n b) : Ev (tCB (rIsi K) (tCons ta (tCons (tC (.ty n)) tNil))) σ H (.bl b) := fun H1 e Q q =>
  h H1 e _ fun H2 e2 => by
    obtain ⟨t, ht, hb⟩ := hk H2 (e.trans e2)
    exact ⟨v, .ty n, t, .type n, b, rfl, .ty n, ht, hb, q H2 e2⟩
end
section
variable {P : Program} {w : World} {K : PySem.W.Frag} {mg : Str → Option Value} {base : Heap} {f : Addr} {fd : FuncData}
/-! _law_is_ladder of a ladder -/
def spLIs : Sp := fun vs H Q _ => ∃ (v : V) (rows : List (List Wy)) (D : Addr) (h : Wy → Int), vs = [v, .ref D] ∧ Dq H v (pd rows) ∧ GW rows ∧ rows.length ≤ 8 ∧ (∀ row ∈ rows, row.length ≤ 6) ∧ H D = some (.dT (tabW (sortW rows.flatten) h)) ∧ (∀ p ∈ alP rows, h p.2 < h p.1) ∧ ∀ H', Ex H H' → Q (.bl true) H'
abbrev nLIs : List Str := ["_law_lists_here", "_law_thing", "_law_every", "_law_way", "_law_pair"]
abbrev sLIs : Stmt := top 39
theorem scLIs : FnScope nLIs ["_law_lists_here", "_law_thing"] (defScope sLIs) := ⟨rfl, rfl, rfl, by decide +kernel, rfl, by decide +kernel, by decide +kernel⟩
theorem ok_lis (B : Bl mg) (hdi : mg "dict" = none) (CP : Cal P w K mg base "_law_pairs" ["_law_lists_here"] 1 spPairs) (CW : Cal P w K mg base "_law_ways" ["_law_lists_here"] 2 spLWays) (F : FnP K "_law_is_ladder" sLIs f fd) : FnOk P w K mg base CX0 3 f fd ["_law_lists_here", "_law_thing"] spLIs := by
  refine F.ok scLIs (fun vs H Q E h => ?_) (fun cdv A outer s H vs Q E hr h => ?_)
  · obtain ⟨v, rows, D, h, rfl, _⟩ := h
    rfl
  · obtain ⟨v, rows, D, h, rfl, hv, hG, h8, h6, hD, hlt, k⟩ := h
    have hu : (A.deeper (envOfC "_law_is_ladder" (defScope sLIs) s.heap.objs.size f cdv)).units + 1 < cLine := by have := hr.un; omega
    have hr1 : Room 1 _ := hr.mono (by decide)
    refine ⟨_, pss_cons (ps_set (i := 2) scLIs.nd rfl (Or.inl rfl) (pe_cal CW hr (by rfl) (pa_cons (pv 0) pa_nil)))
      (pss_cons (ps_if (PW.pt (pw_or (pt_not (pt_val (pe_callB call_isi (by rfl) B.isi boot_isinstance (pa_cons (pv 1) (pa_cons (pe_bltn (v := .ty "dict") (by rfl) hdi PyProof.Rows.boot_dict rfl) pa_nil)))))
          (pw_or1 (pt_cmpR op_ne (pe_callB call_len_dT (by rfl) B.len PySem.boot_len (pa_cons (pv 1) pa_nil)) (pe_callB call_len_seq (by rfl) B.len PySem.boot_len (pa_cons (pv 2) pa_nil)) (nomark _))))) (pss_one (ps_ret pe_bl)) pss_nil)
      (pss_cons (ps_for (passes_of rfl) rfl (pi_list (pv 2)) (pg_name (i := 3) scLIs.nd rfl (Or.inl rfl))
        (pss_one (ps_if (PW.pt (pw_or (pt_cmp (pc_dnotin hu (pv 3) (pv 1))) (pw_or (pt_not (pt_val (pe_callB call_isi (by rfl) B.isi boot_isinstance (pa_cons (pe_dget hu (pv 1) (pv 3) (fun _ _ => rfl)) (pa_cons (pe_bltn (v := .ty "int") (by rfl) B.int PyProof.Rows.boot_int rfl) pa_nil)))))
            (pw_or1 (pt_val (pe_callB call_isi (by rfl) B.isi boot_isinstance (pa_cons (pe_dget hu (pv 1) (pv 3) (fun _ _ => rfl)) (pa_cons (pe_bltn (v := .ty "bool") (by rfl) B.bool PyProof.Rows.boot_bool rfl) pa_nil)))))))) (pss_one (ps_ret pe_bl)) pss_nil)))
      (pss_cons (ps_for (passes_of rfl) rfl (pi_listK (K := K) rfl (pe_cal CP hr1 (by rfl) (pa_cons (pv 0) pa_nil))) (pg_name (i := 4) scLIs.nd rfl (Or.inl rfl))
        (pss_one (ps_if (pt_cmpR op_le (pe_dget hu (pv 1) (pe_ix ix_tup (pv 4) pe_int (fun _ _ => rfl)) (fun _ _ => rfl)) (pe_dget hu (pv 1) (pe_ix ix_tup (pv 4) pe_int (fun _ _ => rfl)) (fun _ _ => rfl)) (nomark _)) (pss_one (ps_ret pe_bl)) pss_nil)))
      (pss_one (ps_ret pe_bl))))), ?_⟩
    have hlf := len_flat h6
    have hsm : ∀ x, x ∈ sortW rows.flatten ↔ x ∈ rows.flatten := fun x => (sortW_perm _).mem_iff
    have hsl : (sortW rows.flatten).length = rows.flatten.length := (sortW_perm _).length_eq
    refine ⟨v, rfl, v, rows, rfl, hv, hG, h8, h6, fun H1 L us e1 hL hL1 hd1 => ?_⟩
    refine g_name ?_
    dsimp only
    generalize hws : sortW rows.flatten = ws at *
    have hul := hd1.length
    rw [List.length_map] at hul
    have hD1 := e1 _ _ hD
    have c1 : Ev (tCB (rIsi K) (tCons (tVar 1) (tCons (tC (.ty "dict")) tNil))) [some v, some (.ref D), some (.ref L), none, none] H1 (.bl true) := ev_isk (K := K) (ev_var rfl) (isk_dT hD1 (show kitB "dict" "dict" = some true by decide +kernel))
    have c2 : Ev (tCB rLenT (tCons (tVar 1) tNil)) [some v, some (.ref D), some (.ref L), none, none] H1 (.int ((tabW ws h).length : Int)) := ev_lenD (K := K) (ev_var rfl) hD1 (by rw [tabW_len]; omega)
    have c3 : Ev (tCB (rLenS K) (tCons (tVar 2) tNil)) [some v, some (.ref D), some (.ref L), none, none] H1 (.int (us.length : Int)) := ev_len (ev_var rfl) (sq_of hL1)
    refine q_when (b := !true || !decide (V.int ((tabW ws h).length : Int) = V.int (us.length : Int))) (et_or (et_not (et_B c1)) fun _ => et_test (ev_op c2 c3 (rv_ne rfl))) (fun hb => ?_) (fun _ H2 e2 => ?_)
    · rw [tabW_len, hul] at hb
      simp at hb
    · have hd2 := hd1.mono e2
      have e12 := e1.trans e2
      have hD2 := e2 _ _ hD1
      refine q_forL (K := K) (ev_var rfl) (sq_of (e2 _ _ hL1)) (fun i σ' H' => ∃ o3, σ' = [some v, some (.ref D), some (.ref L), o3, none] ∧ Ex H2 H') (fun H3 e3 => ⟨_, rfl, e3⟩) (fun i σ' H' _ p => by
        obtain ⟨_, _, p⟩ := p
        exact sq_of (p _ _ (e2 _ _ hL1))) ?_ ?_
      · rintro i x σ' H3 hx ⟨o3, rfl, e3⟩
        obtain ⟨wy, hwy, hdw⟩ := hd2.wds_inv hx
        obtain ⟨oa, rfl, hoa⟩ := wd_ref hdw
        have hm : wy ∈ ws := List.mem_of_getElem? hwy
        have hoa3 := e3 _ _ hoa
        have hD3 := e3 _ _ hD2
        refine g_name ?_
        have dg : Ev (tDGet (tVar 1) (tVar 3)) [some v, some (.ref D), some (.ref L), some (.ref oa), none] H3 (.int (h wy)) := ev_dgetT (ev_var rfl) (ev_var rfl) hD3 hoa3 (tabW_val hm)
        have d1 := ev_isi (K := K) (n := "int") dg (Dq.int (h wy)) (show kitB (tyN (.int (h wy))) "int" = some true from k_ii)
        have d2 := ev_isi (K := K) (n := "bool") dg (Dq.int (h wy)) (show kitB (tyN (.int (h wy))) "bool" = some false from k_ib)
        refine s_when (b := !decide (wy ∈ ws) || (!true || false)) (et_or (et_B (ev_ninW (ev_var rfl) (ev_var rfl) hD3 hoa3)) fun _ => et_or (et_not (et_B d1)) fun _ => et_B d2) (fun hb => ?_) (fun _ H4 e4 => ⟨_, rfl, e3.trans e4⟩)
        rw [decide_eq_true hm] at hb
        simp at hb
      · rintro σ' H3 ⟨o3, rfl, e3⟩
        have e13 := e12.trans e3
        refine q_forC (K := K) (fun l xs H4 => Ex H3 H4 ∧ H4 l = some (.lst xs) ∧ PrL H4 xs (alP rows)) (fun Q' q => ⟨v, rfl, v, rows, rfl, hv.mono e13, hG, h8, h6, fun H4 l xs e hl h4 hp => q l xs H4 ⟨e, h4, hp⟩⟩) ?_
        rintro l xs H4 ⟨e4, hl4, hP4⟩
        have hD4 := e4 _ _ (e3 _ _ hD2)
        refine ⟨sq_of hl4, fun i σ' H' => ∃ o4, σ' = [some v, some (.ref D), some (.ref L), o3, o4] ∧ Ex H4 H', ⟨_, rfl, Ex.refl _⟩, fun i σ' H' _ p => ?_, ?_, ?_⟩
        · obtain ⟨_, _, p⟩ := p
          exact sq_of (p _ _ hl4)
        · rintro i x σ' H5 hx ⟨o4, rfl, e5⟩
          obtain ⟨pt, a, b, p, rfl, hp, hpt, hda, hdb⟩ := hP4.at hx
          obtain ⟨aa, rfl, haa⟩ := wd_ref hda
          obtain ⟨ba, rfl, hba⟩ := wd_ref hdb
          have hpm := List.mem_of_getElem? hp
          obtain ⟨i1, i2⟩ := alP_in hG hpm
          refine g_name ?_
          have da : Ev (tDGet (tVar 1) (tOp (rIxT K) (tVar 4) (tC (.int 0)))) [some v, some (.ref D), some (.ref L), o3, some (.ref pt)] H5 (.int (h p.1)) := ev_dgetT (ev_var rfl) (ev_op (ev_var rfl) ev_c (rv_ixT (st_of (e5 _ _ hpt)) (atI_nat (j := 0) rfl))) (e5 _ _ hD4) (e5 _ _ haa) (tabW_val ((hsm _).mpr i1))
          have db : Ev (tDGet (tVar 1) (tOp (rIxT K) (tVar 4) (tC (.int 1)))) [some v, some (.ref D), some (.ref L), o3, some (.ref pt)] H5 (.int (h p.2)) := ev_dgetT (ev_var rfl) (ev_op (ev_var rfl) ev_c (rv_ixT (st_of (e5 _ _ hpt)) (atI_nat (j := 1) rfl))) (e5 _ _ hD4) (e5 _ _ hba) (tabW_val ((hsm _).mpr i2))
          refine s_when (b := decide (h p.1 ≤ h p.2)) (et_test (ev_op da db rv_I0)) (fun hb => ?_) (fun _ H6 e6 => ⟨_, rfl, e5.trans e6⟩)
          have := of_decide_eq_true hb
          have := hlt p hpm
          omega
        · rintro σ' H5 ⟨o4, rfl, e5⟩
          exact k H5 ((e13.trans e4).trans e5)
end
end Wk

set_option Elab.async false
set_option linter.all false
set_option maxRecDepth 100000
set_option maxHeartbeats 4000000
namespace Wk
open PySem PySem.Spec PyProof.Rows L2 Evl
/-! for v in d.values(), d a dict whose keys are tuples -/
section
variable {X : Cx} {pins : List (Addr × Obj)} {σ : L2.St} {H : Hp} {s : Shared} {d : Addr} {o : Obj}
theorem frzTv {kvs : List (List L2.Key × V)} (I : Inv X pins σ H s) (h : H d = some (.frz o (.dT kvs))) :
    (d == sysModules) = false ∧ s.heap.get? d = some o ∧ o.ExactDict ∧ ∃ (es : Array DictEntry) (ep : Nat), o.data = .dict es ep ∧ es.size = kvs.length ∧
      ∀ (i : Nat) (k : List L2.Key) (v : V), kvs[i]? = some (k, v) → ∃ (en : DictEntry), es[i]? = some en ∧ RelV v en.val := by
  obtain ⟨hd, z, hs, xs, pr, o', es, ep, ho, hx, hdt, he, _⟩ := I.hok d _ h
  rw [hd] at ho
  cases ho
  refine ⟨hs, hd, hx, es, ep, hdt, ?_, fun i k v e => ?_⟩
  · have l1 : es.size = xs.length := size_of_entries he
    have l2 : kvs.length = xs.length := Paired.length pr
    omega
  · obtain ⟨b, hb, e1, e2, e3⟩ := L2.paired_get pr e
    have q := entry_at he i
    rw [hb] at q
    exact ⟨_, q, e3⟩
end
def Itvt (d : Addr) (o : Obj) (kvs : List (List L2.Key × V)) : It :=
  ⟨fun i H => H d = some (.frz o (.dT kvs)) ∧ i < kvs.length, fun i H x H' => H' = H ∧ ∃ k, kvs[i]? = some (k, x), fun i H => H d = some (.frz o (.dT kvs)) ∧ kvs.length ≤ i⟩
section
variable {P : Program} {w : World} {K : PySem.W.Frag} {tg : Expr} {d : Addr} {o : Obj} {es : Array DictEntry} {ep : Nat}
theorem turn_valsT {kvs : List (List L2.Key × V)} (it : Addr) (hod : o.data = .dict es ep) : Turn P w K tg (Itvt d o kvs) [it] it (fun i h => h.IsValIter it d i kvs.length ep) where
  mem := by simp
  obj := fun i h st b hb => by
    have e : b = it := by simpa using hb
    subst e
    obtain ⟨oi, e, c, dd⟩ := st
    exact ⟨oi, e, fun v z => by rw [dd] at z; cases z⟩
  keep := fun i h h' st k => st.at fun oi e => k it (by simp) oi e
  item := by
    intro X hP hw hK hc i pins s σ H E I hf st hg
    subst hP hw hK
    obtain ⟨hd, hi⟩ := hg
    obtain ⟨f0, f1, f2, f3, f4, f5⟩ := hf it (by simp)
    obtain ⟨hs, hgd, hx, es', ep', hdt, hsz, ent⟩ := frzTv I hd
    obtain ⟨rfl, rfl⟩ := dict_ep hod hdt
    obtain ⟨⟨k, v⟩, hkv⟩ : ∃ p, kvs[i]? = some p := ⟨kvs[i], List.getElem?_eq_getElem hi⟩
    obtain ⟨en, hen, ru⟩ := ent i k v hkv
    have hlt : i < es'.size := by omega
    have hget : es'[i] = en := by
      rw [Array.getElem?_eq_getElem hlt] at hen
      exact Option.some.inj hen
    rw [← hsz] at st
    refine wpAny_pyNext_values_item_raw st ⟨o, hgd, hx, hdt⟩ hlt fun h' st' sb => ?_
    have I1 : Inv X pins σ H { s with heap := h' } := I.turned (t' := s.toks) (fun b ob hb e => (sb.2 b hb).trans e) f0 f1 f3 f4 f5
    obtain ⟨oi, e, c, dd⟩ := id st'
    refine ⟨es'[i].val, rfl, go_of (s := { s with heap := h' }) e c dd (by decide) ⟨v, H, I1, by rw [hget]; exact ru, ⟨rfl, k, hkv⟩, ?_, fun b hb => (hf b hb).1⟩⟩
    show h'.IsValIter it d (i + 1) kvs.length _
    rw [← hsz]
    exact st'
  done := by
    intro X hP hw hK hc i pins s σ H E I hf st hg
    subst hP hw hK
    obtain ⟨hd, hi⟩ := hg
    obtain ⟨f0, f1, f2, f3, f4, f5⟩ := hf it (by simp)
    obtain ⟨hs, hgd, hx, es', ep', hdt, hsz, ent⟩ := frzTv I hd
    obtain ⟨rfl, rfl⟩ := dict_ep hod hdt
    rw [← hsz] at st
    exact wpAny_pyNext_values_end_raw (I.ok.hd hc) st ⟨o, hgd, hx, hdt⟩ (by omega) fun h' eb => ⟨rfl, I.turned (t' := s.toks) (fun b ob hb e => eb b ob hb e) f0 f1 f3 f4 f5⟩
  self := fun A i s Q E st h => wpAny_pyIter_valiter st h
theorem walk_valsT {kvs : List (List L2.Key × V)} : Walk (Itvt d o kvs) kvs.length (fun H => H d = some (.frz o (.dT kvs))) (fun i H x H' => H' = H ∧ ∃ k, kvs[i]? = some (k, x)) :=
  ⟨fun _ _ hi q => ⟨q, hi⟩, fun _ q => ⟨q, Nat.le_refl _⟩, fun _ _ _ _ _ _ y => y⟩
end
def iValsT (td : TE) : TI := fun σ H R => td σ H fun x H1 => ∃ d o kvs, x = .ref d ∧ H1 d = some (.frz o (.dT kvs)) ∧ R (Itvt d o kvs) H1
section
variable {X : Cx} {tg e : Expr} {td : TE} {apos cpos : Pos}
theorem pi_valuesT (he : PE X e td) (hbase : attributeBase e "values" X.env (eval e X.env) = eval e X.env := by rfl) (hline : (apos.endLine == cpos.line) = true := by rfl) : PI X tg (.Call (.Attribute e "values" apos) [] [] cpos) (iValsT td) := by
  refine ⟨fun pins s σ H R I h => ?_⟩
  refine wpAny_Call_method (T := "dict") (id := "dict.values") hbase rfl hline F.plainAttrs_dict F.slot_dict_values F.type_dict_values (thn (he.run pins s σ H _ I h) fun u s1 ⟨x, H1, I1, rx, d, o, kvs, ex, hd, q⟩ => ?_)
  subst ex
  obtain rfl : u = Value.ref d := rx
  obtain ⟨hs, hgd, hx, es, ep, hdt, hsz, ent⟩ := frzTv I1 hd
  have hm : s1.heap.DictRaw d es ep := ⟨o, hgd, hx, hdt⟩
  have hty : s1.TypeIs (.ref d) "dict" := ⟨o, hgd, hx.1⟩
  refine ⟨hty, fun a e => (by cases e; exact ⟨o, hgd, hx.2.1⟩), ?_⟩
  have I2 : Inv X pins σ H1 { s1 with heap := s1.heap.push { cls := .type "dict_values", data := .fields #[.ref d] } } := I1.kept (t' := s1.toks) fun b ob q => Heap.get?_push_of_some _ q
  have fin : wpAny (model X.prog X.w) X.A (pyIter (.ref s1.heap.objs.size)) (PIE X pins σ tg R) X.xe { s1 with heap := s1.heap.push { cls := .type "dict_values", data := .fields #[.ref d] } } := by
    refine wpAny_pyIter_values_raw (d := d) (es := es) (ep := ep) ⟨_, Heap.get?_push_size _ rfl, rfl, rfl⟩ ⟨o, Heap.get?_push_of_some _ hgd, hx, hdt⟩ (pi_one (tk := s1.toks) I2 _ (turn_valsT _ hdt) ⟨_, Heap.get?_push_size _ rfl, rfl, ?_⟩ q)
    rw [hsz] <;> rfl
  show wpAny _ _ (callWith cpos (.builtin "dict.values") [.ref d] [] []) _ X.xe s1
  exact method_meetsIn F.slot_dict_values F.entry_dict_values rfl (PySem.evalArgs_none ⟨rfl, hty, F.args_dict_values_1 _, _, meets_dict_values_raw d hs, ⟨es, ep, hm⟩, fin⟩)
end
/-! comprehensions over a dict whose keys are tuples -/
theorem lock_ex {H H' : Hp} {D : Addr} {o : HO} {fz : HO} (hD : H D = some o) (e : Ex (upd H D fz) H') : Ex H (upd H' D o) := fun b u hb => by
  by_cases z : b = D
  · rw [z, hD] at hb
    cases hb
    rw [z]
    exact upd_same
  · rw [upd_ne z]
    exact e _ _ (by rw [upd_ne z]; exact hb)
section
variable {σ : L2.St} {H : Hp} {te : TE} {D : Addr} {kvs : List (List L2.Key × V)} {n j : Nat} {vs : List Nat}
theorem el_keysT (v : Nat → V) (hσ : σ[n]? = some (some (.ref D))) (hD : H D = some (.dT kvs)) (hz : kvs.length ≤ 40000) (hw : ∀ x, wipe ((wipe σ vs).set j (some x)) vs = wipe σ vs)
    (he : ∀ (i : Nat) k x q H1, kvs[i]? = some (k, x) → H1 q = some (.tup (k.map kV)) → (∀ b o, b ≠ D → H b = some o → H1 b = some o) → Ev te ((wipe σ vs).set j (some (.ref q))) H1 (v i)) :
    EvL (tLockE (tLc (iKeys (tVar n)) (gName j) tYes te vs)) σ H ((List.range kvs.length).map v) := fun H0 e Q q => by
  have hD0 := e _ _ hD
  refine ⟨D, .dT kvs, hD0, trivial, fun od => ⟨.ref D, hσ, D, od, rfl, .inr ⟨kvs, upd_same, fun L hL => ?_⟩⟩⟩
  have nLD : L ≠ D := fun z => by rw [z, upd_same] at hL; cases hL
  have hHL : H0 L = none := by rw [upd_ne nLD] at hL; exact hL
  refine lc_it (walk_keysT (d := D) (o := od) (kvs := kvs)) (fun i H' => Ex (upd H0 D (.frz od (.dT kvs))) H' ∧ H' L = some (.lst ((List.range i).map v))) ⟨Ex.new hL, upd_same⟩ (fun i H' _ p => p.1 _ _ upd_same) (fun i x H' H2 hi p y => ?_) (fun H' p => ?_)
  · obtain ⟨rfl, k, u, t, hk, rfl, ht⟩ := y
    refine ⟨hw _, et_yes H2 (Ex.refl _) _ fun H3 e3 => ?_⟩
    rw [if_pos rfl]
    refine he i k u t H3 hk (e3 _ _ ht) (fun b o hb ho => e3 _ _ (p.1 _ _ (by rw [upd_ne hb]; exact e _ _ ho))) H3 (Ex.refl _) _ fun H4 e4 => ?_
    refine ⟨_, e4 _ _ (e3 _ _ p.2), by rw [List.length_map, List.length_range]; exact sz_lt (by omega), Ex.mut ((p.1.trans e3).trans e4) hL, ?_⟩
    rw [upd_same, List.range_succ, List.map_append]
    rfl
  · refine ⟨p.1 _ _ upd_same, q L _ hHL (lock_ex hD0 p.1) ?_⟩
    rw [upd_ne nLD]
    exact p.2
theorem el_valsT (v : Nat → V) (hσ : σ[n]? = some (some (.ref D))) (hD : H D = some (.dT kvs)) (hz : kvs.length ≤ 40000) (hw : ∀ x, wipe ((wipe σ vs).set j (some x)) vs = wipe σ vs)
    (he : ∀ (i : Nat) k x H1, kvs[i]? = some (k, x) → (∀ b o, b ≠ D → H b = some o → H1 b = some o) → Ev te ((wipe σ vs).set j (some x)) H1 (v i)) :
    EvL (tLockE (tLc (iValsT (tVar n)) (gName j) tYes te vs)) σ H ((List.range kvs.length).map v) := fun H0 e Q q => by
  have hD0 := e _ _ hD
  refine ⟨D, .dT kvs, hD0, trivial, fun od => ⟨.ref D, hσ, D, od, kvs, rfl, upd_same, fun L hL => ?_⟩⟩
  have nLD : L ≠ D := fun z => by rw [z, upd_same] at hL; cases hL
  have hHL : H0 L = none := by rw [upd_ne nLD] at hL; exact hL
  refine lc_it (walk_valsT (d := D) (o := od) (kvs := kvs)) (fun i H' => Ex (upd H0 D (.frz od (.dT kvs))) H' ∧ H' L = some (.lst ((List.range i).map v))) ⟨Ex.new hL, upd_same⟩ (fun i H' _ p => p.1 _ _ upd_same) (fun i x H' H2 hi p y => ?_) (fun H' p => ?_)
  · obtain ⟨rfl, k, hk⟩ := y
    refine ⟨hw _, et_yes H2 (Ex.refl _) _ fun H3 e3 => ?_⟩
    rw [if_pos rfl]
    refine he i k x H3 hk (fun b o hb ho => e3 _ _ (p.1 _ _ (by rw [upd_ne hb]; exact e _ _ ho))) H3 (Ex.refl _) _ fun H4 e4 => ?_
    refine ⟨_, e4 _ _ (e3 _ _ p.2), by rw [List.length_map, List.length_range]; exact sz_lt (by omega), Ex.mut ((p.1.trans e3).trans e4) hL, ?_⟩
    rw [upd_same, List.range_succ, List.map_append]
    rfl
  · refine ⟨p.1 _ _ upd_same, q L _ hHL (lock_ex hD0 p.1) ?_⟩
    rw [upd_ne nLD]
    exact p.2
end
section
variable {P : Program} {w : World} {K : PySem.W.Frag} {mg : Str → Option Value} {base : Heap} {f : Addr} {fd : FuncData} {CW CN : Addr}
theorem letB_wd {rows : List (List Wy)} (hG : GW rows) {x : Wy} (hx : x ∈ rows.flatten) : letB rows (wd x) = true := by
  obtain ⟨row, hr, hm⟩ := List.mem_flatten.mp hx
  obtain ⟨i, hi⟩ := List.mem_iff_getElem?.mp hr
  have ok := hG.ok i row hi x hm
  have hil := (List.getElem?_eq_some_iff.mp hi).1
  unfold letB
  rw [rts_wd]
  have h1 : intsB (wd x) = true := by
    unfold intsB wd
    show (true && (x.map PyData.int).all isI) = true
    rw [Bool.true_and, List.all_map, List.all_eq_true]
    intro y _
    rfl
  rw [h1, Bool.true_and]
  cases x with
  | nil => have := ok.l2; simp at this
  | cons r l =>
    have hr0 : r = (i : Int) := Option.some.inj ok.hd
    subst hr0
    show ((true && (decide (0 ≤ (i : Int)) && decide ((i : Int) ≤ (rows.length : Int) - 1))) && decide ((i : Int) :: l ∈ rows.getD ((i : Int)).toNat [])) = true
    rw [decide_eq_true (show 0 ≤ (i : Int) by omega), decide_eq_true (show (i : Int) ≤ (rows.length : Int) - 1 by omega), List.getD_eq_getElem?_getD, show ((i : Int)).toNat = i by omega, hi]
    simpa using hm
/-! is_ladder of a ladder -/
def spIsL (CW : Addr) : Sp := fun vs H Q _ => ∃ (G : Hp) (wv : V) (D : Addr) (rows : List (List Wy)) (h : Wy → Int), vs = [wv, .ref D] ∧ Ex G H ∧ G D = none ∧ WO CW G wv rows ∧ H D = some (.dT (tabW (sortW rows.flatten) h)) ∧ (∀ p ∈ alP rows, h p.2 < h p.1) ∧ ∀ H', Ex H H' → Q (.bl true) H'
abbrev nIsL : List Str := ["wishes", "thing", "way", "rung", "own", "pairs", "_", "end"]
abbrev sIsL : Stmt := top 28
theorem scIsL : FnScope nIsL ["wishes", "thing"] (defScope sIsL) := ⟨rfl, rfl, rfl, by decide +kernel, rfl, by decide +kernel, by decide +kernel⟩
theorem ok_isl (B : Bl mg) (hdi : mg "dict" = none) (C0 : Cal P w K mg base "is_integer" ["thing"] 1 spIsInt) (CB : Cal P w K mg base "is_let_way" ["wishes", "thing"] 6 (spLetWay CW)) (CL : Cal P w K mg base "let_ways" ["wishes"] 6 (spLetWays CW)) (CG : Cal P w K mg base "goings_on" ["wishes"] 7 (spGo CW)) (F : FnP K "is_ladder" sIsL f fd) : FnOk P w K mg base CX0 8 f fd ["wishes", "thing"] (spIsL CW) := by
  refine F.ok scIsL (fun vs H Q E h => ?_) (fun cdv A outer s H vs Q E hr h => ?_)
  · obtain ⟨G, wv, D, rows, h, rfl, _⟩ := h
    rfl
  · obtain ⟨G, wv, D, rows, h, rfl, eG, gD, hw, hD, hlt, k⟩ := h
    have hu : (A.deeper (envOfC "is_ladder" (defScope sIsL) s.heap.objs.size f cdv)).units + 1 < cLine := by have := hr.un; omega
    have hr1 : Room 1 _ := hr.mono (by decide)
    have hr6 : Room 6 _ := hr.mono (by decide)
    refine ⟨_, pss_cons (ps_if (PW.pt (pw_or (pt_not (pt_val (pe_callB call_isi (by rfl) B.isi boot_isinstance (pa_cons (pv 1) (pa_cons (pe_bltn (v := .ty "dict") (by rfl) hdi PyProof.Rows.boot_dict rfl) pa_nil)))))
          (pw_or1 (pt_not (pt_val (pe_callB (cr_all rfl) (by rfl) B.all boot_all (pa_cons (pe_lock (pe_lc (own := [("way", 2)]) (g := gName 2) (tt := tYes) rfl scIsL.nd (pi_keys (pv 1)) (blkOk_by (N := nIsL) (sc := defScope sIsL) (by decide +kernel))
            (fun _ _ _ _ _ => pg_name (i := 2) scIsL.nd rfl (Or.inl rfl)) (fun _ _ _ _ _ => pts_nil) (fun _ _ _ _ _ => pe_cal CB hr6 (by rfl) (pa_cons (pv 0) (pa_cons (pv 2) pa_nil))))) pa_nil))))))) (pss_one (ps_ret pe_bl)) pss_nil)
      (pss_cons (ps_if (PW.pt (pw_or (pt_cmpR op_ne (pe_callB call_len_dT (by rfl) B.len PySem.boot_len (pa_cons (pv 1) pa_nil)) (pe_callB call_len_seq (by rfl) B.len PySem.boot_len (pa_cons (pe_cal CL hr6 (by rfl) (pa_cons (pv 0) pa_nil)) pa_nil)) (nomark _))
          (pw_or1 (pt_not (pt_val (pe_callB (cr_all rfl) (by rfl) B.all boot_all (pa_cons (pe_lock (pe_lc (own := [("rung", 3)]) (g := gName 3) (tt := tYes) rfl scIsL.nd (pi_valuesT (pv 1)) (blkOk_by (N := nIsL) (sc := defScope sIsL) (by decide +kernel))
            (fun _ _ _ _ _ => pg_name (i := 3) scIsL.nd rfl (Or.inl rfl)) (fun _ _ _ _ _ => pts_nil) (fun _ _ _ _ _ => pe_cal C0 hr1 (by rfl) (pa_cons (pv 3) pa_nil)))) pa_nil))))))) (pss_one (ps_ret pe_bl)) pss_nil)
      (pss_one (ps_ret (pe_callB (cr_all rfl) (by rfl) B.all boot_all (pa_cons (pe_lc2 (own := [("own", 4), ("pairs", 5), ("_", 6), ("end", 7)]) (vs1 := [6, 7]) (g := gTup K 2 (gCons (gName 4) (gCons (gName 5) gNil))) (g1 := gTup K 2 (gCons (gName 6) (gCons (gName 7) gNil))) (tt := tYes) (tt1 := tYes) rfl scIsL.nd
          (pi_itemsT (pe_fz (pe_cal CG hr (by rfl) (pa_cons (pv 0) pa_nil)))) (blkOk_by (N := nIsL) (sc := defScope sIsL) (by decide +kernel)) (by decide)
          (fun _ _ _ _ _ => pg_tup rfl (pgs_cons (pg_name (i := 4) scIsL.nd rfl (.inl rfl)) (pgs_cons (pg_name (i := 5) scIsL.nd rfl (.inl rfl)) pgs_nil))) (fun _ _ _ _ _ => pts_nil)
          (fun _ _ _ _ _ => pi_listK (K := K) rfl (pv 5))
          (fun _ _ _ _ _ => pg_tup rfl (pgs_cons (pg_name (i := 6) scIsL.nd rfl (.inl rfl)) (pgs_cons (pg_name (i := 7) scIsL.nd rfl (.inl rfl)) pgs_nil))) (fun _ _ _ _ _ => pts_nil)
          (fun _ _ _ _ _ => pe_cmpR op_lt (pe_dget hu (pv 1) (pv 7) (fun _ _ => rfl)) (pe_dget hu (pv 1) (pv 4) (fun _ _ => rfl)) (nomark _))) pa_nil))))), ?_⟩
    have hG := hw.g
    have h6 := hw.r6
    have n8 := hw.n8
    have hlf := len_flat h6
    have hsm : ∀ x, x ∈ sortW rows.flatten ↔ x ∈ rows.flatten := fun x => (sortW_perm _).mem_iff
    have hsl : (sortW rows.flatten).length = rows.flatten.length := (sortW_perm _).length_eq
    generalize hws : sortW rows.flatten = ws at *
    have exG : ∀ {H1 : Hp}, (∀ b o, b ≠ D → H b = some o → H1 b = some o) → Ex G H1 := fun {H1} st b o hb => st b o (fun z => by rw [z, gD] at hb; cases hb) (eG _ _ hb)
    have hkv : ∀ {i : Nat} {k : List L2.Key} {x : V}, (tabW ws h)[i]? = some (k, x) → ∃ y, y ∈ ws ∧ k = keyW y ∧ x = .int (h y) := fun {i k x} e => by
      unfold tabW at e
      rw [List.getElem?_map] at e
      cases hq : ws[i]? with
      | none => rw [hq] at e; cases e
      | some y =>
        rw [hq] at e
        cases e
        exact ⟨y, List.mem_of_getElem? hq, rfl, rfl⟩
    have hal : ∀ n : Nat, ((List.range n).map fun _ => true).all id = true := fun n => by
      rw [List.all_map, List.all_eq_true]
      intro x _
      rfl
    have c1 : ∀ {H1 : Hp}, Ex H H1 → Ev (tCB (rIsi K) (tCons (tVar 1) (tCons (tC (.ty "dict")) tNil))) (start nIsL [wv, .ref D]) H1 (.bl true) := fun e => ev_isk (K := K) (ev_var rfl) (isk_dT (e _ _ hD) (show kitB "dict" "dict" = some true by decide +kernel))
    have c2 : Ev (tCB (rAll K) (tCons (tLockE (tLc (iKeys (tVar 1)) (gName 2) tYes (tCall (spLetWay CW) [] E0 (tCons (tVar 0) (tCons (tVar 2) tNil))) (List.map (fun x => x.2) [(Str.ofString "way", 2)]))) tNil)) (start nIsL [wv, .ref D]) H (.bl true) := by
      have q := ev_allL (K := K) (bs := (List.range (tabW ws h).length).map fun _ => true) (ta := tLockE (tLc (iKeys (tVar 1)) (gName 2) tYes (tCall (spLetWay CW) [] E0 (tCons (tVar 0) (tCons (tVar 2) tNil))) (List.map (fun x => x.2) [(Str.ofString "way", 2)]))) (σ := start nIsL [wv, .ref D]) (H := H) (by
        rw [List.map_map]
        exact el_keysT (D := D) (kvs := tabW ws h) (n := 1) (fun _ => V.bl true) rfl hD (by rw [tabW_len]; omega) (fun _ => rfl) fun i kk x q H1 e hq st => by
          obtain ⟨y, hy, rfl, rfl⟩ := hkv e
          rw [keyW_kV] at hq
          refine ev_call (ea_cons (ev_var rfl) (ea_cons (ev_var rfl) ea_nil)) (spP_v fun H2 e2 => ⟨wv, .ref q, wd y, rows, rfl, (hw.up (exG st)).up e2, wd_of (e2 _ _ hq), ?_, by rw [letB_wd hG ((hsm y).mp hy)]⟩)
          obtain ⟨row, hr, hm⟩ := List.mem_flatten.mp ((hsm y).mp hy)
          obtain ⟨j, hj⟩ := List.mem_iff_getElem?.mp hr
          have := (hG.ok j row hj y hm).l8
          show (y.map PyData.int).length ≤ 1000
          rw [List.length_map]
          omega)
      rw [hal] at q
      exact q
    refine q_when (b := !true || !true) (et_or (et_not (et_B (c1 (Ex.refl _)))) fun _ => et_not (et_B c2)) (fun hb => by simp at hb) fun _ H1 e1 => ?_
    have hD1 := e1 _ _ hD
    have hwH1 := (hw.up eG).up e1
    have c3 : Ev (tCB rLenT (tCons (tVar 1) tNil)) (start nIsL [wv, .ref D]) H1 (.int ((tabW ws h).length : Int)) := ev_lenD (K := K) (ev_var rfl) hD1 (by rw [tabW_len]; omega)
    have c4 : Ev (tCB (rLenS K) (tCons (tCall (spLetWays CW) [] E0 (tCons (tVar 0) tNil)) tNil)) (start nIsL [wv, .ref D]) H1 (.int (rows.flatten.length : Int)) := fun H2 e2 Q2 q =>
      ⟨wv, rfl, wv, rows, rfl, hwH1.up e2, fun H3 l us e3 hl hl3 hd => ⟨l, us, rfl, .inl (sq_of hl3), by
        have := hd.length
        rw [List.length_map] at this
        rw [this]
        exact q H3 e3⟩⟩
    have c5 : Ev (tCB (rAll K) (tCons (tLockE (tLc (iValsT (tVar 1)) (gName 3) tYes (tCall spIsInt [] E0 (tCons (tVar 3) tNil)) (List.map (fun x => x.2) [(Str.ofString "rung", 3)]))) tNil)) (start nIsL [wv, .ref D]) H1 (.bl true) := by
      have q := ev_allL (K := K) (bs := (List.range (tabW ws h).length).map fun _ => true) (ta := tLockE (tLc (iValsT (tVar 1)) (gName 3) tYes (tCall spIsInt [] E0 (tCons (tVar 3) tNil)) (List.map (fun x => x.2) [(Str.ofString "rung", 3)]))) (σ := start nIsL [wv, .ref D]) (H := H1) (by
        rw [List.map_map]
        exact el_valsT (D := D) (kvs := tabW ws h) (n := 1) (fun _ => V.bl true) rfl hD1 (by rw [tabW_len]; omega) (fun _ => rfl) fun i kk x H2 e st => by
          obtain ⟨y, hy, rfl, rfl⟩ := hkv e
          exact ev_call (ea_cons (ev_var rfl) ea_nil) (spP_v fun H3 e3 => ⟨_, .int (h y), rfl, .int _, rfl⟩))
      rw [hal] at q
      exact q
    refine q_when (b := !decide (V.int ((tabW ws h).length : Int) = V.int (rows.flatten.length : Int)) || !true) (et_or (et_test (ev_op c3 c4 (rv_ne rfl))) fun _ => et_not (et_B c5)) (fun hb => ?_) fun _ H2 e2 => ?_
    · rw [tabW_len, hsl] at hb
      simp at hb
    refine ret_cb ?_
    have hwH2 := hwH1.up e2
    have hD2 := e2 _ _ hD1
    refine ⟨wv, rfl, wv, rows, rfl, hwH2, fun H3 d0 kv0 e3 n0 hd0 hK0 => ⟨d0, _, rfl, hd0, trivial, fun od => ⟨d0, od, kv0, rfl, upd_same, fun L hL => ?_⟩⟩⟩
    have nD0 : L ≠ d0 := fun z => by rw [z, upd_same] at hL; cases hL
    have nDd : D ≠ d0 := fun z => by rw [← z, hD2] at n0; cases n0
    have hmv : ∀ b o, (∀ kvs, o ≠ .dT kvs) → H3 b = some o → (upd H3 d0 (.frz od (.dT kv0))) b = some o := fun b o n hb => by
      rw [upd_ne fun z => by rw [z, hd0] at hb; exact n _ (Option.some.inj hb).symm]
      exact hb
    have hK1 := hK0.mv hmv
    have hD4 : (upd H3 d0 (.frz od (.dT kv0))) D = some (.dT (tabW ws h)) := by rw [upd_ne nDd]; exact e3 _ _ hD2
    have eH4 : Ex H2 (upd H3 d0 (.frz od (.dT kv0))) := fun b o hb => by
      rw [upd_ne fun z => by rw [z, n0] at hb; cases hb]
      exact e3 _ _ hb
    have hd4 : (upd H3 d0 (.frz od (.dT kv0))) d0 = some (.frz od (.dT kv0)) := upd_same
    generalize upd H3 d0 (.frz od (.dT kv0)) = H4 at *
    have hkl := hK1.length
    have hgl : (goL rows).length = rows.flatten.length := by rw [← goL_fst rows, List.length_map]
    have wk := walk_itemsT (d := d0) (o := od) (kvs := kv0)
    refine ⟨fun i m H' => m = kv0.length - i ∧ i ≤ kv0.length ∧ Ex H4 H' ∧ ∃ n, H' L = some (.lst (List.replicate n (V.bl true))) ∧ n ≤ 48 * i, ⟨kv0.length, by simp, Nat.zero_le _, Ex.new hL, 0, upd_same, Nat.zero_le _⟩, ?_⟩
    rintro i m H5 ⟨rfl, hi, e5, n, hL5, hn⟩
    by_cases lt : i < kv0.length
    · refine .inr ⟨wk.goes i H5 lt (e5 _ _ hd4), fun H' => Ex H4 H' ∧ ∃ n, H' L = some (.lst (List.replicate n (V.bl true))) ∧ n ≤ 48 * (i + 1), fun H' z => ⟨kv0.length - (i + 1), by omega, rfl, lt, z⟩, fun x H6 y => ?_⟩
      obtain ⟨T, kk, v, q, hkv0, rfl, hT, hq, rfl⟩ := wk.yields i H5 x H6 lt (e5 _ _ hd4) y
      obtain ⟨g, Lg, us, hg, rfl, rfl, hLg, hPr⟩ := hK1.at hkv0
      have hgm := List.mem_of_getElem? hg
      have eT := Ex.new (o := .tup [.ref q, .ref Lg]) hT
      have hT6 : (upd H5 T (.tup [.ref q, .ref Lg])) T = some (.tup [.ref q, .ref Lg]) := upd_same
      have hL6 := eT _ _ hL5
      have hq6 := eT _ _ hq
      have e6 := e5.trans eT
      generalize upd H5 T (.tup [.ref q, .ref Lg]) = H6 at *
      rw [keyW_kV] at hq6
      refine ⟨T, [.ref q, .ref Lg], rfl, st_of hT6, rfl, _, _, rfl, ⟨_, _, rfl, ⟨rfl, rfl, et_yes H6 (Ex.refl _) _ fun H7 e7 => ?_⟩⟩⟩
      rw [if_pos rfl]
      have hsm48 := goL_small hG h6 hgm
      have hul := hPr.length
      have e47 := e6.trans e7
      have hLg7 := e47 _ _ hLg
      have hP7 := hPr.mono e47
      refine ⟨.ref Lg, rfl, Lg, rfl, ⟨us, sq_of hLg7⟩, fun j m H' => m = us.length - j ∧ j ≤ us.length ∧ Ex H4 H' ∧ H' L = some (.lst (List.replicate (n + j) (V.bl true))) ∧ (∀ b o, b ≠ L → H7 b = some o → H' b = some o), ⟨us.length, by simp, Nat.zero_le _, e47, e7 _ _ hL6, fun _ _ _ z => z⟩, ?_⟩
      rintro j m H8 ⟨rfl, hj, e8, hL8, hst8⟩
      have nLg : Lg ≠ L := fun z => by
        rw [z] at hLg
        have : H4 L = none := hL
        rw [this] at hLg
        cases hLg
      have hLg8 := hst8 _ _ nLg hLg7
      by_cases ltj : j < us.length
      · refine .inr ⟨walk_list.goes j H8 ltj (sq_of hLg8), fun H' => Ex H4 H' ∧ H' L = some (.lst (List.replicate (n + (j + 1)) (V.bl true))) ∧ (∀ b o, b ≠ L → H7 b = some o → H' b = some o), fun H' z => ⟨us.length - (j + 1), by omega, rfl, ltj, z.1, z.2⟩, ?_⟩
        intro y2 H9 hy2
        obtain ⟨rfl, hyj⟩ := walk_list.yields j H8 y2 H9 ltj (sq_of hLg8) hy2
        obtain ⟨pt, a, b, p, rfl, hp, hpt, hda, hdb⟩ := hP7.at hyj
        obtain ⟨ba, rfl, hba⟩ := wd_ref hdb
        have hpt9 := hst8 _ _ (fun z => by rw [z, e7 _ _ hL6] at hpt; cases hpt) hpt
        have hba9 := hst8 _ _ (fun z => by rw [z, e7 _ _ hL6] at hba; cases hba) hba
        have hq7 := e7 _ _ hq6
        have hq9 := hst8 _ _ (fun z => by rw [z, e7 _ _ hL6] at hq7; cases hq7) hq7
        have hD9 := e8 _ _ hD4
        have hpal : (g.1, p.2) ∈ alP rows := alP_goL.mpr ⟨g, hgm, rfl, List.mem_map.mpr ⟨p, List.mem_of_getElem? hp, rfl⟩⟩
        obtain ⟨i1, i2⟩ := alP_in hG hpal
        refine ⟨pt, [a, .ref ba], rfl, st_of hpt9, rfl, _, _, rfl, ⟨_, _, rfl, ⟨rfl, rfl, et_yes H9 (Ex.refl _) _ fun HA eA => ?_⟩⟩⟩
        rw [if_pos rfl]
        have d1 : Ev (tDGet (tVar 1) (tVar 7)) [some wv, some (.ref D), none, none, some (.ref q), some (.ref Lg), some a, some (.ref ba)] HA (.int (h p.2)) := ev_dgetT (ev_var rfl) (ev_var rfl) (eA _ _ hD9) (eA _ _ hba9) (tabW_val ((hsm _).mpr i2))
        have d2 : Ev (tDGet (tVar 1) (tVar 4)) [some wv, some (.ref D), none, none, some (.ref q), some (.ref Lg), some a, some (.ref ba)] HA (.int (h g.1)) := ev_dgetT (ev_var rfl) (ev_var rfl) (eA _ _ hD9) (eA _ _ hq9) (tabW_val ((hsm _).mpr i1))
        have dd := ev_op (r := rI0 fun i j => .bl (decide (i < j))) d1 d2 rv_I0
        rw [decide_eq_true (hlt _ hpal)] at dd
        refine dd HA (Ex.refl _) _ fun HB eB => ?_
        have eAB := eA.trans eB
        refine ⟨_, eAB _ _ hL8, by rw [List.length_replicate]; exact sz_lt (by omega), Ex.mut (e8.trans eAB) hL, ?_, fun b o nb hb => by rw [upd_ne nb]; exact eAB _ _ (hst8 b o nb hb)⟩
        rw [upd_same, ← Nat.add_assoc, List.replicate_succ']
      · have ej : j = us.length := by omega
        subst ej
        exact .inl ⟨walk_list.stops H8 (sq_of hLg8), e8, _, hL8, by omega⟩
    · have ei : i = kv0.length := by omega
      subst ei
      refine .inl ⟨wk.stops H5 (e5 _ _ hd4), L, List.replicate n true, rfl, sq_of (by rw [hL5, List.map_replicate]), ?_⟩
      have : (List.replicate n true).all id = true := by
        rw [List.all_eq_true]
        intro x hx
        exact (List.mem_replicate.mp hx).2
      rw [this]
      exact k H5 (((e1.trans e2).trans eH4).trans e5)
end
end Wk

set_option Elab.async false
set_option linter.all false
set_option maxRecDepth 100000
set_option maxHeartbeats 4000000
namespace Wk
open L2 PySem PySem.Spec PyProof.Rows Evl
/-! an own == that tells True or False -/
abbrev EqvB := V → V → Bool → Hp → Prop
def MonB (D : EqvB) : Prop := ∀ x y z H H', Ext H H' → D x y z H → D x y z H'
def RcB (X : Cx) (n : Nat) (D : EqvB) : Prop :=
  ∀ (A : Around) (pins : List (Addr × Obj)) (s : Shared) (σ : L2.St) (H : Hp) (x y : V) (u v : Value) (z : Bool), Sub X n A → Inv X pins σ H s → RelV x u → RelV y v → D x y z H →
    wpAny (model X.prog X.w) A (richCompare .Eq u v) (fun r s' => r = .bool z ∧ ∃ H', Inv X pins σ H' s' ∧ Ext H H') X.xe s
def EqB (X : Cx) (n : Nat) (D : EqvB) : Prop :=
  ∀ (A : Around) (pins : List (Addr × Obj)) (s : Shared) (σ : L2.St) (H : Hp) (x y : V) (u v : Value) (z : Bool), Sub X n A → Inv X pins σ H s → RelV x u → RelV y v → D x y z H →
    wpAny (model X.prog X.w) A (eqBool u v) (fun r s' => r = z ∧ ∃ H', Inv X pins σ H' s' ∧ Ext H H') X.xe s
def DInsB (C : Addr) (R : Addr → Addr → Bool → Hp → Prop) : EqvB := fun x y z H => ∃ a b dx dy fs gs, x = .ref a ∧ y = .ref b ∧ H a = some (.ins C dx fs) ∧ H b = some (.ins C dy gs) ∧ R a b z H
def spEqB (R : Addr → Addr → Bool → Hp → Prop) : Sp := fun vs H Q _ => ∃ a b z, vs = [.ref a, .ref b] ∧ R a b z H ∧ ∀ H', Ext H H' → Q (.bl z) H'
section
variable {X : Cx} {n : Nat} {D : EqvB}
theorem rcB_ins {CX : CXT} {C f : Addr} {fd : FuncData} {ps : List Str} {R : Addr → Addr → Bool → Hp → Prop} {E : XK} (F : FnOk X.prog X.w X.K X.mg X.base CX n f fd ps (spEqB R))
    (hs : PySem.W.findIn X.K (.ref C) "__eq__" = some (some (.ref f))) (hf : PySem.W.isFn X.K (.ref f) = true) (hb : Binds X.K fd ps []) (hx : Passes CX X E) : RcB X n (DInsB C R) := by
  intro A pins s σ H x y u v z sb I rx ry d
  obtain ⟨a, b, dx, dy, fs, gs, rfl, rfl, ha, hb', hr⟩ := d
  cases rx
  cases ry
  obtain ⟨mA, J, _⟩ := ins_get I.hok ha
  obtain ⟨mB, J', _⟩ := ins_get I.hok hb'
  obtain ⟨od, J, _⟩ := J.look
  obtain ⟨od', J', _⟩ := J'.look
  obtain ⟨m, hF⟩ := I.fr
  refine PySem.W.cmp_K (op := .Eq) (tb := .ref C) sb.room.units0 hF I.ok.mod.kin J J'.type (by simp [PySem.W.notFirst]) hs hf ?_
  have hsp : spEqB R [.ref a, .ref b] H (fun v H' => v = .bl z ∧ Ext H H') E := ⟨a, b, z, rfl, hr, fun H' e => ⟨rfl, e⟩⟩
  have e0 : Env0 X.prog X.w X.K X.mg X.base A X.stack s H := by
    have e := I.env0
    exact ⟨by rw [sb.fr]; exact e.frames, e.mod, e.bs, e.bsz, e.funs, e.frf, e.hok, e.bare⟩
  have hl := F.len _ _ _ _ hsp
  have r2 : Vals [V.ref a, V.ref b] [Value.ref a, Value.ref b] := .cons rfl (.cons rfl .nil)
  refine wpAny_call (codeAny_mono (F.run A X.stack s H ⟨[.ref a, .ref b], []⟩ [.ref a, .ref b] [.ref a, .ref b] _ E sb.room e0 (by
    have := hb s [.ref a, .ref b] I.kIn (by simpa using hl)
    simpa using this) r2 hsp) fun r s' hq => ?_)
  cases r with
  | error e => exact hx pins σ H s e s' I hq
  | ok fl =>
    cases fl with
    | ret w =>
      obtain ⟨zz, H', I', rz, ez, ex⟩ := I.after hq
      subst ez
      cases rz
      exact ⟨rfl, H', I', ex⟩
    | next => exact False.elim hq
    | brk => exact False.elim hq
    | cont => exact False.elim hq
def rEqB (D : EqvB) : R2 := fun x y H Q => ∃ z, D x y z H ∧ ∀ H', Ext H H' → Q (.bl z) H'
theorem op_eqB (h : RcB X n D) (hr : Room n X.A) : OpR X (compareOp .Eq) (rEqB D) := by
  intro pins s σ H x y v u Q I rx ry hq
  obtain ⟨z, d, q⟩ := hq
  show wpAny (model X.prog X.w) X.A (richCompare .Eq v u) (EP X pins σ Q) X.xe s
  refine wpAny_mono (h X.A pins s σ H x y v u z ⟨hr, rfl⟩ I rx ry d) (fun r s' zz => ?_) fun _ _ x => x
  obtain ⟨hr', H', I', e⟩ := zz
  subst hr'
  exact ⟨.bl z, H', I', rfl, q H' e⟩
end
theorem eqv_mapd {α : Type} [DecidableEq α] {f : α → PyData} (hf : ∀ a b, PyData.eqv (f a) (f b) = decide (a = b)) : ∀ a b : List α, PyData.eqvAll (a.map f) (b.map f) = decide (a = b)
  | [], [] => by simp [PyData.eqvAll]
  | [], _ :: _ => by simp [PyData.eqvAll]
  | _ :: _, [] => by simp [PyData.eqvAll]
  | x :: a, y :: b => by
    have ih := eqv_mapd hf a b
    simp only [List.map_cons, PyData.eqvAll, hf, ih]
    by_cases h : x = y
    · subst h; simp
    · simp [h]
theorem eqv_rd (a b : List Wy) : PyData.eqv (rd a) (rd b) = decide (a = b) := by
  unfold rd
  simp only [PyData.eqv]
  exact eqv_mapd eqv_wd a b
theorem eqv_pd (a b : List (List Wy)) : PyData.eqv (pd a) (pd b) = decide (a = b) := by
  unfold pd
  simp only [PyData.eqv]
  exact eqv_mapd eqv_rd a b
theorem shaped_pd (rows : List (List Wy)) : SeqAt.shaped (pd rows) = true := by
  have h1 : PyData.canLayAll0 (rows.map rd) = true := layAll.mpr fun d hd => by
    obtain ⟨w, _, rfl⟩ := List.mem_map.mp hd
    simp [rd, PyData.canLay0, lay_wds]
  have h2 : PyData.depthAll (rows.map rd) ≤ 2 := depAll.mpr fun d hd => by
    obtain ⟨w, _, rfl⟩ := List.mem_map.mp hd
    have := dep_wds w
    simp only [rd, PyData.depth]
    omega
  unfold SeqAt.shaped pd
  have : decide ((PyData.tuple (rows.map rd)).depth ≤ 64) = true := decide_eq_true (by simp only [PyData.depth]; omega)
  rw [this]
  simp [PyData.canLay0, h1]
/-- two wishes, by what they hold -/
def RW (CW : Addr) (a b : Addr) (z : Bool) (H : Hp) : Prop := ∃ rows rows', WO CW H (.ref a) rows ∧ WO CW H (.ref b) rows' ∧ z = decide (rows = rows')
def DW (CW : Addr) : EqvB := DInsB CW (RW CW)
theorem dw_of {CW : Addr} {H : Hp} {v v' : V} {rows rows' : List (List Wy)} (h : WO CW H v rows) (h' : WO CW H v' rows') : DW CW v v' (decide (rows = rows')) H := by
  obtain ⟨a, dx, lv, rfl, ha, _⟩ := id h.ex
  obtain ⟨b, dy, lv', rfl, hb, _⟩ := id h'.ex
  exact ⟨a, b, dx, dy, _, _, rfl, rfl, ha, hb, rows, rows', h, h', rfl⟩

section
variable {K : PySem.W.Frag} {σ : L2.St} {H : Hp} {ta : TE}
theorem ev_isiO {CW : Addr} {v : V} (T : ITx K CW) (me : PySem.W.kitOne K (.ref CW) (.ref CW) = some true) (h : Ev ta σ H v) (hv : ∃ a dx fs, v = .ref a ∧ H a = some (.ins CW dx fs)) : Ev (tCB (rIsi K) (tCons ta (tCons (tC (.ref CW)) tNil))) σ H (.bl true) := by
  obtain ⟨a, dx, fs, rfl, h2⟩ := hv
  exact fun H1 e Q q => h H1 e _ fun H2 e2 => ⟨.ref a, .ref CW, .ref CW, .ref CW, true, rfl, .own CW, .base (.ins ((e.trans e2) _ _ h2) T.cl T.ha T.hn T.ht T.hm), me, q H2 e2⟩
end
section
variable {P : Program} {w : World} {K : PySem.W.Frag} {mg : Str → Option Value} {base : Heap} {f : Addr} {fd : FuncData} {CW CB : Addr}
/-! Wishes.__eq__ -/
abbrev sWEq : Stmt := inClass (top 17) 1
theorem scWEq : FnScope ["self", "other"] ["self", "other"] (defScope sWEq) := ⟨rfl, rfl, rfl, by decide +kernel, rfl, by decide +kernel, by decide +kernel⟩
theorem ok_weq (B : Bl mg) (X : WTx K mg CW) (T : ITx K CW) (me : PySem.W.kitOne K (.ref CW) (.ref CW) = some true) (F : FnM K "__eq__" "Wishes.__eq__" sWEq f fd) : FnOk P w K mg base CX0 1 f fd ["self", "other"] (spEqB (RW CW)) := by
  refine F.ok scWEq (fun vs H Q E h => ?_) (fun cdv A outer s H vs Q E hr h => ?_)
  · obtain ⟨a, b, z, rfl, _⟩ := h
    rfl
  · obtain ⟨a, b, z, rfl, ⟨rows, rows', hw, hw', rfl⟩, k⟩ := h
    refine ⟨_, pss_one (ps_ret (pe_and (pe_callB call_isi (by rfl) B.isi boot_isinstance (pa_cons (pv 1) (pa_cons (pe_glob (v := .ref CW) (by rfl) X.g rfl) pa_nil)))
      (pe_one (pe_cmpR (op_eqD hr.units) (pe_fld (pv 0) rfl) (pe_fld (pv 1) rfl) (nomark _))))), ?_⟩
    obtain ⟨a', dx, lv, ea, ha, hl⟩ := id hw.ex
    obtain ⟨b', dy, lv', eb, hb, hl'⟩ := id hw'.ex
    cases ea
    cases eb
    have f0 : Ev (tFld K (tVar 0) "_lists") (start ["self", "other"] [.ref a, .ref b]) H lv := fun H2 e2 Q2 q => ⟨.ref a, rfl, a, CW, dx, _, _, rfl, e2 _ _ ha, X.cl, X.nL, wf_lists _ _, q H2 (Ex.refl H2)⟩
    have f1 : Ev (tFld K (tVar 1) "_lists") (start ["self", "other"] [.ref a, .ref b]) H lv' := fun H2 e2 Q2 q => ⟨.ref b, rfl, b, CW, dy, _, _, rfl, e2 _ _ hb, X.cl, X.nL, wf_lists _ _, q H2 (Ex.refl H2)⟩
    refine s_ret (v := .bl (decide (rows = rows'))) (ev_is (ev_andV (a := true) (b := decide (rows = rows')) (ev_isiO T me (ev_var rfl) ⟨b, dy, _, rfl, hb⟩) fun _ => ev_op f0 f1 fun H2 e2 Q2 q2 => ⟨pd rows, pd rows', Dq.dp (SeqAt.canLay_of_shaped (shaped_pd _)) (hl.mono e2), Dq.dp (SeqAt.canLay_of_shaped (shaped_pd _)) (hl'.mono e2), shaped_pd _, shaped_pd _, by rw [eqv_pd]; exact q2 H2 (Ex.refl _)⟩) rfl) fun H2 e2 => k H2 e2
structure MqW (P : Program) (w : World) (K : PySem.W.Frag) (mg : Str → Option Value) (base : Heap) (CW : Addr) : Prop where
  ex : ∃ (fE : Addr) (fd : FuncData), Meth K CW "__eq__" fE ∧ FnOk P w K mg base CX0 1 fE fd ["self", "other"] (spEqB (RW CW)) ∧ Binds K fd ["self", "other"] []
theorem rc_DW {X : Cx} (M : MqW X.prog X.w X.K X.mg X.base CW) : RcB X 1 (DW CW) := by
  obtain ⟨fE, fd, me, Fn, b⟩ := M.ex
  exact rcB_ins (E := E0) Fn me.at_ me.fn b pass0
structure MkW (P : Program) (w : World) (K : PySem.W.Frag) (mg : Str → Option Value) (base : Heap) (CW CB : Addr) : Prop where
  tx : WTx K mg CW
  ex : ∃ (fI : Addr) (fd : FuncData), Mk K CW fI ∧ FnOk P w K mg base (L2.CX P w) 8 fI fd ["self", "lists"] (spWI CW CB) ∧ Binds K fd ["self", "lists"] []
end
end Wk

set_option Elab.async false
set_option linter.all false
set_option maxRecDepth 100000
set_option maxHeartbeats 4000000
namespace Wk
open PySem PySem.Spec PyProof.Rows L2 Evl LamX NdefX LmP
section
variable {P : Program} {w : World} {K : PySem.W.Frag} {mg : Str → Option Value} {base : Heap} {f : Addr} {fd : FuncData}
def spLst (Pt : Addr) : Sp := fun vs H Q _ => ∃ (G : Hp) (p q : Addr) (M : Nat) (T : Int) (L : Nat), vs = [.ref p, .int (M : Int), .int T, .int (L : Int)] ∧ Pl G H p q ∧ NoT G ∧ Tabs (TL Pt) H ∧ 2 ≤ M ∧ M ≤ 8 ∧ 0 ≤ T ∧ T ≤ 1000 ∧ 2 ≤ L ∧ L ≤ 6 ∧ ∀ G' H' v rows, Ex G G' → Pl G' H' p q → Dq G' v (pd rows) → rows.length = M → GW rows → (∀ row ∈ rows, row.length ≤ L) → Q v H'
theorem ok_lists {c Pt : Addr} (B : Bl mg) (hso : mg "sorted" = none) (hmx : mg "max" = none) (TB : TabB base mg c Pt) (C : Cal P w K mg base "_law_draw" ["_law_pool_here", "_law_many"] 2 spDraw) (C2 : Cal P w K mg base "_law_shuffled" ["_law_pool_here", "_law_row"] 3 (spShuf K)) (C3 : Cal P w K mg base "_law_plan" ["_law_kind"] 1 spPlan) (F : FnP K "_law_lists" sLst f fd) (hcd : fd.code = .ref c) :
    FnOk P w K mg base CX0 5 f fd ["_law_pool_here", "_law_many", "_law_turns", "_law_most"] (spLst Pt) := by
  refine okC F hcd scLst (fun vs H Q E h => ?_) (fun A outer s H vs Q E hr h => ?_)
  · obtain ⟨G, p, q, M, T, L, rfl, _⟩ := h
    rfl
  · obtain ⟨G, p, q, M, T, L, rfl, hP, hN, hT, hM2, hM8, hT0, hT1, hL2, hL6, k⟩ := h
    have hu : (A.deeper (envOfC "_law_lists" (defScope sLst) s.heap.objs.size f (.ref c))).units + 65 < cLine := by have := hr.un; omega
    have hr2 : Room 2 _ := hr.mono (by decide)
    have hr3 : Room 3 _ := hr.mono (by decide)
    have hr1 : Room 1 _ := hr.mono (by decide)
    refine ⟨_, pss_cons (ps_set (i := 4) scLst.nd rfl (Or.inl rfl) (pe_cal C hr2 (by rfl) (pa_cons (pv 0) (pa_cons pe_int pa_nil))))
      (pss_cons (ps_set (i := 5) scLst.nd rfl (Or.inl rfl) (pe_cal C hr2 (by rfl) (pa_cons (pv 0) (pa_cons pe_int pa_nil))))
      (pss_cons (ps_setLc (i := 6) (own := [("_law_k", 9)]) (g := gName 9) (tt := tYes) rfl scLst.nd rfl rfl (sw_true rfl rfl rfl (by decide +kernel)) (pi_range1 (by rfl) B.range (pa_cons (pv 1) pa_nil)) (blkOk_by (N := nLst) (sc := defScope sLst) (by decide +kernel))
          (fun _ _ _ _ _ => pg_name (i := 9) scLst.nd rfl (Or.inl rfl)) (fun _ _ _ _ _ => pts_nil) (fun _ _ _ _ _ => pe_lst pa_nil))
      (pss_cons (ps_set (i := 7) scLst.nd rfl (Or.inr rfl) (pe_op op_cat (pe_lst (pa_cons pe_int pa_nil)) (pe_cal C2 hr3 (by rfl) (pa_cons (pv 0) (pa_cons (pe_listRg rfl (by rfl) B.list (prg_2 (by rfl) B.range pe_int (pv 1))) pa_nil)))))
      (pss_cut (ps_for (passes_of rfl) rfl (pi_listK (K := K) rfl (pe_cal C3 hr1 (by rfl) (pa_cons (pv 4) pa_nil))) (pg_name (i := 8) scLst.nd rfl (Or.inl rfl))
          (pss_one (ps_if (pt_cmpR op_lt (pe_callB (cr_maxT (K := K) rfl rfl hu) (by rfl) hmx boot_max (pa_cons (pv 8) pa_nil)) (pv 1) (nomark _))
            (pss_one (ps_expr (pe_bm PySem.F.plainAttrs_list PySem.F.slot_list_append PySem.F.type_list_append mt_append (pe_ix (ix_listK (K := K) rfl) (pv 6) (pe_ix (ix_listK (K := K) rfl) (pv 7) (pe_ix ix_tup (pv 8) pe_int (fun _ _ => rfl)) (fun _ _ => rfl)) (fun _ _ => rfl))
              (pa_cons (pe_callTy (call_tupleK (K := K) rfl) (by rfl) B.tuple PyProof.Rows.boot_tuple (pa_cons (pe_lc (own := [("_law_router", 10)]) (g := gName 10) (tt := tYes) rfl scLst.nd (pi_tupK (K := K) rfl (pv 8)) (blkOk_by (N := nLst) (sc := defScope sLst) (by decide +kernel))
                (fun _ _ _ _ _ => pg_name (i := 10) scLst.nd rfl (Or.inl rfl)) (fun _ _ _ _ _ => pts_nil) (fun _ _ _ _ _ => pe_ix (ix_listK (K := K) rfl) (pv 7) (pv 10) (fun _ _ => rfl))) pa_nil)) pa_nil)))) pss_nil)))
      (pss_cut (ps_for (passes_of rfl) rfl (pi_range1 (by rfl) B.range (pa_cons (pv 2) pa_nil)) (pg_name (i := 9) scLst.nd rfl (Or.inl rfl))
          (pss_cons (ps_set (i := 10) scLst.nd rfl (Or.inr rfl) (pe_op op_add pe_int (pe_cal C hr2 (by rfl) (pa_cons (pv 0) (pa_cons (pe_op op_sub (pv 1) pe_int) pa_nil)))))
          (pss_cons (ps_set (i := 11) scLst.nd rfl (Or.inl rfl) (pe_lst (pa_cons (pe_tup (pa_cons pe_int pa_nil)) pa_nil)))
          (pss_cons (ps_for (passes_of rfl) rfl (pi_list (pv 6)) (pg_name (i := 12) scLst.nd rfl (Or.inl rfl))
            (pss_one (ps_set (i := 11) scLst.nd rfl (Or.inl rfl) (pe_op op_cat (pv 11) (pe_lc (own := [("_law_way", 8)]) (g := gName 8) rfl scLst.nd (pi_listK (K := K) rfl (pv 12)) (blkOk_by (N := nLst) (sc := defScope sLst) (by decide +kernel))
                (fun _ _ _ _ _ => pg_name (i := 8) scLst.nd rfl (Or.inl rfl)) (fun _ _ _ _ _ => pts_one (pt_cmpR (op_notInK (K := K) rfl) (pv 10) (pv 8) rfl)) (fun _ _ _ _ _ => pv 8))))))
          (pss_cons (ps_set (i := 8) scLst.nd rfl (Or.inl rfl) (pe_op op_catA (pe_tup (pa_cons (pv 10) pa_nil)) (pe_ix (ix_listK (K := K) rfl) (pv 11) (pe_cal C hr2 (by rfl) (pa_cons (pv 0) (pa_cons (pe_callB call_len_seq (by rfl) B.len PySem.boot_len (pa_cons (pv 11) pa_nil)) pa_nil))) (fun _ _ => rfl))))
          (pss_one (ps_if (PW.pt (pw_and (pt_cmpR (op_notInD hu) (pv 8) (pe_ix (ix_listK (K := K) rfl) (pv 6) (pv 10) (fun _ _ => rfl)) rfl) (pw_and1 (pt_cmpR op_lt (pe_callB call_len_seq (by rfl) B.len PySem.boot_len (pa_cons (pe_ix (ix_listK (K := K) rfl) (pv 6) (pv 10) (fun _ _ => rfl)) pa_nil)) (pv 3) (nomark _)))))
            (pss_one (ps_expr (pe_bm PySem.F.plainAttrs_list PySem.F.slot_list_insert PySem.F.type_list_insert mt_insert (pe_ix (ix_listK (K := K) rfl) (pv 6) (pv 10) (fun _ _ => rfl)) (pa_cons (pe_cal C hr2 (by rfl) (pa_cons (pv 0) (pa_cons (pe_op op_add (pe_callB call_len_seq (by rfl) B.len PySem.boot_len (pa_cons (pe_ix (ix_listK (K := K) rfl) (pv 6) (pv 10) (fun _ _ => rfl)) pa_nil)) pe_int) pa_nil))) (pa_cons (pv 8) pa_nil))))) pss_nil)))))))
      (pss_cut (ps_if (pt_cmpR op_eq (pv 5) pe_int (nomark _)) (pss_one (ps_setLc (i := 6) (own := [("_law_row", 12)]) (g := gName 12) (tt := tYes) rfl scLst.nd rfl rfl (sw_true rfl rfl rfl (by decide +kernel)) (pi_listK (K := K) rfl (pv 6)) (blkOk_by (N := nLst) (sc := defScope sLst) (by decide +kernel))
          (fun _ _ _ _ _ => pg_name (i := 12) scLst.nd rfl (Or.inl rfl)) (fun _ _ _ _ _ => pts_nil) (fun _ _ _ _ _ => pe_sortKK (K := K) (q := qLk) (mk := mkL lamA) (e := lmB lamA) (x := "_law_way") (neg := false) rfl (fun _ => keyS_A) keyB_A (fun _ _ _ _ => rfl) rfl hr1 B.len (by rfl) hso (pa_cons (pv 12) pa_nil)
            (pk_cons (pe_lamK (T := TL Pt) (q := qLk) (mk := mkL lamA) (params := lmP lamA) (scope := lmS lamA) TB rfl rfl rfl (List.mem_singleton.mpr rfl) (fun p hp _ => by rw [List.mem_singleton.mp hp]) rfl (by decide +kernel)) pk_nil)))) pss_nil)
      (pss_cut (ps_if (pt_cmpR op_eq (pv 5) pe_int (nomark _)) (pss_one (ps_setLc (i := 6) (own := [("_law_row", 12)]) (g := gName 12) (tt := tYes) rfl scLst.nd rfl rfl (sw_true rfl rfl rfl (by decide +kernel)) (pi_listK (K := K) rfl (pv 6)) (blkOk_by (N := nLst) (sc := defScope sLst) (by decide +kernel))
          (fun _ _ _ _ _ => pg_name (i := 12) scLst.nd rfl (Or.inl rfl)) (fun _ _ _ _ _ => pts_nil) (fun _ _ _ _ _ => pe_sortKK (K := K) (q := qLk) (mk := mkL lamB) (e := lmB lamB) (x := "_law_way") (neg := true) rfl (fun _ => keyS_B) keyB_B (fun _ _ _ _ => rfl) rfl hr1 B.len (by rfl) hso (pa_cons (pv 12) pa_nil)
            (pk_cons (pe_lamK (T := TL Pt) (q := qLk) (mk := mkL lamB) (params := lmP lamB) (scope := lmS lamB) TB rfl rfl rfl (List.mem_singleton.mpr rfl) (fun p hp _ => by rw [List.mem_singleton.mp hp]) rfl (by decide +kernel)) pk_nil)))) pss_nil)
      (pss_one (ps_ret (pe_callTy (call_tupF (K := K) rfl) (by rfl) B.tuple PyProof.Rows.boot_tuple (pa_cons (pe_lc (own := [("_law_row", 12)]) (g := gName 12) (tt := tYes) rfl scLst.nd (pi_list (pv 6)) (blkOk_by (N := nLst) (sc := defScope sLst) (by decide +kernel))
          (fun _ _ _ _ _ => pg_name (i := 12) scLst.nd rfl (Or.inl rfl)) (fun _ _ _ _ _ => pts_nil) (fun _ _ _ _ _ => pe_callTy (call_tupF (K := K) rfl) (by rfl) B.tuple PyProof.Rows.boot_tuple (pa_cons (pv 12) pa_nil))) pa_nil))))))))))), ?_⟩
    refine ⟨.ref p, rfl, Hd H p q, p, q, 8, rfl, hP.hd, by decide, by decide, fun H1 kd hP0 hk0 hk1 => ?_⟩
    have hP1 := hP.back hP0
    have hTa := tabs_off hT hP hP0.off
    refine g_name ?_
    refine ⟨.ref p, rfl, Hd H1 p q, p, q, 4, rfl, hP1.hd, by decide, by decide, fun H2 od hP00 ho0 ho1 => ?_⟩
    have hP2 := hP1.back hP00
    have hTb := tabs_off hTa hP1 hP00.off
    refine g_name ?_
    clear hP0 hP00 hP hT hP1 hTa
    refine ⟨.int (M : Int), rfl, (M : Int), rfl, by omega, by omega, fun R hR => lc_range (lo := 0) (n := (M : Int).toNat) (fun i H' => ∃ rs : List Addr, Ex H2 H' ∧ H' R = some (.lst (rs.map V.ref)) ∧ rs.length = i ∧ R ∉ rs ∧ rs.Nodup ∧ ∀ r ∈ rs, H2 r = none ∧ H' r = some (.lst [])) ⟨[], Ex.new hR, upd_same, rfl, by simp, List.nodup_nil, by simp⟩ ?_ ?_⟩
    · rintro i H' hi ⟨rs, e, hRl, hl, hnin, hnd, hrow⟩
      refine ⟨rfl, Nat.zero_le _, fun b hb => ?_⟩
      have nRb : R ≠ b := ne_of_none hRl hb
      have hbn : b ∉ rs := fun z => by
        have := (hrow b z).2
        rw [hb] at this
        cases this
      refine ⟨_, by rw [upd_ne nRb]; exact hRl, by rw [List.length_map, sizeLine_eq]; omega, rs ++ [b], fun c o hc => ?_, by rw [upd_same, List.map_append]; rfl, by simp [hl], fun z => ?_, nd_snoc hnd hbn, fun r hr => ?_⟩
      · have h1 := e _ _ hc
        rw [upd_ne (ne_of_none hc hR), upd_ne (ne_of_none h1 hb)]
        exact h1
      · rcases List.mem_append.mp z with z | z
        · exact hnin z
        · exact nRb (List.mem_singleton.mp z)
      · rcases List.mem_append.mp hr with z | z
        · obtain ⟨r1, r2⟩ := hrow r z
          have nr : r ≠ R := fun c => hnin (by rw [← c]; exact z)
          exact ⟨r1, by rw [upd_ne nr, upd_ne (ne_of_none r2 hb)]; exact r2⟩
        · rw [List.mem_singleton.mp z]
          exact ⟨fresh_back e hb, by rw [upd_ne (Ne.symm nRb), upd_same]⟩
    rintro H3 ⟨rs, e3, hRl, hrl, hnin, hnd, hrow⟩
    have hrl' : rs.length = M := by omega
    have hP3 := hP2.ext e3
    have hTc := hTb.ext e3
    have hW3 : Rz G H3 p q R rs (List.replicate M []) := ⟨hRl, fresh_back hP2.ex hR, hP2.np hR, hP2.nq hR, hnin, hnd, by rw [hrl', List.length_replicate], fun i r row hr hw => by
      have hm := hrow r (List.mem_of_getElem? hr)
      have er : row = [] := (List.mem_replicate.mp (List.mem_of_getElem? hw)).2
      subst er
      exact ⟨fresh_back hP2.ex hm.1, hP2.np hm.1, hP2.nq hm.1, [], hm.2, .nil⟩⟩
    have hE0 : ∀ row ∈ List.replicate M ([] : List Wy), row = [] := fun row hm => (List.mem_replicate.mp hm).2
    clear hrow hTb hP2
    refine g_name ?_
    -- the names
    refine ⟨by show 1 ≤ sizeLine; decide, fun a0 ha0 => ?_⟩
    have e4 := Ex.new (o := .lst [V.int 0]) ha0
    have h04 : (upd H3 a0 (.lst [V.int 0])) a0 = some (.lst [V.int 0]) := upd_same
    have hP4 := hP3.ext e4
    have hW4 := hW3.ext e4
    have hTd := hTc.ext e4
    have p0 := hP3.np ha0
    have q0 := hP3.nq ha0
    generalize upd H3 a0 (.lst [V.int 0]) = H4 at *
    refine ⟨.ref p, rfl, .int (M : Int), rfl, 1, (M : Int), rfl, rfl, RgOk.of_le (by decide) (by omega) (by decide) (by omega), fun a1 ha1 => ?_⟩
    have e5 := Ex.new (o := .lst (rgV 1 (M : Int))) ha1
    have h15 : (upd H4 a1 (.lst (rgV 1 (M : Int)))) a1 = some (.lst (rgV 1 (M : Int))) := upd_same
    have h05 := e5 _ _ h04
    have hP5 := hP4.ext e5
    have hW5 := hW4.ext e5
    have hTe := hTd.ext e5
    generalize upd H4 a1 (.lst (rgV 1 (M : Int))) = H5 at *
    refine ⟨G, p, q, a1, _, rfl, hP5, sq_of h15, by rw [rgV_length]; omega, fun H6 b us hP6 hO6 hb5 hb6 hpm => ?_⟩
    have hW6 := hW5.off hO6
    have hTf := tabs_off hTe hP5 hO6
    have h06 := hO6 _ _ p0 q0 h05
    have ul := hpm.length_eq
    rw [rgV_length] at ul
    refine ⟨a0, b, _, _, rfl, rfl, h06, hb6, by simp only [List.length_cons, List.length_nil]; exact sz_of (by omega), fun l hl => ?_⟩
    obtain ⟨os, rfl, hos⟩ := os_of (by omega) hpm
    have eo : [V.int 0] ++ os.map V.int = ((0 : Int) :: os).map V.int := rfl
    rw [eo]
    generalize (0 : Int) :: os = ns at *
    have e7 := Ex.new (o := .lst (ns.map V.int)) hl
    have h17 : (upd H6 l (.lst (ns.map V.int))) l = some (.lst (ns.map V.int)) := upd_same
    have hP7 := hP6.ext e7
    have hW7 := hW6.ext e7
    have hTg := hTf.ext e7
    have pl0 := hP6.np hl
    have ql0 := hP6.nq hl
    have hlr : l ∉ rs := fun z => by
      obtain ⟨_, _, _, _, z1⟩ := hW6.mem z
      rw [hl] at z1
      cases z1
    have hlR : l ≠ R := fun z => by
      rw [z, hW6.at_] at hl
      cases hl
    generalize upd H6 l (.lst (ns.map V.int)) = H7 at *
    clear h06 h05 hb6 hO6 hpm ul hW6 hP6 hTf h15 hTe hW5 hP5 hTd hW4 hP4 hTc hW3 hP3
    change tCut _ _ _ [some (.ref p), some (.int (M : Int)), some (.int T), some (.int (L : Int)), some (.int kd), some (.int od), some (.ref R), some (.ref l), none, none, none, none, none] H7
    refine q_cut (M := MidL G p q Pt M L T od) ?_ fun σ1 H1' hm => ?_
    · -- the plan
      obtain ⟨kn, hkn⟩ : ∃ m : Nat, kd = (m : Int) := ⟨kd.toNat, by omega⟩
      subst hkn
      refine ⟨.int (kn : Int), rfl, kn, rfl, by omega, fun H8 l8 us8 e8 h8 hd8 => ⟨l8, rfl, ⟨us8, sq_of h8⟩, ?_⟩⟩
      have hok := planOk kn
      generalize plans.getD kn [] = pl at *
      have lu := hd8.length
      rw [List.length_map] at lu
      refine for_list (K := K) (fun i σ' H' => ∃ (G' : Hp) (rows : List (List Wy)) (o8 : Option V), σ' = [some (.ref p), some (.int (M : Int)), some (.int T), some (.int (L : Int)), some (.int (kn : Int)), some (.int od), some (.ref R), some (.ref l), o8, none, none, none, none] ∧ Ex G G' ∧ Pl G' H' p q ∧ NoT G' ∧ Tabs (TL Pt) H' ∧ Rz G' H' p q R rs rows ∧ PlI M pl ns i rows ∧ (∀ b xs, H8 b = some (.tup xs) → H' b = some (.tup xs)) ∧ H' l8 = some (.lst us8) ∧ H' l = some (.lst (ns.map V.int))) ⟨G, _, none, rfl, Ex.refl _, hP7.ext e8, hN, hTg.ext e8, hW7.ext e8, pl_start (List.length_replicate ..) hE0, fun _ _ z => z, h8, e8 _ _ h17⟩ (fun i σ' H' _ z => by
        obtain ⟨_, _, _, _, _, _, _, _, _, _, _, z, _⟩ := z
        exact sq_of z) ?_ ?_
      · rintro i x σ' H9 hxi ⟨G', rows, o8, rfl, eG, hP9, hN9, hT9, hW9, hI, hk8, h89, h19⟩
        refine g_name ?_
        obtain ⟨w, hw, hdw⟩ := hd8.wds_inv hxi
        obtain ⟨t, rfl, ht⟩ := wd_ref hdw
        have ht9 := hk8 _ _ ht
        obtain ⟨w2, w6, wnd, wl, wr, wd1, wh⟩ := hok.ok w (List.mem_of_getElem? hw)
        have hne : us8 ≠ [] := fun z => by rw [z] at hxi; simp at hxi
        have hl8 : l8 ∉ rs := fun z => by
          obtain ⟨j, hj⟩ := List.mem_iff_getElem?.mp z
          have hjl := (List.getElem?_eq_some_iff.mp hj).1
          obtain ⟨_, _, _, vs, v1, v2⟩ := hW7.row j l8 [] hj (by rw [List.getElem?_replicate, if_pos (by omega)])
          rw [e8 _ _ v1] at h8
          cases v2
          exact hne (by cases h8; rfl)
        obtain ⟨x0, w', rfl⟩ : ∃ x0 w', w = x0 :: w' := by
          cases w with
          | nil => simp at w2
          | cons a b => exact ⟨a, b, rfl⟩
        have fm := foldl_max w' x0
        change tIfS _ _ _ _ [some (.ref p), some (.int (M : Int)), some (.int T), some (.int (L : Int)), some (.int (kn : Int)), some (.int od), some (.ref R), some (.ref l), some (.ref t), none, none, none, none] H9
        refine s_when (b := inW M (x0 :: w')) (by rw [← inW_max]; exact et_test (ev_op (ev_maxT (K := K) (ev_var rfl) (st_of ht9) fm.1 fm.2) (ev_var rfl) rv_I0)) (fun hb HA eA => ?_) (fun hb HA eA => ?_)
        · have hrg : ∀ y ∈ x0 :: w', 0 ≤ y ∧ y < (M : Int) := fun y hy => ⟨(wr y hy).1, of_decide_eq_true (List.all_eq_true.mp hb y hy)⟩
          have nsl := hos.len
          have hx0 := hrg x0 List.mem_cons_self
          have ng := os_get hos hx0.1 hx0.2
          have nr := hos.rg _ (List.mem_of_getElem? ng)
          obtain ⟨rn, hrn⟩ : ∃ m : Nat, ns.getD x0.toNat 0 = (m : Int) := ⟨(ns.getD x0.toNat 0).toNat, by omega⟩
          have hrl : rn < rows.length := by rw [hI.len]; omega
          have hrl2 : rn < rs.length := by rw [hW9.len]; exact hrl
          have hrs : rs[rn]? = some rs[rn] := List.getElem?_eq_getElem hrl2
          have hrm : rs[rn] ∈ rs := List.getElem_mem hrl2
          have hrw : rows[rn]? = some rows[rn] := List.getElem?_eq_getElem hrl
          have hrr : (rs.map V.ref)[rn]? = some (.ref rs[rn]) := by rw [List.getElem?_map, hrs]; rfl
          generalize rs[rn] = r at *
          obtain ⟨gr, rp, rq, vs, h1, h2⟩ := hW9.row rn r _ hrs hrw
          have hI2 := pl_turn hI hw hb hrn hrw
          have hrl9 := pl_len hI hrw
          have hpl9 := hok.len
          generalize rows[rn] = row at *
          have lv := h2.length
          rw [List.length_map] at lv
          have h1A := eA _ _ h1
          have i0 : Ev (tOp (rIxT K) (tVar 8) (tC (.int 0))) [some (.ref p), some (.int (M : Int)), some (.int T), some (.int (L : Int)), some (.int (kn : Int)), some (.int od), some (.ref R), some (.ref l), some (.ref t), none, none, none, none] HA (.int x0) := ev_op (ev_var rfl) ev_c (rv_ixT (st_of (eA _ _ ht9)) (atI_nat (j := 0) rfl))
          have hat : ∀ {y : Int}, 0 ≤ y → y < (M : Int) → atI (ns.map V.int) y = some (.int (ns.getD y.toNat 0)) := fun {y} y0 y1 => by
            have e : y = ((y.toNat : Nat) : Int) := by omega
            rw [e]
            refine atI_nat ?_
            rw [List.getElem?_map, show ((y.toNat : Nat) : Int).toNat = y.toNat by omega, os_get hos y0 y1]
            rfl
          have i1 : Ev (tOp (rIxL K) (tVar 7) (tOp (rIxT K) (tVar 8) (tC (.int 0)))) [some (.ref p), some (.int (M : Int)), some (.int T), some (.int (L : Int)), some (.int (kn : Int)), some (.int od), some (.ref R), some (.ref l), some (.ref t), none, none, none, none] HA (.int (rn : Int)) := ev_op (ev_var rfl) i0 (rv_ixL (sq_of (eA _ _ h19)) (by rw [← hrn]; exact hat hx0.1 hx0.2))
          have i2 : Ev (tOp (rIxL K) (tVar 6) (tOp (rIxL K) (tVar 7) (tOp (rIxT K) (tVar 8) (tC (.int 0))))) [some (.ref p), some (.int (M : Int)), some (.int T), some (.int (L : Int)), some (.int (kn : Int)), some (.int od), some (.ref R), some (.ref l), some (.ref t), none, none, none, none] HA (.ref r) := ev_op (ev_var rfl) i1 (rv_ixL (sq_of (eA _ _ hW9.at_)) (atI_nat hrr))
          refine s_appU (K := K) (ys := (nmW ns (x0 :: w')).map V.int) h1A i2 (eu_tupC (K := K) (by
            rw [← nmF_map]
            refine el_mapT (K := K) (nmF ns) (ev_var rfl) (st_of (eA _ _ ht9)) (by rw [List.length_map]; omega) (fun _ => rfl) fun x hx => ?_
            obtain ⟨y, hy, rfl⟩ := List.mem_map.mp hx
            exact ev_op (ev_var rfl) (ev_var rfl) (rv_ixL (sq_of (eA _ _ h19)) (hat (hrg y hy).1 (hrg y hy).2)))) (by omega) fun t2 HB ht2 eB hB => ?_
          have hPB := (hP9.ext eA).ext eB
          have hWB := (hW9.ext eA).ext eB
          have hPA := hP9.ext eA
          have gt2 := fresh_back hPA.ex ht2
          have nR : R ≠ t2 := ne_of_none (eA _ _ hW9.at_) ht2
          have nrs : t2 ∉ rs := fun z => by
            obtain ⟨_, _, _, _, z1⟩ := (hW9.ext eA).mem z
            rw [ht2] at z1
            cases z1
          obtain ⟨hPC, hWC⟩ := Rz.push hPB hWB hB gt2 (hPA.np ht2) (hPA.nq ht2) nR nrs
          have eG2 : Ex G' (upd G' t2 (.tup ((nmW ns (x0 :: w')).map V.int))) := Ex.new gt2
          have hdn : DqA (upd G' t2 (.tup ((nmW ns (x0 :: w')).map V.int))) (vs ++ [.ref t2]) ((row ++ [nmW ns (x0 :: w')]).map wd) := by
            rw [List.map_append]
            exact (h2.mono eG2).append (.cons (Dq.tint upd_same) .nil)
          have hrB := eB _ _ h1A
          refine ⟨_, _, _, rfl, eG.trans eG2, hPC.mut (hWC.mem hrm).1 rp rq, hN9.new, tabs_mut ((hT9.ext eA).ext eB) hrB, hWC.mut hrs hdn, hI2, fun b xs hb => ?_, ?_, ?_⟩
          · have := eB _ _ (eA _ _ (hk8 b xs hb))
            rw [upd_ne fun z => by rw [z, hrB] at this; cases this]
            exact this
          · rw [upd_ne fun z => hl8 (by rw [z]; exact hrm)]
            exact eB _ _ (eA _ _ h89)
          · rw [upd_ne fun z => hlr (by rw [z]; exact hrm)]
            exact eB _ _ (eA _ _ h19)
        · exact ⟨G', rows, _, rfl, eG, hP9.ext eA, hN9, hT9.ext eA, hW9.ext eA, pl_skip hI hw hb, fun b xs hb => eA _ _ (hk8 b xs hb), eA _ _ h89, eA _ _ h19⟩
      · rintro σ' H9 ⟨G', rows, o8, rfl, eG, hP9, hN9, hT9, hW9, hI, hk8, h89, h19⟩
        obtain ⟨g1, g2⟩ := pl_end hok hM2 hos hI (by omega)
        exact ⟨G', R, rs, rows, _, _, _, _, _, _, _, rfl, eG, hP9, hN9, hT9, hW9, hI.len, g1, fun row hr => Nat.le_trans (g2 row hr) hL2⟩
    · -- the turns
      clear hlR hlr ql0 pl0 h17 e7 hos e5 e4 p0 q0 hE0 hnin hnd hrl e3 hW7 hTg hP7
      refine q_cut (M := MidL G p q Pt M L T od) ?_ fun σ2 H2' hm2 => ?_
      · obtain ⟨G0, R0, rs0, rows0, o4, o7, o8, o9, o10, o11, o12, rfl, h1, h2, h3, h4, h5, h6, h7, h8⟩ := hm
        refine s_forR1 (ea_cons (ev_var rfl) ea_nil) (n := T) (by omega) (fun _ => MidL G p q Pt M L T od) (fun H1 e1 => ⟨G0, R0, rs0, rows0, _, _, _, _, _, _, _, rfl, h1, h2.ext e1, h3, h4.ext e1, h5.ext e1, h6, h7, h8⟩) ?_ (fun σ' H' z => z)
        clear h1 h2 h3 h4 h5 h6 h7 h8 hN
        rintro i σ' H1 hi ⟨G1, R, rs, rows, o4, o7, o8, o9, o10, o11, o12, rfl, eG, hP, hN, hT, hW, hM, hG, hrl⟩
        have hIt : ∀ {G2 H2 : Hp} {rows2 : List (List Wy)} {a4 a7 a8 a9 a10 a11 a12 : Option V}, Ex G1 G2 → Pl G2 H2 p q → NoT G2 → Tabs (TL Pt) H2 → Rz G2 H2 p q R rs rows2 → rows2.length = M → GW rows2 → (∀ row ∈ rows2, row.length ≤ L) → MidL G p q Pt M L T od [some (.ref p), some (.int (M : Int)), some (.int T), some (.int (L : Int)), a4, some (.int od), some (.ref R), a7, a8, a9, a10, a11, a12] H2 := fun a b c d e f g h => ⟨_, R, rs, _, _, _, _, _, _, _, _, rfl, eG.trans a, b, c, d, e, f, g, h⟩
        refine ⟨.ref p, rfl, .int (M : Int), rfl, (M : Int), 1, rfl, rfl, Hd H1 p q, p, q, _, rfl, hP.hd, by omega, by omega, fun H2 y hP0 hy0 hy1 => ⟨1, y, rfl, rfl, ?_⟩⟩
        have hP2 := hP.back hP0
        have hW2 := hW.off hP0.off
        have hT2 := tabs_off hT hP hP0.off
        obtain ⟨rn, hrn⟩ : ∃ m : Nat, (1 : Int) + y = (m : Int) := ⟨(1 + y).toNat, by omega⟩
        refine g_name ?_
        change tSeq _ _ _ [some (.ref p), some (.int (M : Int)), some (.int T), some (.int (L : Int)), o4, some (.int od), some (.ref R), o7, o8, some (.int (i : Int)), some (.int (1 + y)), o11, o12] H2
        rw [hrn]
        refine ⟨by show 1 ≤ sizeLine; decide, fun t0 ht0 => ⟨by show 1 ≤ sizeLine; decide, fun b0 hb0 => ?_⟩⟩
        have gt0 := fresh_back hP2.ex ht0
        have hP3 := hP2.new (o := .tup [.int 0]) ht0
        have hW3 := hW2.new (o := .tup [.int 0]) ht0 gt0
        have hT3 := hT2.ext (Ex.new (o := .tup [.int 0]) ht0)
        have eG3 : Ex G1 (upd G1 t0 (.tup [.int 0])) := Ex.new gt0
        have hN3 : NoT (upd G1 t0 (.tup [.int 0])) := hN.new
        have eb := Ex.new (o := .lst [V.ref t0]) hb0
        have hd0 : DqA (upd G1 t0 (.tup [.int 0])) [.ref t0] ([[0]].map wd) := .cons (Dq.tint (w := [0]) upd_same) .nil
        generalize upd G1 t0 (.tup [.int 0]) = G3 at *
        have hP4 := hP3.ext eb
        have hW4 := hW3.ext eb
        have hT4 := hT3.ext eb
        refine g_name ?_
        change tSeq _ _ _ [some (.ref p), some (.int (M : Int)), some (.int T), some (.int (L : Int)), o4, some (.int od), some (.ref R), o7, o8, some (.int (i : Int)), some (.int (rn : Int)), some (.ref b0), o12] _
        refine q_forL (K := K) (ev_var rfl) (sq_of hW4.at_) (fun k' σ' H' => ∃ (b : Addr) (bs : List V) (ws : List Wy) (o12 : Option V), σ' = [some (.ref p), some (.int (M : Int)), some (.int T), some (.int (L : Int)), o4, some (.int od), some (.ref R), o7, o8, some (.int (i : Int)), some (.int (rn : Int)), some (.ref b), o12] ∧ Pl G3 H' p q ∧ Tabs (TL Pt) H' ∧ Rz G3 H' p q R rs rows ∧ H' b = some (.lst bs) ∧ b ≠ p ∧ b ≠ q ∧ DqA G3 bs (ws.map wd) ∧ (∀ b ∈ ws, Bs rows b ∧ (rn : Int) ∉ b) ∧ 1 ≤ ws.length ∧ ws.length ≤ 1 + 6 * k')
          (fun H5 e5 => ⟨b0, _, [[0]], _, rfl, hP4.ext e5, hT4.ext e5, hW4.ext e5, e5 _ _ upd_same, hP3.np hb0, hP3.nq hb0, hd0, fun d hd => by rw [List.mem_singleton.mp hd]; exact ⟨.inl rfl, by simp; omega⟩, by simp, by simp⟩) (fun i σ' H' _ p => by
            obtain ⟨_, _, _, _, _, _, _, h, _⟩ := p
            exact sq_of h.at_) ?_ ?_
        · rintro k' x σ' H5 hx ⟨b, bs, ws, o12, rfl, hP5, hT5, hW5, hb, nbp, nbq, hd, hdi, hd1, hdl⟩
          obtain ⟨r, hr1, rfl⟩ : ∃ r, rs[k']? = some r ∧ x = V.ref r := by
            rw [List.getElem?_map] at hx
            cases hq : rs[k']? with
            | none => rw [hq] at hx; cases hx
            | some r => rw [hq] at hx; exact ⟨r, rfl, (Option.some.inj hx).symm⟩
          have hil : k' < rs.length := (List.getElem?_eq_some_iff.mp hr1).1
          have hil2 : k' < rows.length := by rw [← hW5.len]; exact hil
          have hrw : rows[k']? = some rows[k'] := List.getElem?_eq_getElem hil2
          obtain ⟨gr, rp, rq, vs, h1, h2⟩ := hW5.row k' r _ hr1 hrw
          have hl2 := hrl _ (List.getElem_mem hil2)
          generalize rows[k'] = row at *
          have lb := hd.length
          have lv := h2.length
          rw [List.length_map] at lb lv
          refine g_name ?_
          have hs : EvL (tLc (iList K (tVar 12)) (gName 8) (tTest (tOp (rIn K true) (tVar 10) (tVar 8))) (tVar 8) (List.map (fun x => x.2) [(Str.ofString "_law_way", 8)])) [some (.ref p), some (.int (M : Int)), some (.int T), some (.int (L : Int)), o4, some (.int od), some (.ref R), o7, o8, some (.int (i : Int)), some (.int (rn : Int)), some (.ref b), some (.ref r)] H5 (vs.filter (fwR G3 (rn : Int))) := by
            refine el_sift (K := K) (fwR G3 (rn : Int)) (ev_var rfl) (sq_of h1) (by omega) (fun _ => rfl) (fun _ => rfl) fun x hx => ?_
            obtain ⟨j, hj⟩ := List.mem_iff_getElem?.mp hx
            obtain ⟨w', hw', hdw⟩ := h2.wds_inv hj
            obtain ⟨t, rfl, ht⟩ := wd_ref hdw
            rw [fwR_at ht]
            exact et_test (ev_op (ev_var rfl) (ev_var rfl) (rv_niT (st_of (hP5.ex _ _ ht)) rfl (flat_ints w')))
          have hfd := fwR_dq (r := (rn : Int)) h2
          have lf := List.length_filter_le (fwR G3 (rn : Int)) vs
          have lw := List.length_filter_le (fun w : Wy => !decide ((rn : Int) ∈ w)) row
          refine ⟨.ref b, rfl, hs H5 (Ex.refl _) _ fun D H6 hD e6 h6 => ⟨b, D, _, _, rfl, rfl, e6 _ _ hb, h6, sz_of (by omega), fun b2 hb2 => ?_⟩⟩
          have e7 := e6.trans (Ex.new (o := .lst (bs ++ vs.filter (fwR G3 (rn : Int)))) hb2)
          refine ⟨b2, _, ws ++ row.filter fun w => !decide ((rn : Int) ∈ w), _, rfl, hP5.ext e7, hT5.ext e7, hW5.ext e7, upd_same, (hP5.ext e6).np hb2, (hP5.ext e6).nq hb2, by rw [List.map_append]; exact hd.append hfd, fun d hx => ?_, by simp; omega, by simp only [List.length_append]; omega⟩
          rcases List.mem_append.mp hx with z | z
          · exact hdi d z
          · obtain ⟨z1, z2⟩ := List.mem_filter.mp z
            exact ⟨.inr ⟨k', row, hrw, z1⟩, by simpa using z2⟩
        · rintro σ' H5 ⟨b, bs, ws, o12, rfl, hP5, hT5, hW5, hb, nbp, nbq, hd, hdi, hd1, hdl⟩
          rw [List.length_map] at hdl
          have lb := hd.length
          rw [List.length_map] at lb
          have hrs8 := hW5.len
          refine ⟨.int (rn : Int), rfl, by show 1 ≤ sizeLine; decide, fun t1 ht1 => ?_⟩
          have e6 := Ex.new (o := .tup [V.int (rn : Int)]) ht1
          have h16 : (upd H5 t1 (.tup [V.int (rn : Int)])) t1 = some (.tup [V.int (rn : Int)]) := upd_same
          have t1p := hP5.np ht1
          have t1q := hP5.nq ht1
          have hP6 := hP5.ext e6
          have hW6 := hW5.ext e6
          have hT6 := hT5.ext e6
          have hb6 := e6 _ _ hb
          generalize upd H5 t1 (.tup [V.int (rn : Int)]) = H6 at *
          refine ⟨.ref b, rfl, .ref p, rfl, .ref b, rfl, b, bs, rfl, .inl (sq_of hb6), Hd H6 p q, p, q, _, rfl, hP6.hd, by omega, by omega, fun H7 z hP00 hz0 hz1 => ?_⟩
          have hP7 := hP6.back hP00
          have hW7 := hW6.off hP00.off
          have hT7 := tabs_off hT6 hP6 hP00.off
          have hb7 := hP00.off _ _ nbp nbq hb6
          have h17 := hP00.off _ _ t1p t1q h16
          obtain ⟨zn, rfl⟩ : ∃ m : Nat, z = (m : Int) := ⟨z.toNat, by omega⟩
          have hzl : zn < bs.length := by omega
          have hbz : bs[zn]? = some bs[zn] := List.getElem?_eq_getElem hzl
          obtain ⟨ns', eds, hdz⟩ := hd.wds_inv hbz
          obtain ⟨hns, hnr⟩ := hdi ns' (List.mem_of_getElem? eds)
          generalize bs[zn] = bv at *
          obtain ⟨ba, rfl, hbt⟩ := wd_ref hdz
          have hbt7 := hP7.ex _ _ hbt
          have hbok : ns'.Nodup ∧ 1 ≤ ns'.length ∧ ∀ x ∈ ns', 0 ≤ x ∧ x < (M : Int) := by
            rcases hns with z | ⟨j, row', z1, z2⟩
            · rw [z]
              exact ⟨by simp, by simp, fun x hx => by rw [List.mem_singleton.mp hx]; omega⟩
            · have ok := hG.ok j row' z1 ns' z2
              rw [hM] at ok
              exact ⟨ok.nd, by have := ok.l2; omega, ok.rg⟩
          have hns7 : ns'.length ≤ 7 := way_short hM8 (by omega) hbok.1 hbok.2.2 hnr
          refine ⟨b, bs, (zn : Int), .ref ba, rfl, rfl, sq_of hb7, atI_nat hbz, ?_⟩
          refine ⟨t1, ba, _, _, rfl, rfl, st_of h17, st_of hbt7, (by rw [List.length_map, sizeLine_eq]; show 1 + ns'.length ≤ 16777216; omega), (fun z => by cases z), fun _ z => ?_, fun _ _ t2 ht2 => ?_⟩
          · rw [List.map_eq_nil_iff] at z
            rw [z] at hbok
            exact absurd hbok.2.1 (by simp)
          have gt2 := fresh_back hP7.ex ht2
          have hP8 := hP7.new (o := .tup ([V.int (rn : Int)] ++ ns'.map V.int)) ht2
          have hW8 := hW7.new (o := .tup ([V.int (rn : Int)] ++ ns'.map V.int)) ht2 gt2
          have hT8 := hT7.ext (Ex.new (o := .tup ([V.int (rn : Int)] ++ ns'.map V.int)) ht2)
          have hN8 : NoT (upd G3 t2 (.tup ([V.int (rn : Int)] ++ ns'.map V.int))) := hN3.new
          have hw8 : Dq (upd G3 t2 (.tup ([V.int (rn : Int)] ++ ns'.map V.int))) (.ref t2) (wd ((rn : Int) :: ns')) := Dq.tint (w := (rn : Int) :: ns') upd_same
          have eG8 : Ex G3 (upd G3 t2 (.tup ([V.int (rn : Int)] ++ ns'.map V.int))) := Ex.new gt2
          refine g_name ?_
          generalize upd G3 t2 (.tup ([V.int (rn : Int)] ++ ns'.map V.int)) = G4 at *
          generalize upd H7 t2 (.tup ([V.int (rn : Int)] ++ ns'.map V.int)) = H8 at *
          have hrl' : rn < rs.length := by omega
          have hrs : rs[rn]? = some rs[rn] := List.getElem?_eq_getElem hrl'
          have hrm : rs[rn] ∈ rs := List.getElem_mem hrl'
          have hrr : (rs.map V.ref)[rn]? = some (.ref rs[rn]) := by rw [List.getElem?_map, hrs]; rfl
          have hrl2 : rn < rows.length := by omega
          have hrw : rows[rn]? = some rows[rn] := List.getElem?_eq_getElem hrl2
          have hrlm := hrl _ (List.getElem_mem hrl2)
          generalize rs[rn] = r at *
          obtain ⟨gr, rp, rq, vs, h1, h2⟩ := hW8.row rn r _ hrs hrw
          generalize rows[rn] = row at *
          have lv := h2.length
          rw [List.length_map] at lv
          have ir : ∀ {H9 : Hp}, Ex H8 H9 → Ev (tOp (rIxL K) (tVar 6) (tVar 10)) [some (.ref p), some (.int (M : Int)), some (.int T), some (.int (L : Int)), o4, some (.int od), some (.ref R), o7, some (.ref t2), some (.int (i : Int)), some (.int (rn : Int)), some (.ref b), o12] H9 (.ref r) := fun {H9} e => ev_op (ev_var rfl) (ev_var rfl) (rv_ixL (sq_of (e _ _ hW8.at_)) (atI_nat hrr))
          have hlr8 : Ev (tCB (rLenS K) (tCons (tOp (rIxL K) (tVar 6) (tVar 10)) tNil)) [some (.ref p), some (.int (M : Int)), some (.int T), some (.int (L : Int)), o4, some (.int od), some (.ref R), o7, some (.ref t2), some (.int (i : Int)), some (.int (rn : Int)), some (.ref b), o12] H8 (.int (vs.length : Int)) := ev_len (ir (Ex.refl _)) (sq_of h1)
          have hbb : EvT (tTest (tOp (rNotInD K) (tVar 8) (tOp (rIxL K) (tVar 6) (tVar 10)))) [some (.ref p), some (.int (M : Int)), some (.int T), some (.int (L : Int)), o4, some (.int od), some (.ref R), o7, some (.ref t2), some (.int (i : Int)), some (.int (rn : Int)), some (.ref b), o12] H8 (!decide ((rn : Int) :: ns' ∈ row)) := by
            rw [← any_wd]
            refine et_test (ev_op (ev_var rfl) (ir (Ex.refl _)) fun H10 e10 Q2 q => ⟨wd ((rn : Int) :: ns'), row.map wd, Dq.dp (SeqAt.canLay_of_shaped (shaped_ints _)) (hw8.mono (hP8.ex.trans e10)), .lst (sq_of (e10 _ _ h1)) (DqA.dp (lay_wds row) (h2.mono (hP8.ex.trans e10))), shaped_ints _, shaped_wds row, q H10 (Ex.refl H10)⟩)
          refine s_when (b := !decide ((rn : Int) :: ns' ∈ row) && decide ((vs.length : Int) < (L : Int))) (et_and hbb fun _ => et_test (ev_op hlr8 (ev_var rfl) rv_I0)) (fun hb9 H9 e9 => ?_) (fun hb9 H9 e9 => hIt (eG3.trans eG8) (hP8.ext e9) hN8 (hT8.ext e9) (hW8.ext e9) hM hG hrl)
          have hnin : (rn : Int) :: ns' ∉ row ∧ vs.length < L := by
            simp only [Bool.and_eq_true, Bool.not_eq_true', decide_eq_false_iff_not, decide_eq_true_eq] at hb9
            exact ⟨hb9.1, by omega⟩
          have h19 := e9 _ _ h1
          have hP9 := hP8.ext e9
          have hW9 := hW8.ext e9
          have hT9 := hT8.ext e9
          refine ⟨.ref R, rfl, .int (rn : Int), rfl, R, _, _, .ref r, rfl, rfl, sq_of hW9.at_, atI_nat hrr, .inl ⟨rfl, _, sq_of h19⟩, .ref p, rfl, .ref R, rfl, .int (rn : Int), rfl, R, _, _, .ref r, rfl, rfl, sq_of hW9.at_, atI_nat hrr, r, vs, rfl, .inl (sq_of h19), _, 1, rfl, rfl, Hd H9 p q, p, q, _, rfl, hP9.hd, by omega, by omega, fun HA ix hPA0 hi0 hi1 => ?_⟩
          have hPA := hP9.back hPA0
          have hWA := hW9.off hPA0.off
          have hTA := tabs_off hT9 hP9 hPA0.off
          have h1A := hPA0.off _ _ rp rq h19
          refine ⟨.ref t2, rfl, r, vs, ix, .ref t2, rfl, rfl, h1A, by rw [sizeLine_eq]; omega, hi0, by omega, ?_⟩
          have hdn : DqA G4 (vs.take ix.toNat ++ [.ref t2] ++ vs.drop ix.toNat) ((row.take ix.toNat ++ [(rn : Int) :: ns'] ++ row.drop ix.toNat).map wd) := by
            rw [List.map_append, List.map_append, List.map_take, List.map_drop]
            exact ((h2.take _).append (.cons hw8 .nil)).append (h2.drop _)
          refine hIt (eG3.trans eG8) (hPA.mut gr rp rq) hN8 (tabs_mut hTA h1A) (hWA.mut hrs hdn) (by rw [List.length_set]; exact hM) (gw_add hG hrw (by omega) hns hnr hns7 hnin.1 _) fun row2 hm => ?_
          rcases List.mem_or_eq_of_mem_set hm with z | z
          · exact hrl row2 z
          · rw [z]
            simp
            omega
      · clear hm
        have hk3 : ∀ {σ3 : L2.St} {H3 : Hp}, MidL G p q Pt M L T od σ3 H3 → tRet (tCB (rTupF K) (tCons (tLc (iList K (tVar 6)) (gName 12) tYes (tCB (rTupF K) (tCons (tVar 12) tNil)) (List.map (fun x => x.2) [(Str.ofString "_law_row", 12)])) tNil)) { nx := fun _ H' => Q .non H', rt := Q } σ3 H3 := by
          rintro σ3 H3 ⟨G1, R1, rs1, rows1, o4, o7, o8, o9, o10, o11, o12, rfl, eG, hP4, hN4, hT4, hW4, hM4, hG4, hr4⟩
          refine ret_cb ?_
          refine ⟨.ref R1, rfl, R1, rfl, ⟨_, sq_of hW4.at_⟩, fun D hD => lc_list (K := K) (xs := rs1.map V.ref) (fun i H' => Tupz G1 H' p q R1 rs1 rows1 D i) (tupz_start hP4 hW4 hD) (fun i H' _ h => ?_) ?_ ?_⟩
          · obtain ⟨G5, ts, _, _, hW, _⟩ := h.ex
            exact sq_of hW.at_
          · rintro i x H5 hx h
            obtain ⟨r, hr1, rfl⟩ : ∃ r, rs1[i]? = some r ∧ x = V.ref r := by
              rw [List.getElem?_map] at hx
              cases hq : rs1[i]? with
              | none => rw [hq] at hx; cases hx
              | some r => rw [hq] at hx; exact ⟨r, rfl, (Option.some.inj hx).symm⟩
            have hil := (List.getElem?_eq_some_iff.mp hr1).1
            have hln := hW4.len
            refine ⟨rfl, .ref r, rfl, ?_⟩
            exact tupz_turnF (K := K) (by omega) h hr1 (fun z => by
              obtain ⟨_, _, _, _, h1⟩ := hW4.mem z
              rw [hD] at h1
              cases h1) (Ne.symm (ne_of_none hW4.at_ hD))
          · intro H5 h
            obtain ⟨G5, ts, eG5, hP5, hW5, hD5, gD5, Dp5, Dq5, hts⟩ := h.ex
            rw [List.length_map, hW4.len, List.take_length] at hts
            have hne : rows1.map rd ≠ [] := fun z => by
              rw [List.map_eq_nil_iff] at z
              rw [z] at hM4
              simp at hM4
              omega
            refine ⟨D, ts, rfl, sq_of hD5, fun hy => ?_, fun _ t o ht hc hd => ?_⟩
            · rw [hy] at hts
              exact absurd (List.length_eq_zero_iff.mp hts.length.symm) hne
            · have gt := fresh_back hP5.ex ht
              exact k (upd G5 t (.frz o (.tup ts))) _ (.ref t) rows1 ((eG.trans eG5).trans (Ex.new gt)) (hP5.new ht) (.tupf upd_same hc hd hne (fun d hm => by
                obtain ⟨row, _, e⟩ := List.mem_map.mp hm
                exact ⟨_, e.symm⟩) (hts.mono (Ex.new gt))) hM4 hG4 hr4
        have ht : ∀ {σ3 : L2.St} {H3 : Hp} {n : Int}, MidL G p q Pt M L T od σ3 H3 → EvT (tTest (tOp rEq (tVar 5) (tC (.int n)))) σ3 H3 (decide (V.int od = V.int n)) := by
          rintro σ3 H3 n ⟨G1, R1, rs1, rows1, o4, o7, o8, o9, o10, o11, o12, rfl, _⟩
          exact et_test (ev_op (ev_var rfl) ev_c (rv_eq rfl))
        have hx : ∀ {σ3 : L2.St} {H3 H4 : Hp}, Ex H3 H4 → MidL G p q Pt M L T od σ3 H3 → MidL G p q Pt M L T od σ3 H4 := by
          rintro σ3 H3 H4 e ⟨G1, R1, rs1, rows1, o4, o7, o8, o9, o10, o11, o12, rfl, eG, hP4, hN4, hT4, hW4, hM4, hG4, hr4⟩
          exact ⟨G1, R1, rs1, rows1, _, _, _, _, _, _, _, rfl, eG, hP4.ext e, hN4, hT4.ext e, hW4.ext e, hM4, hG4, hr4⟩
        refine q_cut (M := MidL G p q Pt M L T od) (s_when (ht hm2) (fun _ H3 e3 => lst_sorted (K := K) hM8 hL6 (hx e3 hm2) fun _ _ z => z) (fun _ H3 e3 => hx e3 hm2)) fun σ3 H3 hm3 => ?_
        refine q_cut (M := MidL G p q Pt M L T od) (s_when (ht hm3) (fun _ H4 e4 => lst_sorted (K := K) hM8 hL6 (hx e4 hm3) fun _ _ z => z) (fun _ H4 e4 => hx e4 hm3)) fun σ4 H4 hm4 => ?_
        exact hk3 hm4
end
end Wk

set_option Elab.async false
set_option linter.all false
set_option maxRecDepth 100000
set_option maxHeartbeats 4000000
namespace Wk
open PySem PySem.Spec PyProof.Rows L2 Evl LamX NdefX LmP
/-! d.clear(), d a dict whose keys are tuples -/
def rDClearT : V → List V → Hp → VK → Prop := fun x vs H Q => ∃ (a : Addr) (kvs : List (List L2.Key × V)), x = .ref a ∧ vs = [] ∧ H a = some (.dT kvs) ∧ Q .non (upd H a (.dT []))
theorem mtd_clearT {X : Cx} : MtR X "dict.clear" rDClearT := by
  intro pins s σ H x vs v us Q I rx rv h
  obtain ⟨a, kvs, ex, ev, e, q⟩ := h
  subst ex
  subst ev
  obtain rfl : v = Value.ref a := rx
  have hus := rv.zero
  subst hus
  obtain ⟨z, hd, xs, rel, dd⟩ := dt_of I.hok e
  obtain ⟨o, es, ep, ho, hx, hdat, hes, _⟩ := id dd
  have hl : es.size = kvs.length := by
    have l1 : es.size = xs.length := size_of_entries hes
    have l2 : kvs.length = xs.length := Paired.length rel
    omega
  refine call_meetsIn PySem.F.slot_dict_clear ⟨o, ho, hx.1⟩ PySem.F.entry_dict_clear (PySem.F.args_dict_clear_1 _) (meets_dict_clear_raw a) ⟨es, ep, ⟨o, ho, hx, hdat⟩, by rw [hl]; exact z, fun h' hraw hs => ?_⟩
  obtain ⟨o2, ho2, hx2, hdat2⟩ := id hraw
  refine ⟨.non, upd H a (.dT []), d_write (t' := s.toks) I (by rw [e]; exact True.intro) hs ⟨o2, ho2⟩ ⟨Nat.zero_le _, hd, [], .nil, o2, #[], ep + 1, ho2, hx2, hdat2, rfl, List.nodup_nil⟩, rfl, q⟩
/-! what is kept of a ladder -/
inductive KpL (H : Hp) (h : Wy → Int) : List V → List Wy → Prop
  | nil : KpL H h [] []
  | cons {t q : Addr} {w : Wy} {us : List V} {ws : List Wy} : H t = some (.tup [.ref q, .int (h w)]) → H q = some (.tup (w.map V.int)) → KpL H h us ws → KpL H h (.ref t :: us) (w :: ws)
theorem KpL.tk {G H : Hp} {h : Wy → Int} (k : ∀ b xs, G b = some (.tup xs) → H b = some (.tup xs)) : ∀ {us : List V} {ws : List Wy}, KpL G h us ws → KpL H h us ws
  | _, _, .nil => .nil
  | _, _, .cons h1 h2 t => .cons (k _ _ h1) (k _ _ h2) (t.tk k)
theorem KpL.append {H : Hp} {h : Wy → Int} : ∀ {us vs : List V} {ws zs : List Wy}, KpL H h us ws → KpL H h vs zs → KpL H h (us ++ vs) (ws ++ zs)
  | _, _, _, _, .nil, k => k
  | _, _, _, _, .cons h1 h2 t, k => .cons h1 h2 (t.append k)
theorem KpL.length {H : Hp} {h : Wy → Int} : ∀ {us : List V} {ws : List Wy}, KpL H h us ws → us.length = ws.length
  | _, _, .nil => rfl
  | _, _, .cons _ _ t => congrArg Nat.succ t.length
def kd (h : Wy → Int) (w : Wy) : PyData := .tuple [wd w, .int (h w)]
theorem lay_wd (w : Wy) : (wd w).canLay0 = true := by simp [wd, PyData.canLay0, lay_ints]
theorem KpL.dp {K : PySem.W.Frag} {H : Hp} {h : Wy → Int} : ∀ {us : List V} {ws : List Wy}, KpL H h us ws → DpAll K H us (ws.map (kd h))
  | _, _, .nil => .nil
  | _, _, .cons h1 h2 t => .cons (.tup (st_of h1) (.cons (Dq.dp (lay_wd _) (wd_of h2)) (.cons (.int _) .nil))) t.dp
theorem shaped_kd (h : Wy → Int) (ws : List Wy) : SeqAt.shaped (.list (ws.map (kd h))) = true := by
  have h1 : PyData.canLayAll0 (ws.map (kd h)) = true := layAll.mpr fun d hd => by
    obtain ⟨w, _, rfl⟩ := List.mem_map.mp hd
    simp [kd, PyData.canLay0, PyData.canLayAll0, lay_wd]
  have h2 : PyData.depthAll (ws.map (kd h)) ≤ 2 := depAll.mpr fun d hd => by
    obtain ⟨w, _, rfl⟩ := List.mem_map.mp hd
    have := depth_ints w
    simp only [kd, wd, PyData.depth, PyData.depthAll]
    omega
  unfold SeqAt.shaped
  have : decide ((PyData.list (ws.map (kd h))).depth ≤ 64) = true := decide_eq_true (by simp only [PyData.depth]; omega)
  rw [this]
  simp [PyData.canLay0, h1]
theorem eqv_kd (h : Wy → Int) : ∀ ws : List Wy, PyData.eqvAll (ws.map (kd h)) (ws.map (kd h)) = true
  | [] => by simp [PyData.eqvAll]
  | w :: ws => by
    have ih := eqv_kd h ws
    have e : PyData.eqv (kd h w) (kd h w) = true := by
      unfold kd
      simp only [PyData.eqv, PyData.eqvAll, eqv_wd, decide_true, Bool.true_and, Bool.and_true]
      simp
    simp only [List.map_cons, PyData.eqvAll, e, ih, Bool.and_self]
section
variable {K : PySem.W.Frag} {σ : L2.St} {H : Hp} {D : Addr} {od : Obj} {ws : List Wy} {h : Wy → Int} {n j : Nat} {vs : List Nat} {Q : VK}
/-- [way for way in d], d locked -/
theorem lc_keysW (hD : H D = some (.frz od (.dT (tabW ws h)))) (hl : ws.length ≤ 1000) (hσ : σ[n]? = some (some (.ref D))) (hw : ∀ x, wipe ((wipe σ vs).set j (some x)) vs = wipe σ vs) (hj : ∀ x, ((wipe σ vs).set j (some x))[j]? = some (some x))
    (k : ∀ H' L us, Ex H H' → H L = none → H' L = some (.lst us) → DqA H' us (ws.map wd) → Q (.ref L) H') : tLc (iKeys (tVar n)) (gName j) tYes (tVar j) vs σ H Q := by
  refine ⟨.ref D, hσ, D, od, rfl, .inr ⟨tabW ws h, hD, fun L hL => ?_⟩⟩
  refine lc_it (walk_keysT (d := D) (o := od) (kvs := tabW ws h)) (fun i H' => Ex H H' ∧ ∃ us, H' L = some (.lst us) ∧ DqA (off L H') us ((ws.take i).map wd)) ⟨Ex.new hL, [], upd_same, .nil⟩ (fun i H' _ p => p.1 _ _ hD) (fun i x H1 H2 hi p y => ?_) (fun H1 p => ?_)
  · obtain ⟨rfl, kk, u, t, hk, rfl, ht⟩ := y
    obtain ⟨e1, us, hL1, hd1⟩ := p
    unfold tabW at hk
    rw [List.getElem?_map] at hk
    cases hq : ws[i]? with
    | none => rw [hq] at hk; cases hk
    | some w =>
      rw [hq] at hk
      cases hk
      rw [keyW_kV] at ht
      have hul := hd1.length
      rw [List.length_map, List.length_take] at hul
      refine ⟨hw _, et_yes H2 (Ex.refl _) _ fun H3 e3 => ?_⟩
      rw [if_pos rfl]
      have hL3 := e3 _ _ hL1
      have ht3 := e3 _ _ ht
      refine ⟨.ref t, hj _, us, hL3, sz_lt (by omega), Ex.mut (e1.trans e3) hL, _, upd_same, ?_⟩
      rw [off_upd, take_snoc hq, List.map_append]
      exact (hd1.mono (off_ex e3)).append (.cons (wd_of ((off_at fun z => by rw [z, hL3] at ht3; cases ht3).trans ht3)) .nil)
  · obtain ⟨e1, us, hL1, hd1⟩ := p
    rw [tabW_len, List.take_length] at hd1
    exact k H1 L us e1 hL hL1 (hd1.mono (off_in L H1))
/-- [(way, d[way]) for way in d], d locked -/
theorem lc_kept (hD : H D = some (.frz od (.dT (tabW ws h)))) (hl : ws.length ≤ 1000) (hσ : σ[n]? = some (some (.ref D))) (hw : ∀ x, wipe ((wipe σ vs).set j (some x)) vs = wipe σ vs) (hj : ∀ x, ((wipe σ vs).set j (some x))[j]? = some (some x)) (hn : ∀ x, ((wipe σ vs).set j (some x))[n]? = some (some (.ref D)))
    (k : ∀ H' L us, Ex H H' → H L = none → H' L = some (.lst us) → KpL H' h us ws → Q (.ref L) H') : tLc (iKeys (tVar n)) (gName j) tYes (tTup (tCons (tVar j) (tCons (tDGet (tVar n) (tVar j)) tNil))) vs σ H Q := by
  refine ⟨.ref D, hσ, D, od, rfl, .inr ⟨tabW ws h, hD, fun L hL => ?_⟩⟩
  refine lc_it (walk_keysT (d := D) (o := od) (kvs := tabW ws h)) (fun i H' => Ex H H' ∧ ∃ us, H' L = some (.lst us) ∧ KpL (off L H') h us (ws.take i)) ⟨Ex.new hL, [], upd_same, .nil⟩ (fun i H' _ p => p.1 _ _ hD) (fun i x H1 H2 hi p y => ?_) (fun H1 p => ?_)
  · obtain ⟨rfl, kk, u, t, hk, rfl, ht⟩ := y
    obtain ⟨e1, us, hL1, hd1⟩ := p
    unfold tabW at hk
    rw [List.getElem?_map] at hk
    cases hq : ws[i]? with
    | none => rw [hq] at hk; cases hk
    | some w =>
      rw [hq] at hk
      cases hk
      rw [keyW_kV] at ht
      have hul := hd1.length
      rw [List.length_take] at hul
      have hm : w ∈ ws := List.mem_of_getElem? hq
      refine ⟨hw _, et_yes H2 (Ex.refl _) _ fun H3 e3 => ?_⟩
      rw [if_pos rfl]
      have ht3 := e3 _ _ ht
      have ntL : t ≠ L := fun z => by rw [z, e3 _ _ hL1] at ht3; cases ht3
      have dg : Ev (tDGet (tVar n) (tVar j)) ((wipe σ vs).set j (some (.ref t))) H3 (.int (h w)) := ev_dgetF (ev_var (hn _)) (ev_var (hj _)) (e3 _ _ (e1 _ _ hD)) ht3 (tabW_val hm)
      refine ⟨.ref t, hj _, dg H3 (Ex.refl _) _ fun H4 e4 => ⟨by show 2 ≤ sizeLine; decide, fun T hT => ?_⟩⟩
      have eT := Ex.new (o := .tup [.ref t, .int (h w)]) hT
      have e24 := (e3.trans e4).trans eT
      have hL5 := e24 _ _ hL1
      have ht5 := e24 _ _ ht
      have nTL : T ≠ L := fun z => by rw [z, (e3.trans e4) _ _ hL1] at hT; cases hT
      refine ⟨us, hL5, sz_lt (by omega), Ex.mut (e1.trans e24) hL, _, upd_same, ?_⟩
      rw [off_upd, take_snoc hq]
      refine (hd1.tk fun b xs hb => off_ex e24 _ _ hb).append (.cons ((off_at nTL).trans upd_same) ((off_at ntL).trans ht5) .nil)
  · obtain ⟨e1, us, hL1, hd1⟩ := p
    rw [tabW_len, List.take_length] at hd1
    exact k H1 L us e1 hL hL1 (hd1.tk fun b xs hb => off_in L H1 _ _ hb)
end
theorem opc1 {r : R2} {sp : Sp} {te : TE} {w : V} {σ : L2.St} {H : Hp} {Q : VK} (h : te σ H fun v H1 => sp [v] H1 (fun y H2 => r y w H2 Q) E0) : tOp r (tCall sp [] E0 (tCons te tNil)) (tC w) σ H Q := h
theorem cons1 {te : TE} {σ : L2.St} {H : Hp} {Q : List V → Hp → Prop} (h : te σ H fun v H1 => Q [v] H1) : tCons te tNil σ H Q := h
theorem lst2 {ta tb : TE} {σ : L2.St} {H : Hp} {Q : VK} (h : ta σ H fun v H1 => tb σ H1 fun u H2 => 2 ≤ sizeLine ∧ ∀ l, H2 l = none → Q (.ref l) (upd H2 l (.lst [v, u]))) : tLst (tCons ta (tCons tb tNil)) σ H Q := h
theorem ret_opX {r : R2} {ta tb : TE} {D : Ends} {σ : L2.St} {H : Hp} (h : ta σ H fun x H1 => tb σ H1 fun y H2 => r x y H2 D.rt) : tRet (tOp r ta tb) D σ H := h
/-- Wishes(lists), the lists good -/
theorem t_mkL {CW CB : Addr} {σ : L2.St} {H : Hp} {ta : TE} {v : V} {rows : List (List Wy)} {Q : VK} {W : L2.St → XK} (ha : Ev ta σ H v) (hv : Dq H v (pd rows)) (hG : GW rows) (h2 : 2 ≤ rows.length) (h8 : rows.length ≤ 8) (h6 : ∀ row ∈ rows, row.length ≤ 6)
    (k : ∀ H' x, Ex H H' → WO CW H' (.ref x) rows → Q (.ref x) H') : tMkAt CW (spWI CW CB) W (tCons ta tNil) σ H Q := ha H (Ex.refl H) _ fun H1 e1 => fun x dx nx ndx nex => by
  have hdue := due_pd hG h2 h8 h6
  have hl : (itemsT (pd rows)).length = rows.length := by simp [pd, itemsT]
  refine ⟨H1, x, dx, v, pd rows, rfl, upd_same, fun b o hb => ?_, nx, hv.mono e1, fun _ H2 e2 hx => ⟨rfl, ?_⟩, fun r hr => ?_⟩
  · rw [upd_ne (ne_of_none hb nx), upd_ne (ne_of_none hb ndx)]
    exact hb
  · rw [hl] at hx
    exact k H2 x (e1.trans e2) ⟨⟨x, dx, v, rfl, hx, (hv.mono e1).mono e2⟩, hG, h2, h8, h6⟩
  · rw [hdue] at hr
    cases hr
section
variable {P : Program} {w : World} {K : PySem.W.Frag} {mg : Str → Option Value} {base : Heap} {f : Addr} {fd : FuncData} {CW CB : Addr}
def spLaw (K : PySem.W.Frag) (Pt : Addr) : Sp := fun vs H Q _ => ∃ (a : Addr) (ns : List Int), vs = [.ref a] ∧ SqL K H a (ns.map V.int) ∧ ns.length ≤ 63 ∧ Tabs (TL Pt) H ∧ ∀ H', Q (.bl true) H'
abbrev sLaw : Stmt := top 40
abbrev nLaw : List Str := ["_law_script", "_law_pool_here", "_law_many", "_law_turns", "_law_lists_here", "_law_wishes", "_law_told", "_law_kept", "_law_asked", "_law_again", "_law_way"]
theorem scLaw : FnScope nLaw ["_law_script"] (defScope sLaw) := ⟨rfl, rfl, rfl, by decide +kernel, rfl, by decide +kernel, by decide +kernel⟩
structure Cs (P : Program) (w : World) (K : PySem.W.Frag) (mg : Str → Option Value) (base : Heap) (CW CB Pt : Addr) : Prop where
  pool : Cal P w K mg base "_law_pool" ["_law_script"] 1 (spPool K)
  draw : Cal P w K mg base "_law_draw" ["_law_pool_here", "_law_many"] 2 spDraw
  lists : Cal P w K mg base "_law_lists" ["_law_pool_here", "_law_many", "_law_turns", "_law_most"] 5 (spLst Pt)
  lad : Cal P w K mg base "ladder" ["wishes"] 8 (spLad CW)
  isl : Cal P w K mg base "is_ladder" ["wishes", "thing"] 8 (spIsL CW)
  hgt : Cal P w K mg base "_law_heights" ["_law_lists_here"] 3 spHgt
  lis : Cal P w K mg base "_law_is_ladder" ["_law_lists_here", "_law_thing"] 3 spLIs
  ways : Cal P w K mg base "_law_ways" ["_law_lists_here"] 2 spLWays
  mkW : MkW P w K mg base CW CB
  mq : MqW P w K mg base CW
theorem ok_law {Pt : Addr} (B : Bl mg) (S : Cs P w K mg base CW CB Pt) (F : FnP K "law" sLaw f fd) : FnOk P w K mg base CX0 10 f fd ["_law_script"] (spLaw K Pt) := by
  obtain ⟨fI, fdI, mk, FI, bI⟩ := S.mkW.ex
  refine F.ok scLaw (fun vs H Q E h => ?_) (fun cdv A outer s H vs Q E hr h => ?_)
  · obtain ⟨a, ns, rfl, _⟩ := h
    rfl
  · obtain ⟨a0, ns, rfl, hS, hns, hT, k⟩ := h
    have hu : (A.deeper (envOfC "law" (defScope sLaw) s.heap.objs.size f cdv)).units + 64 < cLine := by have := hr.un; omega
    have hu1 : (A.deeper (envOfC "law" (defScope sLaw) s.heap.objs.size f cdv)).units + 1 < cLine := by have := hr.un; omega
    have r1 : Room 1 _ := hr.mono (by decide)
    have r2 : Room 2 _ := hr.mono (by decide)
    have r3 : Room 3 _ := hr.mono (by decide)
    have r5 : Room 5 _ := hr.mono (by decide)
    have r8 : Room 8 _ := hr.mono (by decide)
    refine ⟨_, pss_cons (ps_set (i := 1) scLaw.nd rfl (Or.inl rfl) (pe_cal S.pool r1 (by rfl) (pa_cons (pv 0) pa_nil)))
      (pss_cons (ps_set (i := 2) scLaw.nd rfl (Or.inl rfl) (pe_op op_add pe_int (pe_cal S.draw r2 (by rfl) (pa_cons (pv 1) (pa_cons pe_int pa_nil)))))
      (pss_cons (ps_set (i := 3) scLaw.nd rfl (Or.inl rfl) (pe_cal S.draw r2 (by rfl) (pa_cons (pv 1) (pa_cons pe_int pa_nil))))
      (pss_cons (ps_set (i := 4) scLaw.nd rfl (Or.inl rfl) (pe_cal S.lists r5 (by rfl) (pa_cons (pv 1) (pa_cons (pv 2) (pa_cons (pv 3) (pa_cons pe_int pa_nil))))))
      (pss_cons (ps_set (i := 5) scLaw.nd rfl (Or.inl rfl) (pe_mkAt mk FI hr (by rfl) S.mkW.tx.g bI (fun σ => passAt L2.takes0 σ) (pa_cons (pv 4) pa_nil)))
      (pss_cons (ps_set (i := 6) scLaw.nd rfl (Or.inr rfl) (pe_cal S.lad r8 (by rfl) (pa_cons (pv 5) pa_nil)))
      (pss_cons (ps_if (pt_cmpR op_isN (pe_cal S.hgt r3 (by rfl) (pa_cons (pv 4) pa_nil)) pe_non (nomark _)) (pss_one (ps_ret (pe_and (pe_cmpR op_isN (pv 6) pe_non (nomark _)) (pe_one (pe_cmpR op_isN (pe_cal S.lad r8 (by rfl) (pa_cons (pe_mkAt mk FI hr (by rfl) S.mkW.tx.g bI (fun σ => passAt L2.takes0 σ) (pa_cons (pv 4) pa_nil)) pa_nil)) pe_non (nomark _)))))) pss_nil)
      (pss_cons (ps_if (pt_not (pt_val (pe_cal S.lis r3 (by rfl) (pa_cons (pv 4) (pa_cons (pv 6) pa_nil))))) (pss_one (ps_ret pe_bl)) pss_nil)
      (pss_cons (ps_if (pt_cmpR (op_neD hu) (pe_lock (pe_lc (own := [("_law_way", 10)]) (g := gName 10) (tt := tYes) rfl scLaw.nd (pi_keys (pv 6)) (blkOk_by (N := nLaw) (sc := defScope sLaw) (by decide +kernel)) (fun _ _ _ _ _ => pg_name (i := 10) scLaw.nd rfl (Or.inl rfl)) (fun _ _ _ _ _ => pts_nil) (fun _ _ _ _ _ => pv 10))) (pe_cal S.ways r2 (by rfl) (pa_cons (pv 4) pa_nil)) (nomark _)) (pss_one (ps_ret pe_bl)) pss_nil)
      (pss_cons (ps_lock (ps_setLc (i := 7) (own := [("_law_way", 10)]) (g := gName 10) (tt := tYes) rfl scLaw.nd rfl rfl (sw_true rfl rfl rfl (by decide +kernel)) (pi_keys (pv 6)) (blkOk_by (N := nLaw) (sc := defScope sLaw) (by decide +kernel)) (fun _ _ _ _ _ => pg_name (i := 10) scLaw.nd rfl (Or.inl rfl)) (fun _ _ _ _ _ => pts_nil) (fun _ _ _ _ _ => pe_tup (pa_cons (pv 10) (pa_cons (pe_dget hu1 (pv 6) (pv 10) (fun _ _ => rfl)) pa_nil)))))
      (pss_cons (ps_if (pt_cmpR op_notBl (pe_cal S.isl r8 (by rfl) (pa_cons (pv 5) (pa_cons (pv 6) pa_nil))) pe_bl (nomark _)) (pss_one (ps_ret pe_bl)) pss_nil)
      (pss_cons (ps_expr (pe_bm0 PySem.F.plainAttrs_dict PySem.F.slot_dict_clear PySem.F.type_dict_clear mtd_clearT (pv 6)))
      (pss_cons (ps_for (passes_of rfl) rfl (pi_list (pe_lst (pa_cons (pv 5) (pa_cons (pe_mkAt mk FI hr (by rfl) S.mkW.tx.g bI (fun σ => passAt L2.takes0 σ) (pa_cons (pv 4) pa_nil)) pa_nil)))) (pg_name (i := 8) scLaw.nd rfl (Or.inl rfl))
        (pss_cons (ps_set (i := 9) scLaw.nd rfl (Or.inr rfl) (pe_cal S.lad r8 (by rfl) (pa_cons (pv 8) pa_nil)))
        (pss_one (ps_if (PW.pt (pw_or (pt_not (pt_val (pe_cal S.lis r3 (by rfl) (pa_cons (pv 4) (pa_cons (pv 9) pa_nil))))) (pw_or1 (pt_cmpR (op_neD hu) (pe_lock (pe_lc (own := [("_law_way", 10)]) (g := gName 10) (tt := tYes) rfl scLaw.nd (pi_keys (pv 9)) (blkOk_by (N := nLaw) (sc := defScope sLaw) (by decide +kernel)) (fun _ _ _ _ _ => pg_name (i := 10) scLaw.nd rfl (Or.inl rfl)) (fun _ _ _ _ _ => pts_nil) (fun _ _ _ _ _ => pe_tup (pa_cons (pv 10) (pa_cons (pe_dget hu1 (pv 9) (pv 10) (fun _ _ => rfl)) pa_nil))))) (pv 7) (nomark _))))) (pss_one (ps_ret pe_bl)) pss_nil))))
      (pss_one (ps_ret (pe_cmpR (op_eqB (rc_DW S.mq) r1) (pv 5) (pe_mkAt mk FI hr (by rfl) S.mkW.tx.g bI (fun σ => passAt L2.takes0 σ) (pa_cons (pv 4) pa_nil)) (nomark _)))))))))))))))), ?_⟩
    refine ⟨.ref a0, rfl, a0, ns, rfl, hS, hns, fun H1 p q hP1 => ?_⟩
    have hT1 := hT.ext hP1.ex
    refine g_name ?_
    refine ⟨.ref p, rfl, Hd H1 p q, p, q, 6, rfl, hP1.hd, by decide, by decide, fun H2 y hP0 hy0 hy1 => ⟨2, y, rfl, rfl, ?_⟩⟩
    have hP2 := hP1.back hP0
    have hT2 := tabs_off hT1 hP1 hP0.off
    refine g_name ?_
    refine ⟨.ref p, rfl, Hd H2 p q, p, q, 21, rfl, hP2.hd, by decide, by decide, fun H3 tt hP00 ht0 ht1 => ?_⟩
    have hP3 := hP2.back hP00
    have hT3 := tabs_off hT2 hP2 hP00.off
    refine g_name ?_
    obtain ⟨M, hM⟩ : ∃ m : Nat, (2 : Int) + y = (m : Int) := ⟨(2 + y).toNat, by omega⟩
    have hPe : Pl (fun _ => none) H3 p q := hP3.less fun b o hb => by cases hb
    refine ⟨.ref p, rfl, .int (2 + y), rfl, .int tt, rfl, fun _ => none, p, q, M, tt, 5, by rw [hM]; rfl, hPe, (fun b ps z => by cases z), hT3, by omega, by omega, by omega, by omega, by decide, by decide, fun G4 H4 v rows _ hP4 hdq hrl hG h5 => ?_⟩
    have hv4 := hdq.mono hP4.ex
    have h2 : 2 ≤ rows.length := by omega
    have h8 : rows.length ≤ 8 := by omega
    have h6 : ∀ row ∈ rows, row.length ≤ 6 := fun row hr => by have := h5 row hr; omega
    have hlf := len_flat h6
    clear hP0 hP00 hP1 hP2 hP3 hP4 hPe hdq hT1 hT2 hT3 hT
    refine g_name ?_
    dsimp only
    rw [hM]
    refine q_asgX (t_mkL (CB := CB) (ev_var rfl) hv4 hG h2 h8 h6 fun H5 x e5 hW5 => ?_)
    have hv5 := hv4.mono e5
    refine ⟨.ref x, rfl, .ref x, rows, rfl, hW5, fun hl H6 e6 => ?_, fun P h hl H6 D e6 hDn hD6 => ?_⟩
    · -- no ladder
      refine g_name ?_
      dsimp only
      have hgN : hgt (alP rows) (rows.flatten.length + 1) (fun _ => 0) = none := lad_hgt hG hl
      have hv6 := hv5.mono e6
      refine ⟨v, rfl, v, rows, rfl, hv6, hG, h8, h6, fun _ H7 e7 => ⟨rfl, ?_⟩, fun z => absurd hgN z⟩
      have hv7 := hv6.mono e7
      refine ⟨decide (V.non = V.non), rfl, ?_⟩
      rw [decide_eq_true rfl]
      dsimp only
      rw [if_pos rfl]
      have c1 : Ev (tOp (fun x y H Q => y = V.non ∧ Q (V.bl (decide (x = V.non))) H) (tVar 6) (tC V.non)) (((((((L2.start nLaw [V.ref a0]).set 1 (some (.ref p))).set 2 (some (.int (M : Int)))).set 3 (some (.int tt))).set 4 (some v)).set 5 (some (.ref x))).set 6 (some .non)) H7 (.bl true) := fun H8 e8 Q2 q2 => ⟨.non, rfl, rfl, q2 H8 (Ex.refl _)⟩
      have c2 : Ev (tOp (fun x y H Q => y = V.non ∧ Q (V.bl (decide (x = V.non))) H) (tCall (spLad CW) [] E0 (tCons (tMkAt CW (spWI CW CB) (WE fun x x_1 x_2 x_3 => False) (tCons (tVar 4) tNil)) tNil)) (tC V.non)) (((((((L2.start nLaw [V.ref a0]).set 1 (some (.ref p))).set 2 (some (.int (M : Int)))).set 3 (some (.int tt))).set 4 (some v)).set 5 (some (.ref x))).set 6 (some .non)) H7 (.bl true) := fun H8 e8 Q2 q2 =>
        opc1 (t_mkL (CB := CB) (ev_var rfl) (hv7.mono e8) hG h2 h8 h6 fun H9 x9 e9 hW9 => ⟨.ref x9, rows, rfl, hW9, fun _ HA eA => ⟨rfl, q2 HA (e9.trans eA)⟩, fun P h z => by rw [hl] at z; cases z⟩)
      exact s_ret (ev_andV (a := true) c1 fun _ => c2) fun H8 _ => k H8
    · obtain ⟨hperm, hlt, hgN⟩ := lad_good hG hl
      have hsw : sortW P = sortW rows.flatten := sortW_eq hperm
      rw [hsw] at hD6
      have hsl : (sortW rows.flatten).length = rows.flatten.length := (sortW_perm _).length_eq
      refine g_name ?_
      dsimp only
      have hv6 := hv5.mono e6
      have hW6 := hW5.up e6
      have hwl : (sortW rows.flatten).length ≤ 1000 := by omega
      refine ⟨v, rfl, v, rows, rfl, hv6, hG, h8, h6, fun z => absurd z hgN, fun _ H7 D7 e7 => ⟨rfl, ?_⟩⟩
      refine ⟨decide (V.ref D7 = V.non), rfl, ?_⟩
      rw [decide_eq_false (by intro z; cases z)]
      dsimp only
      rw [if_neg (by decide)]
      have hD7 := e7 _ _ hD6
      have hv7 := hv6.mono e7
      have e57 := e6.trans e7
      -- _law_is_ladder
      have cl : ∀ {H8 : Hp} {D8 : Addr} {σ : L2.St} {i : Nat}, σ[4]? = some (some v) → σ[i]? = some (some (.ref D8)) → Dq H8 v (pd rows) → H8 D8 = some (.dT (tabW (sortW rows.flatten) h)) → Ev (tCall spLIs [] E0 (tCons (tVar 4) (tCons (tVar i) tNil))) σ H8 (.bl true) := fun {H8 D8 σ i} s4 s6 hv8 hD8 H9 e9 Q2 q2 => ⟨v, s4, .ref D8, s6, v, rows, D8, h, rfl, hv8.mono e9, hG, h8, h6, e9 _ _ hD8, hlt, fun HA eA => q2 HA eA⟩
      refine q_when (b := !true) (et_not (et_B (cl rfl rfl hv7 hD7))) (fun hb => by cases hb) fun _ H8 e8 => ?_
      have hD8 := e8 _ _ hD7
      have hv8 := hv7.mono e8
      have e58 := e57.trans e8
      -- its keys
      have ck : EvT (tTest (tOp (rNeD K) (tLockE (tLc (iKeys (tVar 6)) (gName 10) tYes (tVar 10) (List.map (fun x => x.2) [(Str.ofString "_law_way", 10)]))) (tCall spLWays [] E0 (tCons (tVar 4) tNil)))) (((((((L2.start nLaw [V.ref a0]).set 1 (some (.ref p))).set 2 (some (.int (M : Int)))).set 3 (some (.int tt))).set 4 (some v)).set 5 (some (.ref x))).set 6 (some (.ref D))) H8 false := fun H9 e9 Q2 q2 => by
        have hD9 := e9 _ _ hD8
        refine ⟨D, _, hD9, trivial, fun od => ?_⟩
        refine lc_keysW (D := D) (od := od) (ws := sortW rows.flatten) (h := h) upd_same hwl rfl (fun _ => rfl) (fun _ => rfl) fun HA L us eA hL hLA hdA => ⟨eA _ _ upd_same, ?_⟩
        have eU := lock_ex hD9 eA
        have nLD : L ≠ D := fun z => by rw [z, eA _ _ upd_same] at hLA; cases hLA
        have hLU : (upd HA D (.dT (tabW (sortW rows.flatten) h))) L = some (.lst us) := by rw [upd_ne nLD]; exact hLA
        have hdU : DqA (upd HA D (.dT (tabW (sortW rows.flatten) h))) us ((sortW rows.flatten).map wd) := dqa_tk (fun b xs hb => by
          rw [upd_ne fun z => by rw [z, eA _ _ upd_same] at hb; cases hb]
          exact hb) hdA
        generalize upd HA D (.dT (tabW (sortW rows.flatten) h)) = HU at *
        refine ⟨v, rfl, v, rows, rfl, (hv8.mono e9).mono eU, hG, h8, h6, fun HB L2' us2 eB hL2 hLB hdB => ?_⟩
        refine ⟨.list ((sortW rows.flatten).map wd), .list ((sortW rows.flatten).map wd), .lst (sq_of (eB _ _ hLU)) (DqA.dp (lay_wds _) (hdU.mono eB)), .lst (sq_of hLB) (DqA.dp (lay_wds _) hdB), shaped_wds _, shaped_wds _, ?_⟩
        have eq : PyData.eqv (.list ((sortW rows.flatten).map wd)) (.list ((sortW rows.flatten).map wd)) = true := by
          show PyData.eqvAll _ _ = true
          rw [eqv_mapd eqv_wd]
          exact decide_eq_true rfl
        rw [eq]
        exact ⟨false, rfl, q2 HB (eU.trans eB)⟩
      refine q_when ck (fun hb => by cases hb) fun _ H9 e9 => ?_
      have hD9 := e9 _ _ hD8
      have hv9 := hv8.mono e9
      have e59 := e58.trans e9
      -- what is kept
      refine ⟨D, _, hD9, trivial, fun od => ?_⟩
      refine lc_kept (D := D) (od := od) (ws := sortW rows.flatten) (h := h) upd_same hwl rfl (fun _ => rfl) (fun _ => rfl) (fun _ => rfl) fun HA L us eA hL hLA hkA => ?_
      refine g_name ⟨eA _ _ upd_same, ?_⟩
      have eU := lock_ex hD9 eA
      have nLD : L ≠ D := fun z => by rw [z, eA _ _ upd_same] at hLA; cases hLA
      have hLU : (upd HA D (.dT (tabW (sortW rows.flatten) h))) L = some (.lst us) := by rw [upd_ne nLD]; exact hLA
      have hkU : KpL (upd HA D (.dT (tabW (sortW rows.flatten) h))) h us (sortW rows.flatten) := hkA.tk fun b xs hb => by
        rw [upd_ne fun z => by rw [z, eA _ _ upd_same] at hb; cases hb]
        exact hb
      have hDU : (upd HA D (.dT (tabW (sortW rows.flatten) h))) D = some (.dT (tabW (sortW rows.flatten) h)) := upd_same
      generalize upd HA D (.dT (tabW (sortW rows.flatten) h)) = HU at *
      have e5U := e59.trans eU
      dsimp only
      -- is_ladder
      have ci : EvT (tTest (tOp rNotB (tCall (spIsL CW) [] E0 (tCons (tVar 5) (tCons (tVar 6) tNil))) (tC (V.bl true)))) ((((((((L2.start nLaw [V.ref a0]).set 1 (some (.ref p))).set 2 (some (.int (M : Int)))).set 3 (some (.int tt))).set 4 (some v)).set 5 (some (.ref x))).set 6 (some (.ref D))).set 7 (some (.ref L))) HU false := fun HB eB Q2 q2 =>
        ⟨.ref x, rfl, .ref D, rfl, H5, .ref x, D, rows, h, rfl, e5U.trans eB, hDn, hW5, eB _ _ hDU, hlt, fun HC eC => ⟨true, true, rfl, rfl, false, rfl, q2 HC eC⟩⟩
      refine q_when ci (fun hb => by cases hb) fun _ HB eB => ?_
      have hDB := eB _ _ hDU
      refine ⟨.ref D, rfl, .inr (.inr (.inl ⟨rfl, .inr ⟨_, hDB⟩⟩)), D, _, rfl, rfl, hDB, ?_⟩
      have eC : Ex H5 (upd HB D (.dT [])) := Ex.mut (e5U.trans eB) hDn
      have hLC : (upd HB D (.dT [])) L = some (.lst us) := by rw [upd_ne nLD]; exact eB _ _ hLU
      have hkC : KpL (upd HB D (.dT [])) h us (sortW rows.flatten) := hkU.tk fun b xs hb => by
        have hb' := eB _ _ hb
        rw [upd_ne fun z => by rw [z, hDB] at hb'; cases hb']
        exact hb'
      generalize upd HB D (.dT []) = HC at *
      have hvC := hv5.mono eC
      have hWC := hW5.up eC
      dsimp only
      refine q_forC (K := K) (fun l xs HD => ∃ x2, xs = [.ref x, .ref x2] ∧ HD l = some (.lst xs) ∧ Ex HC HD ∧ WO CW HD (.ref x2) rows) (fun Q' q' => lst2 ⟨.ref x, rfl, t_mkL (CB := CB) (ev_var rfl) hvC hG h2 h8 h6 fun HD x2 eD hW2 => ⟨by show 2 ≤ sizeLine; decide, fun l hl2 => q' l _ _ ⟨x2, rfl, upd_same, eD.trans (Ex.new hl2), hW2.up (Ex.new hl2)⟩⟩⟩) ?_
      rintro l xs HD ⟨x2, rfl, hlD, eD, hW2⟩
      refine ⟨sq_of hlD, fun i σ' H' => ∃ o8 o9, σ' = [some (.ref a0), some (.ref p), some (.int (M : Int)), some (.int tt), some v, some (.ref x), some (.ref D), some (.ref L), o8, o9, none] ∧ Ex HD H', ⟨none, none, rfl, Ex.refl _⟩, fun i σ' H' _ pp => ?_, ?_, ?_⟩
      · obtain ⟨_, _, _, pp⟩ := pp
        exact sq_of (pp _ _ hlD)
      · rintro i z σ' HE hz ⟨o8, o9, rfl, eE⟩
        obtain ⟨xi, rfl, hWi⟩ : ∃ xi, z = .ref xi ∧ WO CW HE (.ref xi) rows := by
          have hm := List.mem_of_getElem? hz
          rcases List.mem_cons.mp hm with w | w
          · exact ⟨x, w, (hWC.up eD).up eE⟩
          · exact ⟨x2, List.mem_singleton.mp w, hW2.up eE⟩
        have eCE := eD.trans eE
        refine g_name ?_
        refine ⟨.ref xi, rfl, .ref xi, rows, rfl, hWi, (fun zz => by rw [hl] at zz; cases zz), fun P' h' zz HF D2 eF hD2n hD2 => ?_⟩
        rw [hl] at zz
        cases zz
        rw [hsw] at hD2
        have eCF := eCE.trans eF
        have hvF := hvC.mono eCF
        refine g_name ?_
        have c1 := cl (H8 := HF) (D8 := D2) (σ := [some (.ref a0), some (.ref p), some (.int (M : Int)), some (.int tt), some v, some (.ref x), some (.ref D), some (.ref L), some (.ref xi), some (.ref D2), none]) (i := 9) rfl rfl hvF hD2
        have c2 : EvT (tTest (tOp (rNeD K) (tLockE (tLc (iKeys (tVar 9)) (gName 10) tYes (tTup (tCons (tVar 10) (tCons (tDGet (tVar 9) (tVar 10)) tNil))) (List.map (fun x => x.2) [(Str.ofString "_law_way", 10)]))) (tVar 7))) [some (.ref a0), some (.ref p), some (.int (M : Int)), some (.int tt), some v, some (.ref x), some (.ref D), some (.ref L), some (.ref xi), some (.ref D2), none] HF false := fun HG eG Q2 q2 => by
          have hDG := eG _ _ hD2
          refine ⟨D2, _, hDG, trivial, fun od2 => ?_⟩
          refine lc_kept (D := D2) (od := od2) (ws := sortW rows.flatten) (h := h) upd_same hwl rfl (fun _ => rfl) (fun _ => rfl) (fun _ => rfl) fun HI L2' us2 eI hL2 hLI hkI => ⟨eI _ _ upd_same, ?_⟩
          have eV := lock_ex hDG eI
          have nLD2 : L2' ≠ D2 := fun z => by rw [z, eI _ _ upd_same] at hLI; cases hLI
          have hLV : (upd HI D2 (.dT (tabW (sortW rows.flatten) h))) L2' = some (.lst us2) := by rw [upd_ne nLD2]; exact hLI
          have hkV : KpL (upd HI D2 (.dT (tabW (sortW rows.flatten) h))) h us2 (sortW rows.flatten) := hkI.tk fun b xs hb => by
            rw [upd_ne fun z => by rw [z, eI _ _ upd_same] at hb; cases hb]
            exact hb
          generalize upd HI D2 (.dT (tabW (sortW rows.flatten) h)) = HV at *
          have eCV := (eCF.trans eG).trans eV
          refine ⟨.ref L, rfl, .list ((sortW rows.flatten).map (kd h)), .list ((sortW rows.flatten).map (kd h)), .lst (sq_of hLV) hkV.dp, .lst (sq_of (eCV _ _ hLC)) (hkC.tk fun b xs hb => eCV _ _ hb).dp, shaped_kd _ _, shaped_kd _ _, ?_⟩
          have eq : PyData.eqv (.list ((sortW rows.flatten).map (kd h))) (.list ((sortW rows.flatten).map (kd h))) = true := eqv_kd h _
          rw [eq]
          exact ⟨false, rfl, q2 HV eV⟩
        refine s_when (b := !true || false) (et_or (et_not (et_B c1)) fun _ => c2) (fun hb => by cases hb) fun _ HG eG => ⟨_, _, rfl, (eE.trans eF).trans eG⟩
      · rintro σ' HE ⟨o8, o9, rfl, eE⟩
        have eCE := eD.trans eE
        refine ret_opX ⟨.ref x, rfl, t_mkL (CB := CB) (ev_var rfl) (hvC.mono eCE) hG h2 h8 h6 fun HF x3 e3 hW3 => ⟨decide (rows = rows), dw_of ((hWC.up eCE).up e3) hW3, fun HG eG => ?_⟩⟩
        rw [decide_eq_true rfl]
        exact k HG
end
end Wk

set_option Elab.async false
set_option linter.all false
set_option maxRecDepth 100000
set_option maxHeartbeats 4000000
namespace Wk
open PySem PySem.Spec PyProof.Rows L2 Evl LamX
theorem code_at {K : PySem.W.Frag} {p : He.Defn} {x q : Str} {params : Arguments} {body : List Stmt} {scope : Scope} {dvs : List V} {kws : List (Str × V)} {fd : FuncData} (F : FunD K x q params body scope dvs kws (He.fAd K p) fd) : fd.code = .ref (He.cT K p).1 := by
  obtain ⟨oc, od, dV, kV, doc, pm, an, cdv, ct, osl, e, lk, hcd, _, _⟩ := F.ex
  subst e
  obtain ⟨c, hc⟩ := He.codeIn_ref hcd
  have z : (PySem.W.fnOf x q params body scope dV kV doc pm an cdv ct).code = .ref c := hc
  show _ = Value.ref (He.codeOf K p)
  rw [He.codeOf_eq lk z]
  exact z
theorem law_at {w : World} {h : Heap} {K : PySem.W.Frag} {mg : Str → Option Value} {fa : Addr} {fd : FuncData} (c : He.SaysX Wk.fa fn [] tf eb w h K) (kx : K.In h) (hb : ∀ (t : Shared) (u : Value), BindsTo t fd ⟨[u], []⟩ [("_law_script", u)])
    (hF : ∀ base : Heap, K.In base → base.Ns mainGlobals mg → TabB base mg (He.cT K ("_law_lists", none)).1 (He.cT K ("_law_lists", none)).2 → FnOk (PySem.Challenge.rw_wishreels_k33_ladders_made).prog w K mg base CX0 10 fa fd ["_law_script"] (spLaw K (He.cT K ("_law_lists", none)).2)) :
    LawAtS PySem.Challenge.rw_wishreels_k33_ladders_made w K CX0 10 63 "_law_script" mg fa h := by
  have hm : (("_law_lists", none) : He.Defn) ∈ tf := List.mem_singleton.mpr rfl
  refine ⟨fd, [He.cT K ("_law_lists", none)], spLaw K (He.cT K ("_law_lists", none)).2, fun p hp => ?_, fun p hp => ?_, fun p hp => ?_, hb, fun H a ns hl _ hH hS => ⟨a, ns, rfl, hS, hl, fun q hq => ?_, fun _ => rfl⟩, fun base k1 k2 hTB => hF base k1 k2 (hTB _ (List.mem_singleton.mpr rfl))⟩
  · rw [List.mem_singleton.mp hp]
    exact c.empty _ hm
  · rw [List.mem_singleton.mp hp]
    exact c.out _ hm
  · rw [List.mem_singleton.mp hp]
    exact PySem.W.codeHd_of_K kx (c.hd _ hm)
  · rw [List.mem_singleton.mp hq]
    exact TabS.nil (hH _ (List.mem_singleton.mpr rfl))
end Wk

set_option Elab.async false
set_option linter.all false
set_option maxRecDepth 100000
set_option maxHeartbeats 4000000
namespace Wk
open PySem PySem.Spec PyProof.Rows L2 Evl
theorem facts {P : Program} {w : World} {K : PySem.W.Frag} {h : Heap} {mg : Str → Option Value} {f : Addr} (X : K.In h) (G : h.Ns mainGlobals mg) (hfa : mg ("law" : Str) = some (.ref f)) (c : He.SaysD fa fn K) (cx : eb K = true) :
    ∃ fd : FuncData, (∀ (t : Shared) (u : Value), BindsTo t fd ⟨[u], []⟩ [("_law_script", u)]) ∧ ∀ base : Heap, K.In base → base.Ns mainGlobals mg → (LamX.TabB base mg (He.cT K ("_law_lists", none)).1 (He.cT K ("_law_lists", none)).2) → FnOk P w K mg base CX0 10 f fd ["_law_script"] (spLaw K (He.cT K ("_law_lists", none)).2) := by
  obtain ⟨d0, F0⟩ := c.def_ 0 (d := dG "is_integer" 7) rfl
  obtain ⟨d1, F1⟩ := c.def_ 1 (d := dG "is_between" 8) rfl
  obtain ⟨d2, F2⟩ := c.def_ 2 (d := dG "is_integer_tuple" 9) rfl
  obtain ⟨d3, F3⟩ := c.def_ 3 (d := dG "is_router" 10) rfl
  obtain ⟨d4, F4⟩ := c.def_ 4 (d := dG "refuse_no_router" 11) rfl
  obtain ⟨d5, F5⟩ := c.def_ 5 (d := dG "is_size" 12) rfl
  obtain ⟨d6, F6⟩ := c.def_ 6 (d := dG "is_way" 13) rfl
  obtain ⟨d7, F7⟩ := c.def_ 7 (d := dG "refuse_wrong_lists" 18) rfl
  obtain ⟨d8, F8⟩ := c.def_ 8 (d := dG "is_way_list" 19) rfl
  obtain ⟨d9, F9⟩ := c.def_ 9 (d := dG "has_let_rest" 20) rfl
  obtain ⟨d10, F10⟩ := c.def_ 10 (d := dG "let_ways" 21) rfl
  obtain ⟨d11, F11⟩ := c.def_ 11 (d := dG "is_let_way" 22) rfl
  obtain ⟨d12, F12⟩ := c.def_ 12 (d := dG "ends" 23) rfl
  obtain ⟨d13, F13⟩ := c.def_ 13 (d := dG "goings_on" 25) rfl
  obtain ⟨d14, F14⟩ := c.def_ 14 (d := dG "wished_more" 26) rfl
  obtain ⟨d15, F15⟩ := c.def_ 15 (d := dG "ladder" 27) rfl
  obtain ⟨d16, F16⟩ := c.def_ 16 (d := dG "is_ladder" 28) rfl
  obtain ⟨d17, F17⟩ := c.def_ 17 (d := dG "_law_pool" 30) rfl
  obtain ⟨d18, F18⟩ := c.def_ 18 (d := dG "_law_mixed" 31) rfl
  obtain ⟨d19, F19⟩ := c.def_ 19 (d := dG "_law_draw" 32) rfl
  obtain ⟨d20, F20⟩ := c.def_ 20 (d := dG "_law_shuffled" 33) rfl
  obtain ⟨d21, F21⟩ := c.def_ 21 (d := dG "_law_plan" 34) rfl
  obtain ⟨d22, F22⟩ := c.def_ 22 (d := dG "_law_lists" 35) rfl
  obtain ⟨d23, F23⟩ := c.def_ 23 (d := dG "_law_pairs" 36) rfl
  obtain ⟨d24, F24⟩ := c.def_ 24 (d := dG "_law_ways" 37) rfl
  obtain ⟨d25, F25⟩ := c.def_ 25 (d := dG "_law_heights" 38) rfl
  obtain ⟨d26, F26⟩ := c.def_ 26 (d := dG "_law_is_ladder" 39) rfl
  obtain ⟨d27, F27⟩ := c.def_ 27 (d := dG "law" 40) rfl
  obtain ⟨d28, F28⟩ := c.def_ 28 (d := dM "Wishes" "__init__" "Wishes.__init__" 17 0) rfl
  obtain ⟨d29, F29⟩ := c.def_ 29 (d := dM "Wishes" "__eq__" "Wishes.__eq__" 17 1) rfl
  obtain ⟨d30, F30⟩ := c.def_ 30 (d := dM "Wishes" "ways" "Wishes.ways" 17 2) rfl
  obtain ⟨d31, F31⟩ := c.def_ 31 (d := dM "NoRouter" "__init__" "NoRouter.__init__" 3 0) rfl
  obtain ⟨d32, F32⟩ := c.def_ 32 (d := dM "BadWishes" "__init__" "BadWishes.__init__" 4 0) rfl
  have e := hfa.symm.trans (He.glo_ok X G (c.fact 27 (f := .glo "law") rfl))
  cases e
  have bL := FunD.bindsA (ps := ["_law_script"]) F27 fun _ _ _ _ _ _ us hl => match us, hl with | [_], _ => rfl
  have B : Bl mg := ⟨He.free_ok X G (c.fact 28 rfl), He.free_ok X G (c.fact 29 rfl), He.free_ok X G (c.fact 30 rfl), He.free_ok X G (c.fact 31 rfl), He.free_ok X G (c.fact 32 rfl), He.free_ok X G (c.fact 33 rfl), He.free_ok X G (c.fact 34 rfl), He.free_ok X G (c.fact 35 rfl), He.free_ok X G (c.fact 36 rfl), He.free_ok X G (c.fact 37 rfl), He.free_ok X G (c.fact 38 rfl), He.free_ok X G (c.fact 39 rfl), He.free_ok X G (c.fact 40 rfl), He.free_ok X G (c.fact 41 rfl)⟩
  have hso : mg "sorted" = none := He.free_ok X G (c.fact 42 (f := .free "sorted") rfl)
  have hmx : mg "max" = none := He.free_ok X G (c.fact 43 (f := .free "max") rfl)
  have hdi : mg "dict" = none := He.free_ok X G (c.fact 44 (f := .free "dict") rfl)
  obtain ⟨t8, m8⟩ := He.int_ok X G (c.fact 45 (f := .int "MOST_ROUTERS" 8) rfl)
  obtain ⟨t6, m6⟩ := He.int_ok X G (c.fact 46 (f := .int "MOST_WAYS" 6) rfl)
  obtain ⟨t2, m2⟩ := He.int_ok X G (c.fact 47 (f := .int "LEAST_ROUTERS" 2) rfl)
  obtain ⟨x1, cx⟩ := He.ba cx
  obtain ⟨x2, cx⟩ := He.ba cx
  obtain ⟨x3, x4⟩ := He.ba cx
  have TX : WTx K mg (He.ga K "Wishes") := ⟨He.cls_ok (c.fact 49 (f := .cls "Wishes") rfl), He.noat_ok (c.fact 53 (f := .noat "Wishes" "size") rfl), He.noat_ok (c.fact 54 (f := .noat "Wishes" "_lists") rfl), He.glo_ok X G (c.fact 48 (f := .glo "Wishes") rfl)⟩
  obtain ⟨oN, xN⟩ := exB_ok x1
  obtain ⟨oB, xB⟩ := exB_ok x2
  have IT := insB_ok TX.cl x3
  have ME := insO_ok x4
  have nN : PySem.W.findIn K (.ref (He.ga K "NoRouter")) "router" = some none := He.noat_ok (c.fact 59 (f := .noat "NoRouter" "router") rfl)
  have nB : PySem.W.findIn K (.ref (He.ga K "BadWishes")) "router" = some none := He.noat_ok (c.fact 60 (f := .noat "BadWishes" "router") rfl)
  have iN := He.meth_ok (c.fact 61 (f := .meth "NoRouter" "__init__") rfl)
  have iB := He.meth_ok (c.fact 62 (f := .meth "BadWishes" "__init__") rfl)
  refine ⟨d27, fun t u => bL t [u] rfl, fun base _ _ TB => ?_⟩
  have C0 : Cal P w K mg base "is_integer" ["thing"] 1 spIsInt := calOf F0 (ok_isInt B F0) (He.glo_ok X G (c.fact 0 rfl)) (F0.bindsN fun _ _ _ _ _ _ us hl => match us, hl with | [_], _ => rfl)
  have C1 : Cal P w K mg base "is_between" ["least", "most", "thing"] 2 spBetween := calOf F1 (ok_between B C0 F1) (He.glo_ok X G (c.fact 1 rfl)) (F1.bindsN fun _ _ _ _ _ _ us hl => match us, hl with | [_, _, _], _ => rfl)
  have C2 : Cal P w K mg base "is_router" ["size", "thing"] 3 spRouter := calOf F3 (ok_router C1 F3) (He.glo_ok X G (c.fact 3 rfl)) (F3.bindsN fun _ _ _ _ _ _ us hl => match us, hl with | [_, _], _ => rfl)
  have CS : Cal P w K mg base "is_size" ["least", "thing"] 3 spSize := calOf F5 (ok_size m8 C1 F5) (He.glo_ok X G (c.fact 5 rfl)) (F5.bindsN fun _ _ _ _ _ _ us hl => match us, hl with | [_, _], _ => rfl)
  have C3 : Cal P w K mg base "is_way" ["size", "router", "thing"] 5 spWay := calOf F6 (ok_way B m8 C2 F6) (He.glo_ok X G (c.fact 6 rfl)) (F6.bindsN fun _ _ _ _ _ _ us hl => match us, hl with | [_, _, _], _ => rfl)
  have C5 : Cal P w K mg base "is_way_list" ["size", "router", "thing"] 6 spRow := calOf F8 (ok_row B m6 C3 F8) (He.glo_ok X G (c.fact 8 rfl)) (F8.bindsN fun _ _ _ _ _ _ us hl => match us, hl with | [_, _, _], _ => rfl)
  have C6 : Cal P w K mg base "has_let_rest" ["lists", "way"] 1 spRest := calOf F9 (ok_rest F9) (He.glo_ok X G (c.fact 9 rfl)) (F9.bindsN fun _ _ _ _ _ _ us hl => match us, hl with | [_, _], _ => rfl)
  have EN : Err P w K mg base "NoRouter" (He.ga K "NoRouter") := ⟨He.glo_ok X G (c.fact 56 (f := .glo "NoRouter") rfl), oN, xN, nN, He.exm_ok (c.fact 58 (f := .exm "NoRouter" "NoRouter" true) rfl), ⟨_, d31, iN.at_, beq_iff_eq.mp iN.fn, ok_xn oN nN F31, F31.bindsN fun _ _ _ _ _ _ us hl => match us, hl with | [_, _], _ => rfl⟩⟩
  have EB : Err P w K mg base "BadWishes" (He.ga K "BadWishes") := ⟨He.glo_ok X G (c.fact 55 (f := .glo "BadWishes") rfl), oB, xB, nB, He.exm_ok (c.fact 57 (f := .exm "BadWishes" "BadWishes" true) rfl), ⟨_, d32, iB.at_, beq_iff_eq.mp iB.fn, ok_xb oB nB F32, F32.bindsN fun _ _ _ _ _ _ us hl => match us, hl with | [_, _], _ => rfl⟩⟩
  have CR : CalX P w K mg base "refuse_no_router" ["size", "thing"] 4 (spNoRt (He.ga K "NoRouter")) := ⟨⟨_, d4, ok_noRt EN C2 F4, He.glo_ok X G (c.fact 4 rfl), F4.kp, (F4.bindsN fun _ _ _ _ _ _ us hl => match us, hl with | [_, _], _ => rfl)⟩⟩
  have C4 : CalX P w K mg base "refuse_wrong_lists" ["lists"] 7 (spRefuse (He.ga K "BadWishes")) := ⟨⟨_, d7, ok_refuse B m2 CS EB C5 C6 F7, He.glo_ok X G (c.fact 7 rfl), F7.kp, (F7.bindsN fun _ _ _ _ _ _ us hl => match us, hl with | [_], _ => rfl)⟩⟩
  have MW : MkW P w K mg base (He.ga K "Wishes") (He.ga K "BadWishes") := ⟨TX, ⟨_, d28, He.mkr_ok (c.fact 50 (f := .mkr "Wishes") rfl), ok_wi B TX C4 F28, F28.bindsN fun _ _ _ _ _ _ us hl => match us, hl with | [_, _], _ => rfl⟩⟩
  have MQ : MqW P w K mg base (He.ga K "Wishes") := ⟨⟨_, d29, He.meth_ok (c.fact 52 (f := .meth "Wishes" "__eq__") rfl), ok_weq B TX IT ME F29, F29.bindsN fun _ _ _ _ _ _ us hl => match us, hl with | [_, _], _ => rfl⟩⟩
  have WC1 : WC P w K mg base (He.ga K "Wishes") (He.ga K "NoRouter") := ⟨TX, IT, ⟨_, d30, He.meth_ok (c.fact 51 (f := .meth "Wishes" "ways") rfl), ok_ways TX CR F30, F30.bindsN fun _ _ _ _ _ _ us hl => match us, hl with | [_, _], _ => rfl⟩⟩
  have P2 : Cal P w K mg base "is_integer_tuple" ["thing"] 2 spIntTup := calOf F2 (ok_intTup B C0 F2) (He.glo_ok X G (c.fact 2 rfl)) (F2.bindsN fun _ _ _ _ _ _ us hl => match us, hl with | [_], _ => rfl)
  have P5 : Cal P w K mg base "let_ways" ["wishes"] 6 (spLetWays (He.ga K "Wishes")) := calOf F10 (ok_letWays B WC1 F10) (He.glo_ok X G (c.fact 10 rfl)) (F10.bindsN fun _ _ _ _ _ _ us hl => match us, hl with | [_], _ => rfl)
  have P6 : Cal P w K mg base "is_let_way" ["wishes", "thing"] 6 (spLetWay (He.ga K "Wishes")) := calOf F11 (ok_letWay B WC1 P2 C2 F11) (He.glo_ok X G (c.fact 11 rfl)) (F11.bindsN fun _ _ _ _ _ _ us hl => match us, hl with | [_, _], _ => rfl)
  have P8 : Cal P w K mg base "ends" ["way"] 1 (spEnds endsW) := calOf F12 (ok_ends B F12) (He.glo_ok X G (c.fact 12 rfl)) (F12.bindsN fun _ _ _ _ _ _ us hl => match us, hl with | [_], _ => rfl)
  have P9 : Cal P w K mg base "wished_more" ["wishes", "own"] 6 (spMore K (He.ga K "Wishes")) := calOf F14 (ok_more B WC1 F14) (He.glo_ok X G (c.fact 14 rfl)) (F14.bindsN fun _ _ _ _ _ _ us hl => match us, hl with | [_, _], _ => rfl)
  have PA : Cal P w K mg base "goings_on" ["wishes"] 7 (spGo (He.ga K "Wishes")) := calOf F13 (ok_go P5 P9 P8 F13) (He.glo_ok X G (c.fact 13 rfl)) (F13.bindsN fun _ _ _ _ _ _ us hl => match us, hl with | [_], _ => rfl)
  have PB : Cal P w K mg base "ladder" ["wishes"] 8 (spLad (He.ga K "Wishes")) := calOf F15 (ok_lad B hso PA F15) (He.glo_ok X G (c.fact 15 rfl)) (F15.bindsN fun _ _ _ _ _ _ us hl => match us, hl with | [_], _ => rfl)
  have PC : Cal P w K mg base "is_ladder" ["wishes", "thing"] 8 (spIsL (He.ga K "Wishes")) := calOf F16 (ok_isl B hdi C0 P6 P5 PA F16) (He.glo_ok X G (c.fact 16 rfl)) (F16.bindsN fun _ _ _ _ _ _ us hl => match us, hl with | [_, _], _ => rfl)
  have D1 : Cal P w K mg base "_law_pool" ["_law_script"] 1 (spPool K) := calOf F17 (ok_pool B F17) (He.glo_ok X G (c.fact 17 rfl)) (F17.bindsN fun _ _ _ _ _ _ us hl => match us, hl with | [_], _ => rfl)
  have D2 : Cal P w K mg base "_law_mixed" ["_law_number", "_law_turn"] 1 spMix := calOf F18 (ok_mix B F18) (He.glo_ok X G (c.fact 18 rfl)) (F18.bindsN fun _ _ _ _ _ _ us hl => match us, hl with | [_, _], _ => rfl)
  have D3 : Cal P w K mg base "_law_draw" ["_law_pool_here", "_law_many"] 2 spDraw := calOf F19 (ok_draw B D2 F19) (He.glo_ok X G (c.fact 19 rfl)) (F19.bindsN fun _ _ _ _ _ _ us hl => match us, hl with | [_, _], _ => rfl)
  have D4 : Cal P w K mg base "_law_shuffled" ["_law_pool_here", "_law_row"] 3 (spShuf K) := calOf F20 (ok_shuf B D3 F20) (He.glo_ok X G (c.fact 20 rfl)) (F20.bindsN fun _ _ _ _ _ _ us hl => match us, hl with | [_, _], _ => rfl)
  have D5 : Cal P w K mg base "_law_plan" ["_law_kind"] 1 spPlan := calOf F21 (ok_plan F21) (He.glo_ok X G (c.fact 21 rfl)) (F21.bindsN fun _ _ _ _ _ _ us hl => match us, hl with | [_], _ => rfl)
  have D6 : Cal P w K mg base "_law_lists" ["_law_pool_here", "_law_many", "_law_turns", "_law_most"] 5 (spLst (He.cT K ("_law_lists", none)).2) := calOf F22 (ok_lists B hso hmx TB D3 D4 D5 F22 (code_at (p := ("_law_lists", none)) F22)) (He.glo_ok X G (c.fact 22 rfl)) (F22.bindsN fun _ _ _ _ _ _ us hl => match us, hl with | [_, _, _, _], _ => rfl)
  have D7 : Cal P w K mg base "_law_pairs" ["_law_lists_here"] 1 spPairs := calOf F23 (ok_pairs B F23) (He.glo_ok X G (c.fact 23 rfl)) (F23.bindsN fun _ _ _ _ _ _ us hl => match us, hl with | [_], _ => rfl)
  have D8 : Cal P w K mg base "_law_ways" ["_law_lists_here"] 2 spLWays := calOf F24 (ok_lways B hso F24) (He.glo_ok X G (c.fact 24 rfl)) (F24.bindsN fun _ _ _ _ _ _ us hl => match us, hl with | [_], _ => rfl)
  have D9 : Cal P w K mg base "_law_heights" ["_law_lists_here"] 3 spHgt := calOf F25 (ok_hgt B D7 D8 F25) (He.glo_ok X G (c.fact 25 rfl)) (F25.bindsN fun _ _ _ _ _ _ us hl => match us, hl with | [_], _ => rfl)
  have DA : Cal P w K mg base "_law_is_ladder" ["_law_lists_here", "_law_thing"] 3 spLIs := calOf F26 (ok_lis B hdi D7 D8 F26) (He.glo_ok X G (c.fact 26 rfl)) (F26.bindsN fun _ _ _ _ _ _ us hl => match us, hl with | [_, _], _ => rfl)
  exact ok_law B ⟨D1, D3, D6, PB, PC, D9, DA, D8, MW, MQ⟩ F27
end Wk
open PySem PySem.W PySem.Calls PyProof.Rows
set_option maxHeartbeats 0
theorem PySem.Challenge.cw_wishreels_k33_ladders_made_holds : PySem.Challenge.rw_wishreels_k33_ladders_made.Holds := by
  w_on; o_law
  refine HandSHeadRun.head_any (r := Wk.R) (q := view Wk.R.prog [40]) (H := Wk.hk) (ob := Wk.ob) (M := 9000) (loose := Wk.loose) (d := HandSHeadRun.topDef Wk.R.prog 40) (kwd := []) Wk.ob_eq
    (by kernel_rfl) (fun s => by kernel_rfl) Wk.run (by kernel_rfl) (by kernel_rfl) (by kernel_rfl) (by rfl) (by first | assumption | decide +kernel) (by decide +kernel) ⟨rfl, rfl, rfl, rfl, rfl, by decide +kernel⟩ ?hw ?hc
  case hw => w_witness2
  case hc =>
    refine LamX.walk_ofTsE (l := PySem.Challenge.rw_wishreels_k33_ladders_made) (n := 63) (k := 10) (x := "_law_script") (CX := fun _ => L2.CX0) rfl (by decide) (by kernel_rfl) ⟨rfl, by decide, by decide⟩ ?F (fun _ _ _ _ _ z => z)
    intro w mg fa h Y G hmg0
    obtain ⟨K, kx, c⟩ := Y
    have hmg : mg ("law" : PySem.Str) = some (.ref fa) := by
      have e : (HandSHeadRun.topDef Wk.R.prog 40).name = ("law" : PySem.Str) := by kernel_rfl
      rw [← e]
      exact hmg0
    obtain ⟨fd, hb, hF⟩ := Wk.facts (P := (PySem.Challenge.rw_wishreels_k33_ladders_made).prog) (w := w) kx G hmg c.t.d c.more
    exact ⟨K, kx, Wk.law_at c kx hb hF⟩

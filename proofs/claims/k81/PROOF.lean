import PyProof.Rows.All
import Wide.All
import OpenK.AllK
import Wide.FinOn
import KE.KStateDown
import HandS.ForMost
import HandS.More
import HandS.WordsExc
import HandS.Defaults
import HandS.Deep
import HandS.IsInst
import HandS.Evl
import HandS.Walk
import HandS.TupSets
import HandS.TupAny
import HandS.Conv
import PyProof.P3In
import HandS.SetFor
import HandS.Strs
import KE.GoesMore
import KE.GoesEnum
import HandS.ExcInit
import HandS.ExcField
import HandS.ExcOwn
import PyProof.NeKinds
import PyProof.EqKinds
import PyProof.FactsAll.subtypes_4
import PyProof.FactsAll.dict_1
import HandS.DictComp
import HandS.Comp
import HandS.TryOnly
import HandS.TryMany
import HandS.ExcIs
import HandS.ExcBuiltin
import HandS.Dict
import HandS.WordsDict
import HandS.WideBits
import HandS.Wide
import HandS.Small
import HandS.Codes
import HandS.SortRule
import HandS.ExcValue
import KE.KExcIs
import PyProof.P3Eq
import HandS.OwnEq
import HandS.Head0
import HandS.Head1
import HandS.Head2
import HandS.HeadEnd
import HandS.HeadHook1
import HandS.HeadHook2
import PySem.Challenge.RW_wishreels_k81_table_entries_kept_and_ref
set_option Elab.async false
set_option linter.all false
set_option maxRecDepth 100000
set_option maxHeartbeats 2000000
namespace Wk
open PySem PySem.Spec PyProof.Rows L2 Evl
/-! data that stand in a heap -/
mutual
inductive Dq (G : Hp) : V → PyData → Prop
  | non : Dq G .non .none
  | bl (b : Bool) : Dq G (.bl b) (.bool b)
  | int (i : Int) : Dq G (.int i) (.int i)
  | str (x : Str) : Dq G (.str x) (.str x)
  | lst {a : Addr} {xs : List V} {ds : List PyData} : G a = some (.lst xs) → DqA G xs ds → Dq G (.ref a) (.list ds)
  | tup {a : Addr} {xs : List V} {ds : List PyData} : G a = some (.tup xs) → DqA G xs ds → Dq G (.ref a) (.tuple ds)
  | dic {a : Addr} : G a = some (.dK []) → Dq G (.ref a) (.dict [])
inductive DqA (G : Hp) : List V → List PyData → Prop
  | nil : DqA G [] []
  | cons {v : V} {vs : List V} {d : PyData} {ds : List PyData} : Dq G v d → DqA G vs ds → DqA G (v :: vs) (d :: ds)
end
mutual
theorem Dq.mono {G H : Hp} (e : Ex G H) : ∀ {d : PyData} {v : V}, Dq G v d → Dq H v d
  | .none, _, .non => .non
  | .bool _, _, .bl b => .bl b
  | .int _, _, .int i => .int i
  | .str _, _, .str x => .str x
  | .list _, _, .lst h a => .lst (e _ _ h) (DqA.mono e a)
  | .tuple _, _, .tup h a => .tup (e _ _ h) (DqA.mono e a)
  | .dict _, _, .dic h => .dic (e _ _ h)
theorem DqA.mono {G H : Hp} (e : Ex G H) : ∀ {ds : List PyData} {vs : List V}, DqA G vs ds → DqA H vs ds
  | [], _, .nil => .nil
  | _ :: _, _, .cons h t => .cons (Dq.mono e h) (DqA.mono e t)
end
mutual
theorem Dq.dp {K : PySem.W.Frag} {G : Hp} : ∀ {d : PyData} {v : V}, d.canLay0 = true → Dq G v d → Dp K G v d
  | .none, _, _, .non => .non
  | .bool _, _, _, .bl b => .bl b
  | .int _, _, _, .int i => .int i
  | .str _, _, _, .str x => .str x
  | .list ds, _, c, .lst h a => .lst (sq_of h) (DqA.dp (by simpa [PyData.canLay0] using c) a)
  | .tuple ds, _, c, .tup h a => .tup (st_of h) (DqA.dp (by simpa [PyData.canLay0] using c) a)
  | .dict _, _, c, .dic h => by simp [PyData.canLay0] at c
theorem DqA.dp {K : PySem.W.Frag} {G : Hp} : ∀ {ds : List PyData} {vs : List V}, PyData.canLayAll0 ds = true → DqA G vs ds → DpAll K G vs ds
  | [], _, _, .nil => .nil
  | d :: ds, _, c, .cons h t => by
    have c' : d.canLay0 = true ∧ PyData.canLayAll0 ds = true := by simpa [PyData.canLayAll0] using c
    exact .cons (Dq.dp c'.1 h) (DqA.dp c'.2 t)
end
theorem DqA.length {G : Hp} : ∀ {ds : List PyData} {vs : List V}, DqA G vs ds → vs.length = ds.length
  | [], _, .nil => rfl
  | _ :: _, _, .cons _ t => congrArg Nat.succ t.length
theorem DqA.get {G : Hp} : ∀ {ds : List PyData} {vs : List V} {i : Nat} {v : V}, DqA G vs ds → vs[i]? = some v → ∃ d, ds[i]? = some d ∧ Dq G v d
  | [], _, i, v, .nil, e => by simp at e
  | d :: _, _, 0, v, .cons h t, e => ⟨d, rfl, by simp at e; subst e; exact h⟩
  | _ :: _, _, i + 1, v, .cons h t, e => by
    obtain ⟨d, e1, e2⟩ := t.get (i := i) (by simpa using e)
    exact ⟨d, by simpa using e1, e2⟩
theorem DqA.at {G : Hp} {ds : List PyData} {vs : List V} {i : Nat} {d : PyData} (h : DqA G vs ds) (e : ds[i]? = some d) : ∃ v, vs[i]? = some v ∧ Dq G v d := by
  have hl := h.length
  obtain ⟨hi, _⟩ := List.getElem?_eq_some_iff.mp e
  have hv : vs[i]? = some (vs[i]'(by omega)) := List.getElem?_eq_getElem (by omega)
  obtain ⟨d', e1, e2⟩ := h.get hv
  rw [e] at e1
  cases e1
  exact ⟨_, hv, e2⟩
theorem DqA.append {G : Hp} : ∀ {ds es : List PyData} {vs us : List V}, DqA G vs ds → DqA G us es → DqA G (vs ++ us) (ds ++ es)
  | [], _, _, _, .nil, h => h
  | _ :: _, _, _, _, .cons h t, u => .cons h (t.append u)
theorem DqA.take {G : Hp} : ∀ {ds : List PyData} {vs : List V} (n : Nat), DqA G vs ds → DqA G (vs.take n) (ds.take n)
  | [], _, n, .nil => by simp; exact .nil
  | _ :: _, _, 0, .cons h t => .nil
  | _ :: _, _, n + 1, .cons h t => .cons h (t.take n)
theorem DqA.drop {G : Hp} : ∀ {ds : List PyData} {vs : List V} (n : Nat), DqA G vs ds → DqA G (vs.drop n) (ds.drop n)
  | [], _, n, .nil => by simp; exact .nil
  | _ :: _, _, 0, .cons h t => .cons h t
  | _ :: _, _, n + 1, .cons h t => t.drop n
theorem DqA.ints {G : Hp} : ∀ (ns : List Int), DqA G (ns.map V.int) (ns.map PyData.int)
  | [] => .nil
  | n :: ns => .cons (.int n) (DqA.ints ns)
theorem DqA.int_inv {G : Hp} : ∀ {ns : List Int} {vs : List V}, DqA G vs (ns.map PyData.int) → vs = ns.map V.int
  | [], _, .nil => rfl
  | _ :: _, _, .cons (.int n) t => by
    have := DqA.int_inv t
    subst this
    rfl
/-- the name of a datum's type -/
def tyN : PyData → String
  | .none => "NoneType"
  | .bool _ => "bool"
  | .int _ => "int"
  | .str _ => "str"
  | .list _ => "list"
  | .tuple _ => "tuple"
  | .dict _ => "dict"
theorem Dq.ty {K : PySem.W.Frag} {G : Hp} {d : PyData} {v : V} (h : Dq G v d) : TyX K G v (.type (tyN d)) := by
  cases h with
  | non => exact .base .non
  | bl b => exact .base (.bl b)
  | int i => exact .base (.int i)
  | str x => exact .base (.str x)
  | lst h _ => exact .base (.lst h)
  | tup h _ => exact .base (.tup h)
  | dic h => exact .base (.dK h)
/-- a call's callee: the def that a global name holds -/
structure Cal (P : Program) (w : World) (K : PySem.W.Frag) (mg : Str → Option Value) (base : Heap) (x : Str) (ps : List Str) (k : Nat) (sp : Sp) : Prop where
  ex : ∃ (f : Addr) (fd : FuncData), FnOk P w K mg base CX0 k f fd ps sp ∧ mg x = some (.ref f) ∧ PySem.W.keepIn K (.ref f) = true ∧ Binds K fd ps []
section
variable {X : Cx}
theorem pe_cal {x : Str} {p pos : Pos} {e : Expr} {es : List Expr} {ps : List Str} {k j : Nat} {sp : Sp} {t : TA} (C : Cal X.prog X.w X.K X.mg X.base x ps k sp) (hr : Room j X.A) (hg : Gl X x) (ha : PA X (e :: es) t) (hk : k ≤ j := by decide)
    (hdb : (x == ("__debug__" : Str)) = false := by decide) (he : starEach (e :: es) X.env = (false, eval e X.env) :: starEach es X.env := by rfl) (hpl : (backTo pos (starEach es X.env)).any (·.1) = false := by rfl) :
    PE X (.Call (.Name x p) (e :: es) [] pos) (tCall sp [] E0 t) := by
  obtain ⟨f, fd, F, g, kp, b⟩ := C.ex
  exact pe_call F (hr.mono hk) hg g kp b .nil pass0 ha hdb he hpl
end
section
variable {K : PySem.W.Frag} {σ : L2.St} {H : Hp} {ta tb tc te : TE}
/-- isinstance(x, T), T a built-in type -/
theorem ev_isi {v : V} {d : PyData} {n : String} {b : Bool} (h : Ev ta σ H v) (hd : Dq H v d) (hk : kitB (tyN d) n = some b) : Ev (tCB (rIsi K) (tCons ta (tCons (tC (.ty n)) tNil))) σ H (.bl b) := fun H1 e Q q =>
  h H1 e _ fun H2 e2 => ⟨v, .ty n, .type (tyN d), .type n, b, rfl, .ty n, (hd.mono (e.trans e2)).ty, kit_ty hk, q H2 e2⟩
/-- a <= b <= c of ints -/
theorem ev_chain {i j k : Int} {r r' : R2} {b1 b2 : Bool} (ha : Ev ta σ H (.int i)) (hb : Ev tb σ H (.int j)) (hc : Ev tc σ H (.int k)) (h1 : RV r (.int i) (.int j) H (.bl b1)) (h2 : RV r' (.int j) (.int k) H (.bl b2)) :
    Ev (tChain r r' ta tb tc) σ H (.bl (b1 && b2)) := fun H1 e Q q =>
  ha H1 e _ fun H2 e2 => hb H2 (e.trans e2) _ fun H3 e3 => h1 H3 ((e.trans e2).trans e3) _ fun H4 e4 => ⟨b1, rfl, by
    cases b1 with
    | false => exact q H4 ((e2.trans e3).trans e4)
    | true => exact hc H4 (((e.trans e2).trans e3).trans e4) _ fun H5 e5 => h2 H5 ((((e.trans e2).trans e3).trans e4).trans e5) _ fun H6 e6 => q H6 ((((e2.trans e3).trans e4).trans e5).trans e6)⟩
end
end Wk

set_option Elab.async false
set_option linter.all false
set_option maxRecDepth 100000
set_option maxHeartbeats 4000000
namespace Wk
open PySem PySem.Spec PyProof.Rows L2 Evl
/-! how many are unlike -/
theorem nd_le {α : Type} [DecidableEq α] : ∀ (l D : List α), l.Nodup → (∀ x ∈ l, x ∈ D) → l.length ≤ D.length
  | [], _, _, _ => Nat.zero_le _
  | x :: l, D, hn, hs => by
    have hn' := List.nodup_cons.mp hn
    have hx : x ∈ D := hs x List.mem_cons_self
    have ih := nd_le l (D.erase x) hn'.2 fun y hy => (List.mem_erase_of_ne (fun (e : y = x) => hn'.1 (by rw [← e]; exact hy))).2 (hs y (List.mem_cons_of_mem _ hy))
    have e := List.length_erase_of_mem hx
    have hp : 0 < D.length := List.length_pos_of_mem hx
    simp only [List.length_cons]
    omega
theorem dup_less {α : Type} [DecidableEq α] : ∀ (D : List α), ¬ D.Nodup → ∃ D' : List α, (∀ x ∈ D, x ∈ D') ∧ D'.length < D.length
  | [], h => absurd List.nodup_nil h
  | x :: D, h => by
    by_cases hx : x ∈ D
    · exact ⟨D, fun y hy => (List.mem_cons.mp hy).elim (fun e => by rw [e]; exact hx) id, Nat.lt_succ_self _⟩
    · have hD : ¬ D.Nodup := fun z => h (List.nodup_cons.mpr ⟨hx, z⟩)
      obtain ⟨D', h1, h2⟩ := dup_less D hD
      exact ⟨x :: D', fun y hy => (List.mem_cons.mp hy).elim (fun e => by rw [e]; exact List.mem_cons_self) (fun e => List.mem_cons_of_mem _ (h1 y e)), Nat.succ_lt_succ h2⟩
theorem nd_iff {α : Type} [DecidableEq α] {l D : List α} (hn : l.Nodup) (h : ∀ x, x ∈ l ↔ x ∈ D) : l.length = D.length ↔ D.Nodup := by
  constructor
  · intro e
    apply Classical.byContradiction
    intro hD
    obtain ⟨D', h1, h2⟩ := dup_less D hD
    have := nd_le l D' hn fun x hx => h1 x ((h x).mp hx)
    omega
  · intro hD
    have h1 := nd_le l D hn fun x hx => (h x).mp hx
    have h2 := nd_le D l hD fun x hx => (h x).mpr hx
    omega
section
variable {X : Cx}
/-- len(set(t)), t a tuple of ints -/
def tLenSU (K : PySem.W.Frag) (ta : TE) : TE := fun σ H Q => ta σ H fun x H1 => ∃ (l : Addr) (ns : List Int), x = V.ref l ∧ SqT K H1 l (ns.map V.int) ∧ ns.length < 64 ∧ ∀ n : Nat, (n = ns.length ↔ ns.Nodup) → Q (.int n) H1
theorem pe_lenSU {a : Expr} {ta : TE} {p p2 q pos : Pos} (hc : X.calm = true) (hg : Gl X "len") (hm : X.mg "len" = none) (hg2 : Gl X "set") (hm2 : X.mg "set" = none) (ha : PE X a ta)
    (na : starEach [a] X.env = (false, eval a X.env) :: starEach [] X.env := by rfl) : PE X (.Call (.Name "len" p) [.Call (.Name "set" p2) [a] [] q] [] pos) (tLenSU X.K ta) := by
  refine ⟨fun pins s σ H Q I h => ?_⟩
  refine Call_ (ld_blt I hg hm PySem.boot_len ?_)
  refine PyProof.Rows.callWith_builtin1 (PyProof.Rows.args_cons ?_ rfl) rfl rfl
  refine Call_ (ld_blt I hg2 hm2 PyProof.Rows.boot_set ?_)
  refine PyProof.Rows.callWith_type1 (PyProof.Rows.args_cons (thn (ha.run pins s σ H _ I h) fun v s1 hh => PyProof.Rows.args_nil ?_) na) na rfl
  obtain ⟨x, H1, I1, r1, l, ns, rfl, hq, hlt, q1⟩ := hh
  cases r1
  obtain ⟨its, r, pl, hz⟩ := I1.tuple hq
  refine call_set_tupI (w := X.w) ns (I1.ok.hd hc) pl (by simpa using r.ints) (by unfold scanBound; omega) fun h' tk c hS hc2 hk => ?_
  refine PyProof.Rows.args_nil ?_
  obtain ⟨o, es, ep, t, ho, hex, hd, _, hnd, hiff, _, hf, hn, _⟩ := hS
  have I2 : Inv X pins σ H1 { s1 with heap := h', toks := tk } := I1.kept fun b o e => hk b o e
  refine call_len_set ho hex hd hf (by rw [hn] <;> omega) ⟨.int es.size, H1, I2.tok _, ⟨_, rfl⟩, q1 es.size ?_⟩
  have hl : (es.toList.map keyOf).length = es.size := by simp
  rw [← hl]
  exact nd_iff hnd fun k => by
    have := hiff k
    simp only [decide_eq_true_eq] at this
    exact this.symm
end
/-- the set that set() lays -/
abbrev sO (w : World) : Obj := { cls := .type "set", dict := none, data := .set #[] 0 (.fresh 0 0 (!w.params.followText "set-order")) }
section
variable {P : Program} {w : World} {A : Around} {E : Value → Shared → Prop} {s : Shared}
/-- set(t), t a tuple of tuples of ints -/
theorem set_of_tup2 {l : Addr} {its : Array Value} (ks : List (Addr × List Int)) {Q : Value → Shared → Prop} (nh : A.handled = none) (tl : s.heap.IsTuple l its) (eq : its.toList = ks.map fun p => Value.ref p.1)
    (ki : ∀ p ∈ ks, IsT P w s.heap p.2 p.1) (few : ks.length < 64) (un : A.units + 3 < cLine)
    (fin : ∀ (h' : Heap) (tk : Nat) L es ep t, SetTR P w h' s.heap.objs.size L es ep t → Got ks ks.length L → (∀ b o, s.heap.get? b = some o → h'.get? b = some o) → Q (.ref s.heap.objs.size) { s with heap := h', toks := tk }) :
    wpAny (model P w) A (call (.type "set") [.ref l]) Q E s := by
  have size : its.size = ks.length := by have q := congrArg List.length eq; simpa using q
  obtain ⟨c, rest, mro⟩ := F.called_set.mro
  have made := F.called_set.made; have sub := F.called_set.sub
  refine wpAny_call (codeAny_of_tree (show wpAny _ _ (callAny (.type "set") _) _ _ _ from ?_))
  refine wpAny_pure ⟨Code.quiet_builtin _ (by decide +kernel), codeAny_builtin F.entry_type_call (by
    rw [Around.under_plain (weight_type_call_type "set" [.ref l] []) rfl]
    have nt := F.called_set.notType; have cc := F.called_set.canCreate; have tc := F.typeCall_set_1 (.ref l)
    repeat (any_goals (first | assumption | wp_step))
    refine codeAny_mono (code_set_led1 (.ref l) (E := E) (Q₁ := fun ob s1 => ob = .ref s.heap.objs.size ∧ s1 = { s with heap := s.heap.push (sO w) }) ⟨rfl, rfl⟩) fun r s1 hr => ?_
    cases r with
    | error e => exact hr
    | ok fl =>
      cases fl with
      | ret ob =>
        obtain ⟨rfl, rfl⟩ := hr
        have hS : (s.heap.push (sO w)).get? s.heap.objs.size = some (sO w) := Heap.get?_push_size _ rfl
        have hT : Shared.TypeIs { s with heap := s.heap.push (sO w) } (.ref s.heap.objs.size) "set" := ⟨_, hS, rfl⟩
        have li := F.called_set.init.lookup; have bi := F.called_set.init.bind (.ref s.heap.objs.size)
        repeat (any_goals (first | assumption | wp_step))
        refine codeAny_mono (codeAny_call_builtin (R := wants (fun r s2 => r = .none ∧ ∃ h' tk L es ep t, s2 = { s with heap := h', toks := tk } ∧ SetTR P w h' s.heap.objs.size L es ep t ∧ Got ks ks.length L ∧ (∀ b o, s.heap.get? b = some o → h'.get? b = some o)) E)
          F.called_set.init.plain F.entry_set_init (check_set_init_1 hT ?_)) fun r2 s2 hr2 => ?_
        · obtain ⟨⟨oc, od, dt, sl⟩, ol, cl, n, dl⟩ := tl
          simp only at cl dl; subst cl; subst dl
          have ol1 : (s.heap.push (sO w)).get? l = some { cls := .type "tuple", dict := od, data := .seq its n, slots := sl } := Heap.get?_push_of_some _ ol
          have b1 := F.sub_tuple_set; have b2 := F.sub_tuple_frozenset
          have b3 : (Value.type "tuple" == Value.type "dict") = false := by decide
          have tl1 : (s.heap.push (sO w)).IsTuple l its := ⟨_, ol1, rfl, n, rfl⟩
          unfold Builtin.«set.__init__» noKeywords Builtin.Frozenset.updateFrom
          generalize hPI : pyIter = PI
          wp_walk
          subst hPI
          refine wpAny_pyIter_tuple tl1 (wpAny_bind (wpAny_runValue ?_))
          have lt : l < s.heap.objs.size := Heap.lt_size ol
          have nh3 : A.in1.in1.in1.handled = none := by simp [nh]
          have ne1 : l ≠ (s.heap.push (sO w)).objs.size := by rw [Heap.size_push]; exact Nat.ne_of_lt (Nat.lt_succ_of_lt lt)
          have nin : s.heap.objs.size ∉ [(s.heap.push (sO w)).objs.size, l] := by
            rw [Heap.size_push]
            intro z
            rcases List.mem_cons.mp z with z | z
            · exact absurd z (Nat.ne_of_lt (Nat.lt_succ_self _))
            · exact absurd (List.mem_singleton.mp z) (Nat.ne_of_gt lt)
          have val : ∀ (i : Nat) (v : Value), its[i]? = some v → ∃ p, ks[i]? = some p ∧ v = .ref p.1 := fun i v hv => by
            have q : its.toList[i]? = some v := (Array.getElem?_toList ..).trans hv
            rw [eq, List.getElem?_map] at q
            cases hq : ks[i]? with
            | none => rw [hq] at q; cases q
            | some p => rw [hq] at q; exact ⟨p, rfl, (Option.some.inj q).symm⟩
          have out : ∀ b, s.heap.objs.size ≤ b → s.heap.get? b = none := fun b hb => by
            cases q : s.heap.get? b with
            | none => rfl
            | some o => exact absurd (Nat.lt_of_lt_of_le (Heap.lt_size q) hb) (Nat.lt_irrefl _)
          refine set_update_tups ((Walks.tuple nh3 _ l ne1 its).toS) s.heap.objs.size nin ks size few val s.heap ki (out _ (Nat.le_refl _)) (fun b hb => out b (by rw [List.mem_singleton.mp hb, Heap.size_push]; exact Nat.le_succ _)) un (its.size - 0) 0 _ (by omega) (Nat.zero_le _)
            ⟨⟨_, Heap.get?_push_size _ rfl, rfl, rfl⟩, (tl1.push _)⟩ (fun b o e => Heap.get?_push_of_some _ (Heap.get?_push_of_some _ e)) ⟨[], #[], 0, _, setTR_fresh (Heap.get?_push_of_some _ hS), Got.zero ks⟩ ?_
          intro s' L es ep t hm hS' g' kp
          obtain ⟨h', g2, d', tk', os'⟩ := s'
          have eg : g2 = s.gens := hm.gens
          have ed : d' = s.drawn := hm.drawn
          have eo : os' = s.os := hm.os
          subst eg; subst ed; subst eo
          show wpAny _ _ _ _ _ _
          refine wpAny_pure (show wpAny _ _ (ret Value.none) _ _ _ from ?_)
          rw [size] at g'
          exact wpAny_pure ⟨rfl, h', tk', L, es, ep, t, rfl, hS', g', kp⟩
        · cases r2 with
          | error e => exact hr2
          | ok fl2 =>
            cases fl2 with
            | ret r =>
              obtain ⟨rfl, h', tk, L, es, ep, t, rfl, hS', g', k'⟩ := hr2
              repeat (any_goals (first | assumption | wp_step))
              exact fin _ _ _ _ _ _ hS' g' k'
            | _ => exact hr2.elim
      | _ => exact hr.elim)⟩
end
section
variable {X : Cx}
/-- len(set(t)), t a tuple of tuples of ints -/
def tLenSUU (K : PySem.W.Frag) (ta : TE) : TE := fun σ H Q => ta σ H fun x H1 => ∃ (l : Addr) (ks : List (Addr × List Int)), x = V.ref l ∧ SqT K H1 l (ks.map fun p => V.ref p.1) ∧ (∀ p ∈ ks, SqT K H1 p.1 (p.2.map V.int)) ∧ ks.length < 64 ∧
  ∀ n : Nat, (n = ks.length ↔ (ks.map (·.2)).Nodup) → Q (.int n) H1
theorem pe_lenSUU {a : Expr} {ta : TE} {p p2 q pos : Pos} (hc : X.calm = true) (hu : X.A.units + 64 < cLine) (hg : Gl X "len") (hm : X.mg "len" = none) (hg2 : Gl X "set") (hm2 : X.mg "set" = none) (ha : PE X a ta)
    (na : starEach [a] X.env = (false, eval a X.env) :: starEach [] X.env := by rfl) : PE X (.Call (.Name "len" p) [.Call (.Name "set" p2) [a] [] q] [] pos) (tLenSUU X.K ta) := by
  refine ⟨fun pins s σ H Q I h => Call_ (ld_blt I hg hm PySem.boot_len (PyProof.Rows.callWith_builtin1 (PyProof.Rows.args_cons (Call_ (ld_blt I hg2 hm2 PyProof.Rows.boot_set ?_)) rfl) rfl rfl))⟩
  refine PyProof.Rows.callWith_type1 (PyProof.Rows.args_cons (thn (ha.run pins s σ H _ I h) fun v s1 hh => PyProof.Rows.args_nil ?_) na) na rfl
  obtain ⟨x, H1, I1, r1, l, ks, rfl, hq, hk, few, q1⟩ := hh
  cases r1
  obtain ⟨its, r, pl, hz⟩ := I1.tuple hq
  refine set_of_tup2 (P := X.prog) (w := X.w) ks (I1.ok.hd hc) pl (by simpa using refs_of_vals r) (fun p hp => I1.isT (hk p hp)) few (by omega) fun h' tk L es ep t R g k => PyProof.Rows.args_nil ?_
  have I2 : Inv X pins σ H1 { s1 with heap := h', toks := tk } := I1.kept fun b o e => k b o e
  have hes : es.size = L.length := R.size (s := { s1 with heap := h', toks := tk })
  have hf := R.fits (s := { s1 with heap := h', toks := tk })
  obtain ⟨o, ho, hex, hd⟩ := R.ob
  refine call_len_set (s := { s1 with heap := h', toks := tk }) ho hex hd hf (by have := R.few; omega) ⟨.int es.size, H1, I2.tok _, ⟨_, rfl⟩, q1 es.size ?_⟩
  have e1 : (L.map (·.2)).length = es.size := by simp [hes]
  have e2 : (ks.map (·.2)).length = ks.length := by simp
  rw [← e1, ← e2]
  refine nd_iff R.nd fun k => ⟨fun z => ?_, fun z => ?_⟩
  · obtain ⟨p, hp, rfl⟩ := List.mem_map.mp z
    exact List.mem_map.mpr ⟨p, List.mem_of_mem_take (g.sub p hp), rfl⟩
  · obtain ⟨p, hp, rfl⟩ := List.mem_map.mp z
    exact g.all p (by rw [List.take_length]; exact hp)
end
end Wk

set_option Elab.async false
set_option linter.all false
set_option maxRecDepth 100000
set_option maxHeartbeats 4000000
namespace Wk
open PySem PySem.Spec PyProof.Rows L2 Evl
/-- the walk of a tuple's iterator under an enumerate -/
abbrev itO (l : Addr) : Obj := { cls := .type "tuple_iterator", data := .fields #[.ref l, .int 0 0] }
abbrev enO (it : Addr) : Obj := { cls := .type "enumerate", data := .fields #[.none, .bool false, .ref it, rawInt 0, .none, .none] }
theorem enumNewT (l : Addr) (its : Array Value) (n : Nat) (od : Option Addr) (sl : Array (Option Value)) :
    Meets (Builtin.«enumerate.__new__» ⟨[.type "enumerate", .ref l], []⟩) (fun _ R s => s.heap.get? l = some { cls := .type "tuple", dict := od, data := .seq its n, slots := sl } ∧
      R (.ok (.ret (.ref (s.heap.push (itO l)).objs.size))) { s with heap := (s.heap.push (itO l)).push (enO s.heap.objs.size) }) :=
  .of_wp fun prog w A R s h => by
    obtain ⟨hp, g, d, tk, os⟩ := s; obtain ⟨hl, h⟩ := h
    have su := sub_enumerate
    have tl : Heap.IsTuple (Shared.heap ⟨hp, g, d, tk, os⟩) l its := ⟨_, hl, rfl, n, rfl⟩
    wp_walk using wpAny_loadPart' hl
    refine wpAny_stack_any fun st => wpAny_pure ?_
    split
    · rename_i c _ _ _ _ _
      cases (c == Value.type "enumerate") <;> (wp_walk using wpAny_loadPart' hl, wpAny_pyIter_tuple tl; exact ⟨_, rfl, h⟩)
    · wp_walk using wpAny_loadPart' hl, wpAny_pyIter_tuple tl
      exact ⟨_, rfl, h⟩
section
variable {prog : Program} {w : World} {A : Around} {E : Value → Shared → Prop} {s : Shared}
theorem enumT_call {l : Addr} {its : Array Value} {Q : Value → Shared → Prop} (tl : s.heap.IsTuple l its)
    (h : ∀ h', IsEnum h' (s.heap.objs.size + 1) s.heap.objs.size 0 .none → h'.IsTupleIter s.heap.objs.size l 0 → h'.objs.size = s.heap.objs.size + 2 → (∀ b o, s.heap.get? b = some o → h'.get? b = some o) → Q (.ref (s.heap.objs.size + 1)) { s with heap := h' }) :
    wpAny (model prog w) A (call (.type "enumerate") [.ref l]) Q E s := by
  obtain ⟨⟨c, od, dt, sl⟩, hl, hc, n, hd⟩ := tl
  replace hc : c = .type "tuple" := hc
  replace hd : dt = .seq its n := hd
  subst hc hd
  refine callType_new F.called_enumerate (by decide) (F.typeCall_enumerate_1 _) (F.newCall_enumerate_1 _) (fun ob => F.args_object_init_2 ob _) F.entry_enumerate_new (enumNewT l its n od sl) ⟨hl, ?_⟩
  have hz : (s.heap.push (itO l)).objs.size = s.heap.objs.size + 1 := Heap.size_push ..
  show _ ∧ _
  rw [hz]
  have he : IsEnum ((s.heap.push (itO l)).push (enO s.heap.objs.size)) (s.heap.objs.size + 1) s.heap.objs.size 0 .none := by
    have q := Heap.get?_push_size (s.heap.push (itO l)) (o := enO s.heap.objs.size) rfl
    rw [hz] at q; exact q
  exact ⟨⟨_, he, rfl⟩, h _ he ⟨_, Heap.get?_push_of_some _ (Heap.get?_push_size _ rfl), rfl, rfl⟩ (by rw [Heap.size_push, hz]) fun b o x => Heap.get?_push_of_some _ (Heap.get?_push_of_some _ x)⟩
end
/-- the tuple at a, each item in a new pair with its place -/
def IteT (K : PySem.W.Frag) (a : Addr) : It :=
  ⟨fun i H => ∃ (xs : List V) (x : V), SqT K H a xs ∧ xs[i]? = some x, fun i H v H' => ∃ T x, v = .ref T ∧ H T = none ∧ H' = upd H T (.tup [.int (i : Nat), x]) ∧ ∀ xs, SqT K H a xs → xs[i]? = some x, fun i H => ∃ xs : List V, SqT K H a xs ∧ xs.length = i⟩
theorem turn_enumT {P : Program} {w : World} {K : PySem.W.Frag} {elts : List Expr} {kk : Nat} {tpos : Pos} (a e it : Addr) :
    Turn P w K (.Tuple elts kk tpos) (IteT K a) [e, it] e (fun i h => (∃ old, IsEnum h e it ((i : Nat) : Int) old) ∧ h.IsTupleIter it a i ∧ e ≠ it) where
  mem := List.mem_cons_self
  obj := fun i h st b hb => by
    obtain ⟨⟨old, he⟩, ⟨o, ho, hc, hd⟩, _⟩ := st
    rcases List.mem_cons.mp hb with z | z
    · rw [z]; exact ⟨_, he, fun v q => nomatch q⟩
    · rw [List.mem_singleton.mp z]; exact ⟨o, ho, fun v q => by rw [hd] at q; cases q⟩
  keep := fun i h h' st k => by
    obtain ⟨⟨old, he⟩, ⟨o, ho, r⟩, hne⟩ := st
    exact ⟨⟨old, k e (by simp) _ he⟩, ⟨o, k it (by simp) o ho, r⟩, hne⟩
  item := by
    intro X hP hw hK hc i pins s σ H E I hf st hg
    subst hP hw hK
    obtain ⟨⟨old, he⟩, hit, hne⟩ := st
    obtain ⟨xs, x, hq, hx⟩ := hg
    obtain ⟨its, rv, p, hz⟩ := I.tuple hq
    obtain ⟨u, hu, ru⟩ := rv.get hx
    have el : e < s.heap.objs.size := Heap.lt_size he
    have il : it < s.heap.objs.size := by obtain ⟨_, q, _⟩ := hit; exact Heap.lt_size q
    have nai : a ≠ it := fun z => by
      obtain ⟨o, ho, oc, _⟩ := p
      obtain ⟨o2, ho2, oc2, _⟩ := hit
      rw [z, ho2] at ho
      cases ho
      rw [oc2] at oc
      injection oc with q
      exact absurd q (by decide)
    have nae : e ≠ a := fun z => by
      obtain ⟨o, ho, oc, _⟩ := p
      have he2 := he
      unfold IsEnum at he2
      rw [z, ho] at he2
      cases he2
      injection oc with q
      exact absurd q (by decide)
    have hi : i < its.toArray.size := by
      have q := (List.getElem?_eq_some_iff.mp hu).1
      simpa using q
    refine wpAny_pyNext_enum_itemD (Draws.tuple (by simpa using I.ok.hd hc) it a nai its.toArray) he ⟨hit, p⟩ hi hne (by simp [hne, nae]) fun y h' tk hy ho hst hT hsz hk => ?_
    have ey : y = u := by
      have q : its.toArray[i]? = some y := hy
      rw [List.getElem?_toArray, hu] at q
      exact (Option.some.inj q).symm
    subst ey
    refine ⟨_, rfl, wpAny_letOwnedTupleGo_enum (s := { s with heap := h', toks := tk + 1 }) ho fun h2 he' sb => ?_⟩
    have hT2 : h2.get? s.heap.objs.size = some { cls := .type "tuple", data := .seq #[.int i tk, y] } := (sb.2 _ (Nat.ne_of_gt el)).trans hT
    have nw : ObjOk X.prog X.w (upd H s.heap.objs.size (.tup [.int (i : Nat), x])) h2 s.heap.objs.size (.tup [.int (i : Nat), x]) := ⟨by show 2 ≤ sizeLine; decide, [.int i tk, y], .cons ⟨_, rfl⟩ (.cons ru .nil), ⟨_, hT2, rfl, _, rfl⟩⟩
    have I1 : Inv X pins σ (upd H s.heap.objs.size (.tup [.int (i : Nat), x])) { s with heap := h2, toks := tk + 1 } := I.turnedNew (ch := [e, it]) (fun b ob hb q => by
        have b1 : b ≠ e := fun z => hb (by simp [z])
        have b2 : b ≠ it := fun z => hb (by simp [z])
        exact (sb.2 b b1).trans (hk b ob b1 b2 q)) hf (Nat.le_refl _) nw
    refine ⟨.ref s.heap.objs.size, _, I1, rfl, ⟨_, x, rfl, I.hok.fresh (Nat.le_refl _), rfl, fun ys hy => by rw [I.tuple_inj hy hq]; exact hx⟩, ⟨⟨y, ?_⟩, ?_, hne⟩, fun b hb => ?_⟩
    · rw [show ((i + 1 : Nat) : Int) = (i : Int) + 1 by omega]; exact he'
    · obtain ⟨o, ho2, r2⟩ := hst.1
      exact ⟨o, (sb.2 it (Ne.symm hne)).trans ho2, r2⟩
    · have hb2 : b < s.heap.objs.size := by
        rcases List.mem_cons.mp hb with z | z
        · rw [z]; exact el
        · rw [List.mem_singleton.mp z]; exact il
      rw [upd_ne (Nat.ne_of_lt hb2)]
      exact (hf b hb).1
  done := by
    intro X hP hw hK hc i pins s σ H E I hf st hg
    subst hP hw hK
    obtain ⟨⟨old, he⟩, hit, hne⟩ := st
    obtain ⟨xs, hq, hx⟩ := hg
    obtain ⟨its, rv, p, hz⟩ := I.tuple hq
    obtain ⟨f0, f1, f2, f3, f4, f5⟩ := hf it (by simp)
    have hl := rv.length
    have ei : i = its.toArray.size := by simp; omega
    have nai : a ≠ it := fun z => by
      obtain ⟨o, ho, oc, _⟩ := p
      obtain ⟨o2, ho2, oc2, _⟩ := hit
      rw [z, ho2] at ho
      cases ho
      rw [oc2] at oc
      injection oc with q
      exact absurd q (by decide)
    subst ei
    exact wpAny_pyNext_enum_endD (Draws.tuple (by simpa using I.ok.hd hc) it a nai its.toArray) he ⟨hit, p⟩ fun h' eb => ⟨rfl, I.turned (t' := s.toks) (fun b o hb q => eb b o hb q) f0 f1 f3 f4 f5⟩
  self := fun A i s Q E st h => let ⟨⟨_, he⟩, _⟩ := st; wpAny_pyIter_enum he h

def iEnumT (K : PySem.W.Frag) (ta : TA) : TI := fun σ H R => ta σ H fun vs H1 => ∃ a xs, vs = [.ref a] ∧ SqT K H1 a xs ∧ R (IteT K a) H1
/-- for i, x in enumerate(t), t a tuple -/
theorem pi_enumT {X : Cx} {e : Expr} {ta : TA} {p pos tpos : Pos} {elts : List Expr} {kk : Nat} (hg : Gl X "enumerate") (hm : X.mg "enumerate" = none) (ha : PA X [e] ta) (hs : starEach [e] X.env = [(false, eval e X.env)] := by rfl) :
    PI X (.Tuple elts kk tpos) (.Call (.Name "enumerate" p) [e] [] pos) (iEnumT X.K ta) := by
  refine ⟨fun pins s σ H R I h => Call_ (ld_blt I hg hm boot_enumerate (PyProof.Rows.callWith_type1 (thn (ha.run pos pins s σ H _ I h) fun us s1 hh => ?_) hs rfl))⟩
  obtain ⟨vs, H1, I1, r1, a, xs, rfl, hq, q⟩ := hh
  cases r1 with
  | cons r rr =>
    cases rr
    cases r
    obtain ⟨its, rv, pt, hz⟩ := I1.tuple hq
    refine enumT_call pt fun h' he hit hsz hk => wpAny_pyIter_enum he ?_
    refine ⟨s1.heap.objs.size + 1, [s1.heap.objs.size + 1, s1.heap.objs.size], _, _, H1, rfl, I1.kept (t' := s1.toks) hk, turn_enumT a (s1.heap.objs.size + 1) s1.heap.objs.size, ⟨⟨.none, he⟩, hit, Nat.succ_ne_self _⟩, fun b hb => ?_, q⟩
    have hle : s1.heap.objs.size ≤ b := by
      rcases List.mem_cons.mp hb with z | z
      · rw [z]; exact Nat.le_add_right _ _
      · rw [List.mem_singleton.mp z]; exact Nat.le_refl _
    exact I1.fpOk hle (I1.hok.fresh hle)
theorem walk_enumT {K : PySem.W.Frag} {a : Addr} {xs : List V} : Walk (IteT K a) xs.length (fun H => SqT K H a xs) (YPair (fun i => some (.int (i : Nat))) (fun i => xs[i]?)) := by
  refine ⟨fun i _ hi q => ⟨xs, xs[i], q, by simp [hi]⟩, fun _ q => ⟨xs, q, rfl⟩, fun i H v H' _ q y => ?_⟩
  obtain ⟨T, x, h1, h2, h3, h4⟩ := y
  exact ⟨T, .int (i : Nat), x, h1, h2, h3, rfl, h4 xs q⟩
section
variable {K : PySem.W.Frag} {σ : L2.St} {H : Hp} {t : TT} {te : TE}
/-- [e for x in t], t a tuple -/
theorem el_lcT {a : Addr} {xs : List V} {tl : TE} {j : Nat} {vs : List Nat} (f : Nat → Bool) (v : Nat → V) (h : Ev tl σ H (.ref a)) (hx : SqT K H a xs) (hz : xs.length ≤ 40000) (hw : ∀ x, wipe ((wipe σ vs).set j (some x)) vs = wipe σ vs)
    (ht : ∀ (i : Nat) (x : V) H1, Ex H H1 → xs[i]? = some x → EvT t ((wipe σ vs).set j (some x)) H1 (f i)) (he : ∀ (i : Nat) (x : V) H1, Ex H H1 → xs[i]? = some x → f i = true → Ev te ((wipe σ vs).set j (some x)) H1 (v i)) :
    EvL (tLc (iTup K tl) (gName j) t te vs) σ H (given xs.length f v) := fun H0 e Q q => h H0 e _ fun H1 e1 => ⟨a, rfl, ⟨xs, ex_t (e.trans e1) hx⟩, fun Dl hD =>
  lc_it (walk_tup (K := K) (a := a) (xs := xs)) (Cw H1 f v Dl) ⟨hD, Ex.new hD, upd_same⟩ (fun i H' _ p => ex_t ((e.trans e1).trans p.2.1) hx)
    (fun i x H' H2 hi p y => by
      obtain ⟨rfl, hxi⟩ := y
      exact ⟨hw x, cw_turn p (by omega) (ht i x H1 (e.trans e1) hxi) (fun hf => he i x H1 (e.trans e1) hxi hf)⟩)
    (fun H' p => q Dl H' (fresh_back e1 p.1) (e1.trans p.2.1) p.2.2)⟩
theorem given_all (n : Nat) (v : Nat → V) : given n (fun _ => true) v = (List.range n).map v := by
  unfold given
  rw [List.filter_eq_self.mpr (fun _ _ => rfl)]
theorem et_yes : EvT tYes σ H true := fun H1 _ _ q => q H1 (Ex.refl H1)
/-- all([..]) of flags -/
theorem ev_allL {bs : List Bool} {ta : TE} (h : EvL ta σ H (bs.map V.bl)) : Ev (tCB (rAll K) (tCons ta tNil)) σ H (.bl (bs.all id)) := fun H1 e Q q =>
  h H1 e _ fun p H2 _ e2 hp => ⟨p, bs, rfl, sq_of hp, q H2 e2⟩
/-- all([test(x) for x in t]) -/
theorem ev_allT {a : Addr} {xs : List V} {tl : TE} {j : Nat} {vs : List Nat} (g : Nat → Bool) (h : Ev tl σ H (.ref a)) (hx : SqT K H a xs) (hz : xs.length ≤ 40000) (hw : ∀ x, wipe ((wipe σ vs).set j (some x)) vs = wipe σ vs)
    (he : ∀ (i : Nat) (x : V) H1, Ex H H1 → xs[i]? = some x → Ev te ((wipe σ vs).set j (some x)) H1 (.bl (g i))) :
    Ev (tCB (rAll K) (tCons (tLc (iTup K tl) (gName j) tYes te vs) tNil)) σ H (.bl (((List.range xs.length).map g).all id)) :=
  ev_allL (by
    have q := el_lcT (K := K) (te := te) (fun _ => true) (fun i => .bl (g i)) h hx hz hw (fun _ _ _ _ _ => et_yes) fun i x H1 e hxi _ => he i x H1 e hxi
    rw [given_all] at q
    rw [List.map_map]
    exact q)
end
section
variable {K : PySem.W.Frag} {σ : L2.St} {H : Hp} {ta tb te : TE}
theorem ev_lenT {p : Addr} {xs : List V} (ha : Ev ta σ H (.ref p)) (h : SqT K H p xs) : Ev (tCB (rLenS K) (tCons ta tNil)) σ H (.int (xs.length : Int)) := fun H1 e Q q =>
  ha H1 e _ fun H2 e2 => ⟨p, xs, rfl, Or.inr (ex_t (e.trans e2) h), q H2 e2⟩
theorem all_get {α : Type} (ds : List α) (p : α → Bool) : ((List.range ds.length).map (fun i => ((ds[i]?).map p).getD false)).all id = ds.all p := by
  have e : (List.range ds.length).map (fun i => ((ds[i]?).map p).getD false) = ds.map p := by
    apply List.ext_getElem
    · simp
    · intro i h1 h2
      have hi : i < ds.length := by simpa using h1
      simp [hi]
  rw [e, List.all_map]
  rfl
end
section
variable {K : PySem.W.Frag} {σ : L2.St} {H : Hp} {g : TG} {tu tz : TS} {D : Ends}
/-- for i, x in enumerate(t) -/
theorem s_forEn {a : Addr} {xs : List V} {tl : TE} (h : Ev tl σ H (.ref a)) (hx : SqT K H a xs) (Pv : Nat → L2.St → Hp → Prop) (h0 : ∀ H1, Ex H H1 → Pv 0 σ H1) (hl : ∀ i σ' H', i ≤ xs.length → Pv i σ' H' → SqT K H' a xs)
    (hs : ∀ i y T σ' H', xs[i]? = some y → Pv i σ' H' → H' T = none → g (.ref T) σ' (upd H' T (.tup [.int (i : Nat), y])) fun σ2 H2 => tu { D with nx := Pv (i + 1), ct := Pv (i + 1), bk := D.nx } σ2 H2) (hd : ∀ σ' H', Pv xs.length σ' H' → D.nx σ' H') : tFor (iEnumT K (tCons tl tNil)) g tu D σ H :=
  h H (Ex.refl H) _ fun H1 e => ⟨a, xs, rfl, ex_t e hx, for_it (walk_enumT (K := K) (a := a) (xs := xs)) Pv (h0 H1 e) hl (fun i x σ' H2 H3 hi p y => by
    obtain ⟨T, u, y, rfl, hT, rfl, hu, hy⟩ := y
    cases hu
    exact hs i y T σ' H2 hy p hT) hd⟩
theorem q_forEn {a : Addr} {xs : List V} {tl : TE} (h : Ev tl σ H (.ref a)) (hx : SqT K H a xs) (Pv : Nat → L2.St → Hp → Prop) (h0 : ∀ H1, Ex H H1 → Pv 0 σ H1) (hl : ∀ i σ' H', i ≤ xs.length → Pv i σ' H' → SqT K H' a xs)
    (hs : ∀ i y T σ' H', xs[i]? = some y → Pv i σ' H' → H' T = none → g (.ref T) σ' (upd H' T (.tup [.int (i : Nat), y])) fun σ2 H2 => tu { D with nx := Pv (i + 1), ct := Pv (i + 1), bk := tz D } σ2 H2) (hd : ∀ σ' H', Pv xs.length σ' H' → tz D σ' H') : tSeq (tFor (iEnumT K (tCons tl tNil)) g tu) tz D σ H :=
  s_forEn (D := { D with nx := tz D }) h hx Pv h0 hl hs hd
end
end Wk

set_option Elab.async false
set_option linter.all false
set_option maxRecDepth 100000
set_option maxHeartbeats 2000000
namespace Wk
open PySem PySem.Spec PyProof.Rows L2 Evl
def top (i : Nat) : Stmt := PySem.Challenge.pw_wishreels_k81_table_entries_kept_and_ref.main.body.getD i (.Pass ⟨0, 0, 0, 0⟩)
abbrev FnP (K : PySem.W.Frag) (x : Str) (st : Stmt) (f : Addr) (fd : FuncData) : Prop := FunD K x x (defArgs st) (defBody st) (defScope st) [] [] f fd
/-- names that are the built-in ones -/
structure Bl (mg : Str → Option Value) : Prop where
  isi : mg "isinstance" = none
  len : mg "len" = none
  tuple : mg "tuple" = none
  list : mg "list" = none
  int : mg "int" = none
  bool : mg "bool" = none
  str : mg "str" = none
  all : mg "all" = none
  set : mg "set" = none
  enum : mg "enumerate" = none
  range : mg "range" = none
  abs : mg "abs" = none
  min : mg "min" = none
  repr : mg "repr" = none
/-- a pure promise: a plain value, what stood stays -/
def spP (R : Hp → List V → V → Prop) : Sp := fun vs H Q _ => ∃ z, R H vs z ∧ ∀ H', Ex H H' → Q z H'
theorem spP_v {R : Hp → List V → V → Prop} {vs : List V} {H : Hp} {z : V} (h : ∀ H1, Ex H H1 → R H1 vs z) : SpV (spP R) vs H z := fun H1 e Q q E => ⟨z, h H1 e, fun H2 e2 => q H2 e2⟩
def isI : PyData → Bool
  | .int _ => true
  | _ => false
/-- what a datum is worth as an int -/
def valI : PyData → Int
  | .int i => i
  | _ => 0
theorem isI_eq {d : PyData} (h : isI d = true) : d = .int (valI d) := by
  cases d <;> first | rfl | (simp [isI] at h)
theorem kit_int (d : PyData) : ∃ b, kitB (tyN d) "int" = some b ∧ (b = true → ∃ c, kitB (tyN d) "bool" = some c ∧ (b && !c) = isI d) ∧ (b = false → isI d = false) := by
  cases d with
  | none => exact ⟨false, show kitB "NoneType" "int" = some false by decide +kernel, fun h => (by cases h), fun _ => rfl⟩
  | bool b => exact ⟨true, show kitB "bool" "int" = some true by decide +kernel, fun _ => ⟨true, show kitB "bool" "bool" = some true by decide +kernel, rfl⟩, fun h => (by cases h)⟩
  | int i => exact ⟨true, show kitB "int" "int" = some true by decide +kernel, fun _ => ⟨false, show kitB "int" "bool" = some false by decide +kernel, rfl⟩, fun h => (by cases h)⟩
  | str z => exact ⟨false, show kitB "str" "int" = some false by decide +kernel, fun h => (by cases h), fun _ => rfl⟩
  | list ds => exact ⟨false, show kitB "list" "int" = some false by decide +kernel, fun h => (by cases h), fun _ => rfl⟩
  | tuple ds => exact ⟨false, show kitB "tuple" "int" = some false by decide +kernel, fun h => (by cases h), fun _ => rfl⟩
  | dict ds => exact ⟨false, show kitB "dict" "int" = some false by decide +kernel, fun h => (by cases h), fun _ => rfl⟩
def isTu : PyData → Bool
  | .tuple _ => true
  | _ => false
def itemsT : PyData → List PyData
  | .tuple ds => ds
  | _ => []
theorem kit_tup (d : PyData) : kitB (tyN d) "tuple" = some (isTu d) := by
  cases d with
  | none => exact show kitB "NoneType" "tuple" = some false by decide +kernel
  | bool b => exact show kitB "bool" "tuple" = some false by decide +kernel
  | int i => exact show kitB "int" "tuple" = some false by decide +kernel
  | str z => exact show kitB "str" "tuple" = some false by decide +kernel
  | list ds => exact show kitB "list" "tuple" = some false by decide +kernel
  | tuple ds => exact show kitB "tuple" "tuple" = some true by decide +kernel
  | dict ds => exact show kitB "dict" "tuple" = some false by decide +kernel
def isR (n : Int) (d : PyData) : Bool := isI d && (decide (0 ≤ valI d) && decide (valI d ≤ n - 1))
section
variable {P : Program} {w : World} {K : PySem.W.Frag} {mg : Str → Option Value} {base : Heap} {f : Addr} {fd : FuncData}
/-! is_integer, _law_is_int -/
abbrev spIsInt : Sp := spP fun H vs z => ∃ v d, vs = [v] ∧ Dq H v d ∧ z = .bl (isI d)
abbrev sIsInt : Stmt := top 7
theorem scIsInt : FnScope ["thing"] ["thing"] (defScope sIsInt) := ⟨rfl, rfl, rfl, by decide +kernel, rfl, by decide +kernel, by decide +kernel⟩
theorem ok_isInt (B : Bl mg) (F : FnP K "is_integer" sIsInt f fd) : FnOk P w K mg base CX0 1 f fd ["thing"] spIsInt := by
  refine F.ok scIsInt (fun vs H Q E h => ?_) (fun cdv A outer s H vs Q E hr h => ?_)
  · obtain ⟨z, ⟨v, d, rfl, _⟩, _⟩ := h
    rfl
  · obtain ⟨z, ⟨v, d, rfl, hd, rfl⟩, k⟩ := h
    refine ⟨_, pss_one (ps_ret (pe_and (pe_callB call_isi (by rfl) B.isi boot_isinstance (pa_cons (pv 0) (pa_cons (pe_bltn (v := .ty "int") (by rfl) B.int PyProof.Rows.boot_int rfl) pa_nil)))
      (pe_one (pe_not (pe_callB call_isi (by rfl) B.isi boot_isinstance (pa_cons (pv 0) (pa_cons (pe_bltn (v := .ty "bool") (by rfl) B.bool PyProof.Rows.boot_bool rfl) pa_nil))))))), ?_⟩
    obtain ⟨b, hb, h1, h2⟩ := kit_int d
    have v0 : Ev (tVar 0) (start ["thing"] [v]) H v := ev_var rfl
    cases b with
    | true =>
      obtain ⟨c, hc, e⟩ := h1 rfl
      rw [← e] at k
      exact s_ret (ev_andV (ev_isi v0 hd hb) fun _ => ev_notV (ev_isi v0 hd hc)) k
    | false =>
      rw [h2 rfl] at k
      exact s_ret (ev_andV (b := false) (ev_isi v0 hd hb) fun z => (by cases z)) k

/-! is_between, is_router -/
abbrev spBetween : Sp := spP fun H vs z => ∃ (a b : Int) (v : V) (d : PyData), vs = [.int a, .int b, v] ∧ Dq H v d ∧ z = .bl (isI d && (decide (a ≤ valI d) && decide (valI d ≤ b)))
abbrev sBetween : Stmt := top 8
theorem scBetween : FnScope ["least", "most", "thing"] ["least", "most", "thing"] (defScope sBetween) := ⟨rfl, rfl, rfl, by decide +kernel, rfl, by decide +kernel, by decide +kernel⟩
theorem ok_between (B : Bl mg) (C : Cal P w K mg base "is_integer" ["thing"] 1 spIsInt) (F : FnP K "is_between" sBetween f fd) : FnOk P w K mg base CX0 2 f fd ["least", "most", "thing"] spBetween := by
  refine F.ok scBetween (fun vs H Q E h => ?_) (fun cdv A outer s H vs Q E hr h => ?_)
  · obtain ⟨z, ⟨a, b, v, d, rfl, _⟩, _⟩ := h
    rfl
  · obtain ⟨z, ⟨a, b, v, d, rfl, hd, rfl⟩, k⟩ := h
    refine ⟨_, pss_one (ps_ret (pe_and (pe_cal C hr (by rfl) (pa_cons (pv 2) pa_nil)) (pe_one (pe_chain op_le op_le (pv 0) (pv 2) (pv 1))))), ?_⟩
    have v0 : Ev (tVar 0) (start ["least", "most", "thing"] [.int a, .int b, v]) H (.int a) := ev_var rfl
    have v1 : Ev (tVar 1) (start ["least", "most", "thing"] [.int a, .int b, v]) H (.int b) := ev_var rfl
    have v2 : Ev (tVar 2) (start ["least", "most", "thing"] [.int a, .int b, v]) H v := ev_var rfl
    refine s_ret (ev_andV (a := isI d) (ev_call (ea_cons v2 ea_nil) (spP_v fun H1 e => ⟨v, d, rfl, hd.mono e, rfl⟩)) fun hi => ?_) k
    rw [isI_eq hi] at hd
    cases hd
    exact ev_chain v0 v2 v1 rv_I0 rv_I0
abbrev spRouter : Sp := spP fun H vs z => ∃ (n : Int) (v : V) (d : PyData), vs = [.int n, v] ∧ Dq H v d ∧ z = .bl (isR n d)
abbrev sRouter : Stmt := top 11
theorem scRouter : FnScope ["size", "thing"] ["size", "thing"] (defScope sRouter) := ⟨rfl, rfl, rfl, by decide +kernel, rfl, by decide +kernel, by decide +kernel⟩
theorem ok_router (C : Cal P w K mg base "is_between" ["least", "most", "thing"] 2 spBetween) (F : FnP K "is_router" sRouter f fd) : FnOk P w K mg base CX0 3 f fd ["size", "thing"] spRouter := by
  refine F.ok scRouter (fun vs H Q E h => ?_) (fun cdv A outer s H vs Q E hr h => ?_)
  · obtain ⟨z, ⟨n, v, d, rfl, _⟩, _⟩ := h
    rfl
  · obtain ⟨z, ⟨n, v, d, rfl, hd, rfl⟩, k⟩ := h
    refine ⟨_, pss_one (ps_ret (pe_cal C hr (by rfl) (pa_cons pe_int (pa_cons (pe_op op_sub (pv 0) pe_int) (pa_cons (pv 1) pa_nil))))), ?_⟩
    exact s_ret (ev_call (ea_cons ev_c (ea_cons (ev_op (ev_var rfl) ev_c rv_I0) (ea_cons (ev_var rfl) ea_nil))) (spP_v fun H1 e => ⟨0, n - 1, v, d, rfl, hd.mono e, rfl⟩)) k
end
end Wk

set_option Elab.async false
set_option linter.all false
set_option maxRecDepth 100000
set_option maxHeartbeats 4000000
namespace Wk
open PySem PySem.Spec PyProof.Rows L2 Evl
/-! an object made, a method called, where what is raised is wished for at the caller's slots -/
section
variable {X : Cx} {CX : CXT} {k : Nat} {f C : Addr} {fd : FuncData} {ps : List Str} {sp : Sp} {W : L2.St → XK} {x m : Str} {p pos apos : Pos} {e o : Expr} {es : List Expr} {ta : TE} {t : TA}
def tMkAt (C : Addr) (sp : Sp) (W : L2.St → XK) (t : TA) : TE := fun σ H Q => t σ H fun vs H1 => ∀ x dx, H1 x = none → H1 dx = none → dx ≠ x → sp (.ref x :: vs) (upd (upd H1 dx (.own x)) x (.ins C dx [])) (fun v H2 => v = .non ∧ Q (.ref x) H2) (W σ)
theorem pe_mkAt (M : Mk X.K C f) (Fn : FnOk X.prog X.w X.K X.mg X.base CX k f fd ps sp) (hr : Room (k + 1) X.A) (hg : Gl X x) (hm : X.mg x = some (.ref C)) (hb : Binds X.K fd ps []) (hx : ∀ σ, PassesAt CX X σ (W σ)) (ha : PA X (e :: es) t)
    (hdb : (x == ("__debug__" : Str)) = false := by decide) (he : starEach (e :: es) X.env = (false, eval e X.env) :: starEach es X.env := by rfl) (hpl : (backTo pos (starEach es X.env)).any (·.1) = false := by rfl) :
    PE X (.Call (.Name x p) (e :: es) [] pos) (tMkAt C sp W t) := by
  refine ⟨fun pins s σ H Q I h => wpAny_Call_Name_kw (ld_glob I hg hm (PySem.W.callWith_K (h₀ := X.base) I.ok.mod.kin M.kp (thn (ha.run pos pins s σ H _ I h) fun us s1 hh => ?_) he hpl) hdb)⟩
  obtain ⟨vs, H1, I1, r, q⟩ := hh
  refine ⟨I1.kIn, ?_⟩
  have hq := q (s1.heap.objs.size + 1) s1.heap.objs.size (I1.hok.fresh (Nat.le_succ _)) (I1.hok.fresh (Nat.le_refl _)) (Nat.ne_of_lt (Nat.lt_succ_self _))
  have J := Inv.made (C := C) I1
  have rr : Vals (V.ref (s1.heap.objs.size + 1) :: vs) (Value.ref (s1.heap.objs.size + 1) :: us) := .cons rfl r
  have hl : (Value.ref (s1.heap.objs.size + 1) :: us).length = ps.length := rr.length.symm.trans (Fn.len _ _ _ _ hq)
  have bd := hb _ (Value.ref (s1.heap.objs.size + 1) :: us) J.kIn (by rw [List.append_nil]; exact hl)
  rw [List.append_nil] at bd
  refine wpAny_call (make_map (f := f) I1.kIn M.makes M.init (beq_iff_eq.mp M.fn) (codeAny_mono (Fn.run _ X.stack _ _ ⟨_, []⟩ _ _ _ (W σ) (hr.make C us []) (J.env0.make C us []) bd rr hq) fun r s' out => ?_))
  cases r with
  | error er => exact hx σ pins _ _ er s' J out
  | ok fl =>
    cases fl with
    | ret u =>
      obtain ⟨v, H', I3, rv, ev, q3⟩ := J.after out
      subst ev
      exact ⟨rv, ⟨V.ref (s1.heap.objs.size + 1), H', I3, rfl, q3⟩⟩
    | next => exact False.elim out
    | brk => exact False.elim out
    | cont => exact False.elim out
def tMeAt (C : Addr) (m : Str) (sp : Sp) (W : L2.St → XK) (ta : TE) (t : TA) : TE := fun σ H Q => ta σ H fun x H1 => ∃ a dx fs, x = .ref a ∧ H1 a = some (.ins C dx fs) ∧ fs.lookup m = none ∧ t σ H1 fun vs H2 => sp (x :: vs) H2 Q (W σ)
theorem pe_meAt {pl : Sem Bool} (ho : PE X o ta) (c : Cls X.K C) (hm : Meth X.K C m f) (Fn : FnOk X.prog X.w X.K X.mg X.base CX k f fd ps sp) (hr : Room k X.A) (hb : Binds X.K fd ps []) (hx : ∀ σ, PassesAt CX X σ (W σ)) (ha : PA X (e :: es) t)
    (hst : starEach (e :: es) X.env = (false, eval e X.env) :: starEach es X.env := by rfl) (hpl : (backTo pos (starEach es X.env)).any (·.1) = false := by rfl)
    (ht : eval (.Call (.Attribute o m apos) (e :: es) [] pos) X.env = (do
      let ov ← eval o X.env
      standAt apos.atName
      let (f, first) ← holding [ov] (getMethod ov m pl)
      callWith pos f first (backTo pos (starEach (e :: es) X.env)) (backToKw pos (keywordEach [] X.env))) := by rfl) :
    PE X (.Call (.Attribute o m apos) (e :: es) [] pos) (tMeAt C m sp W ta t) := by
  refine ⟨fun pins s σ H Q I h => PySem.W.methodCall_KW (pl := pl) (thn (ho.run pins s σ H _ I h) fun u s1 hh => ?_) ht⟩
  obtain ⟨x, H1, I1, rx, a, dx, fs, ex, ea, l, q⟩ := hh
  subst ex
  obtain rfl : u = Value.ref a := rx
  refine getmeth_ok I1 ea c hm l (PySem.W.callWith_K (first := [.ref a]) (h₀ := X.base) I.ok.mod.kin hm.kp (thn (ha.run pos pins s1 σ H1 _ I1 q) fun us s2 hh => ?_) hst hpl)
  obtain ⟨vs, H2, I2, r, q2⟩ := hh
  exact ⟨I2.kIn, run_fnS (us := .ref a :: us) (vs := .ref a :: vs) Fn hr hb (hx σ) I2 (.cons rfl r) q2⟩
end
/-! an own error with one field -/
/-- __init__ of such an error: self.router = router -/
def spXI (C : Addr) : Sp := fun vs H Q _ => ∃ (a : Addr) (y : V), vs = [.ref a, y] ∧ H a = some (exo a C none) ∧ ∀ dx, H dx = none → dx ≠ a → Q .non (upd (upd H dx (exd dx [("router", y)])) a (exo a C (some dx)))
/-- X(e) is made: where the error's dict is -/
theorem mk_err {C : Addr} {te : TE} {σ : L2.St} {H : Hp} {y : V} {W : XK} (h : Ev te σ H y) (k : ∀ d H', H d = none → Ex H H' → H' d = some (.xd [("router", y)]) → W (.ref C) (some d) H') : tMkO C (spXI C) [] (tCons te tNil) σ H W := by
  refine h H (Ex.refl H) _ fun H1 e => ⟨by show 1 ≤ 1000; decide, fun a ha => ?_⟩
  refine ⟨a, y, rfl, upd_same, fun dx hd hne => ⟨rfl, dx, [("router", y)], upd_same, by rw [upd_ne hne, upd_same], ?_, ?_⟩⟩
  · rw [upd_ne hne] at hd
    exact hd
  · have hd1 : H1 dx = none := by rw [upd_ne hne] at hd; exact hd
    refine k dx _ (fresh_back e hd1) (fun b o hb => ?_) upd_same
    have hb1 := e b o hb
    have nb : b ≠ dx := ne_of_none hb1 hd1
    have na : b ≠ a := ne_of_none hb1 ha
    rw [upd_ne nb, del_ne na, upd_ne na, upd_ne nb, upd_ne na]
    exact hb1
/-! parts of tuples -/
section
variable {K : PySem.W.Frag} {σ : L2.St} {H : Hp} {ta tb te : TE}
/-- what stands in a tuple (an old one or a new one) -/
def EvS (te : TE) (σ : L2.St) (H : Hp) (xs : List V) : Prop := ∀ H1, Ex H H1 → ∀ Q : VK, (∀ p H2, Ex H1 H2 → H2 p = some (.tup xs) → Q (.ref p) H2) → te σ H1 Q
theorem es_sl {a : Addr} {xs : List V} {tl th : TO} {lo hi : Option Int} (h : Ev te σ H (.ref a)) (h1 : EvO tl σ H lo) (h2 : EvO th σ H hi) (hs : H a = some (.tup xs)) : EvS (tSl (rSlA K) te tl th) σ H (cutV xs lo hi) := fun H1 e Q q =>
  h H1 e _ fun H2 e2 => h1 H2 (e.trans e2) _ fun H3 e3 => h2 H3 ((e.trans e2).trans e3) _ fun H4 e4 => by
    have hs4 := (((e.trans e2).trans e3).trans e4) _ _ hs
    refine ⟨a, xs, rfl, st_of hs4, fun hw => ?_, fun hw p hp => q p _ (((e2.trans e3).trans e4).trans (Ex.new hp)) upd_same⟩
    have ec : cutV xs lo hi = xs := by
      unfold cutV
      rw [hw.1, hw.2]
      simp
    rw [ec] at q
    exact q a H4 ((e2.trans e3).trans e4) hs4
theorem es_cat {xs ys : List V} (ha : EvS ta σ H xs) (hb : EvS tb σ H ys) (hz : xs.length + ys.length ≤ 100000) : EvS (tOp (rCatA K) ta tb) σ H (xs ++ ys) := fun H1 e Q q =>
  ha H1 e _ fun p H2 e2 hp => hb H2 (e.trans e2) _ fun p' H3 e3 hp' => by
    have hp3 := e3 _ _ hp
    refine ⟨p, p', xs, ys, rfl, rfl, st_of hp3, st_of hp', sz_of hz, fun hx => ?_, fun _ hy => ?_, fun _ _ r hr => q r _ ((e2.trans e3).trans (Ex.new hr)) upd_same⟩
    · rw [hx] at q
      exact q p' H3 (e2.trans e3) hp'
    · rw [hy, List.append_nil] at q
      exact q p H3 (e2.trans e3) hp3
theorem es_tup {t : TA} {xs : List V} (h : EvA t σ H xs) (hz : xs.length ≤ 100000) : EvS (tTup t) σ H xs := fun H1 e Q q => eu_tup h hz H1 e Q fun p H2 _ e2 hp => q p H2 e2 hp
theorem es_var {a : Addr} {xs : List V} (h : Ev te σ H (.ref a)) (hs : H a = some (.tup xs)) : EvS te σ H xs := fun H1 e Q q => h H1 e _ fun H2 e2 => q a H2 e2 ((e.trans e2) _ _ hs)
theorem es_mono {xs : List V} {H' : Hp} (e : Ex H H') (h : EvS te σ H xs) : EvS te σ H' xs := fun H1 e1 Q q => h H1 (e.trans e1) Q q
end
/-! x in t, t a tuple of data -/
section
variable {X : Cx}
def rInU (K : PySem.W.Frag) : R2 := fun x y H Q => ∃ d ds, Dp K H x d ∧ Dp K H y (.tuple ds) ∧ SeqAt.shaped d = true ∧ PyData.canLayAll0 ds = true ∧ Q (.bl (ds.any fun z => PyData.eqv z d)) H
def rNotInU (K : PySem.W.Frag) : R2 := fun x y H Q => ∃ d ds, Dp K H x d ∧ Dp K H y (.tuple ds) ∧ SeqAt.shaped d = true ∧ PyData.canLayAll0 ds = true ∧ Q (.bl (!ds.any fun z => PyData.eqv z d)) H
theorem op_inU (hu : X.A.units + 66 < cLine) : OpR X (compareOp .In) (rInU X.K) := fun pins s σ H x y v u Q I rx ry h => by
  obtain ⟨d, ds, hd, he, sd, se, q⟩ := h
  obtain ⟨as, r1⟩ := Dp.reads I d x v hd rx
  obtain ⟨bs, r2⟩ := Dp.reads I (.tuple ds) y u he ry
  have hdp := SeqAt.depth_of_shaped sd
  exact SeqAt.in_tuple_reads r2 r1 se (SeqAt.canLay_of_shaped sd) (by have := Nat.min_le_right (PyData.depthAll ds) d.depth; omega) ⟨.bl _, H, I, rfl, q⟩
theorem op_notInU (hu : X.A.units + 66 < cLine) : OpR X (compareOp .NotIn) (rNotInU X.K) := fun pins s σ H x y v u Q I rx ry h => by
  obtain ⟨d, ds, hd, he, sd, se, q⟩ := h
  obtain ⟨as, r1⟩ := Dp.reads I d x v hd rx
  obtain ⟨bs, r2⟩ := Dp.reads I (.tuple ds) y u he ry
  have hdp := SeqAt.depth_of_shaped sd
  exact SeqAt.notIn_tuple_reads r2 r1 se (SeqAt.canLay_of_shaped sd) (by have := Nat.min_le_right (PyData.depthAll ds) d.depth; omega) ⟨.bl _, H, I, rfl, q⟩
end
end Wk

set_option Elab.async false
set_option linter.all false
set_option maxRecDepth 100000
set_option maxHeartbeats 4000000
namespace Wk
open PySem PySem.Spec PyProof.Rows L2 Evl SeqAt
/-! == of a sequence and the empty one: by the lengths alone -/
section
variable {X : Cx}
def rEqEL (K : PySem.W.Frag) : R2 := fun x y H Q => ∃ a b xs, x = .ref a ∧ y = .ref b ∧ SqL K H a xs ∧ SqL K H b [] ∧ Q (.bl xs.isEmpty) H
theorem op_eqEL (hu : X.A.units < cLine) : OpR X (compareOp .Eq) (rEqEL X.K) := fun pins s σ H x y v u Q I rx ry h => by
  obtain ⟨a, b, xs, rfl, rfl, ha, hb, q⟩ := h
  cases rx
  cases ry
  obtain ⟨its, r1, p1, _⟩ := I.list ha
  obtain ⟨its2, r2, p2, _⟩ := I.list hb
  cases r2
  cases r1 with
  | nil => exact eq_listAt (e := fun _ => true) p1.isList p2.isList rfl hu (fun j h1 _ => absurd h1 (by simp)) ⟨.bl true, H, I, rfl, q⟩
  | cons r rr => exact eq_list_lengthsAt p1.isList p2.isList (by simp) hu ⟨.bl false, H, I, rfl, q⟩
def rEqEU (K : PySem.W.Frag) : R2 := fun x y H Q => ∃ a b xs, x = .ref a ∧ y = .ref b ∧ SqT K H a xs ∧ SqT K H b [] ∧ Q (.bl xs.isEmpty) H
theorem op_eqEU (hu : X.A.units < cLine) : OpR X (compareOp .Eq) (rEqEU X.K) := fun pins s σ H x y v u Q I rx ry h => by
  obtain ⟨a, b, xs, rfl, rfl, ha, hb, q⟩ := h
  cases rx
  cases ry
  obtain ⟨its, r1, p1, _⟩ := I.tuple ha
  obtain ⟨its2, r2, p2, _⟩ := I.tuple hb
  cases r2
  refine eq_tupleAt (e := fun _ => true) p1 p2 hu (fun j _ h2 => absurd h2 (by simp)) ⟨.bl xs.isEmpty, H, I, ?_, q⟩
  cases r1 <;> rfl
def rNeEU (K : PySem.W.Frag) : R2 := fun x y H Q => ∃ a b xs, x = .ref a ∧ y = .ref b ∧ SqT K H a xs ∧ SqT K H b [] ∧ Q (.bl (!xs.isEmpty)) H
theorem op_neEU (hu : X.A.units < cLine) : OpR X (compareOp .NotEq) (rNeEU X.K) := fun pins s σ H x y v u Q I rx ry h => by
  obtain ⟨a, b, xs, rfl, rfl, ha, hb, q⟩ := h
  cases rx
  cases ry
  obtain ⟨its, r1, p1, _⟩ := I.tuple ha
  obtain ⟨its2, r2, p2, _⟩ := I.tuple hb
  cases r2
  refine RcNeAt.tuples (e := fun _ => true) p1 p2 hu (fun j _ h2 => absurd h2 (by simp)) X.prog X.w _ _ ⟨.bl (!xs.isEmpty), H, I, ?_, q⟩
  cases r1 <;> rfl
end
/-! a dict and a tuple are unlike -/
theorem dictEqTup (l b : Addr) (o : Obj) (hoc : o.cls = .type "dict") (its : Array Value) (n : Nat) (dd : Option Addr) (sl : Array (Option Value)) :
    Meets (Builtin.«dict.__eq__» ⟨[.ref l, .ref b], []⟩) (fun _ R s => s.heap.get? l = some o ∧ s.heap.get? b = some { cls := .type "tuple", dict := dd, data := .seq its n, slots := sl } ∧ R (.ok (.ret .notImplemented)) s) :=
  .of_wp fun prog w A R s h => by
    obtain ⟨hp, g, d, tk, os⟩ := s
    obtain ⟨hl, hb, h⟩ := h
    obtain ⟨oc, od, dt, os2⟩ := o
    simp only at hoc
    subst hoc
    have f1 := F.sub_tuple_dict
    wp_walk using wpAny_loadPart' hl, wpAny_loadPart' hb
    exact ⟨_, rfl, h⟩
theorem tupEqDict (l b : Addr) (o : Obj) (hoc : o.cls = .type "dict") (its : Array Value) (n : Nat) (dd : Option Addr) (sl : Array (Option Value)) :
    Meets (Builtin.«tuple.__eq__» ⟨[.ref b, .ref l], []⟩) (fun _ R s => s.heap.get? b = some { cls := .type "tuple", dict := dd, data := .seq its n, slots := sl } ∧ s.heap.get? l = some o ∧ R (.ok (.ret .notImplemented)) s) :=
  .of_wp fun prog w A R s h => by
    obtain ⟨hp, g, d, tk, os⟩ := s
    obtain ⟨hb, hl, h⟩ := h
    obtain ⟨oc, od, dt, os2⟩ := o
    simp only at hoc
    subst hoc
    have f1 := F.sub_dict_tuple
    wp_walk using wpAny_loadPart' hl, wpAny_loadPart' hb
    exact ⟨_, rfl, h⟩
section
variable {A : Around} {s : Shared}
theorem eqAt_dictTup {l b : Addr} {o : Obj} {its : Array Value} (hl : s.heap.get? l = some o) (hoc : o.cls = .type "dict") (hb : s.heap.IsTuple b its) (hu : A.units < cLine) : EqAt A s (.ref l) (.ref b) false := by
  obtain ⟨⟨c2, dd, dt, sl⟩, ho2, hc2, n, hd2⟩ := hb
  simp only at hc2 hd2
  subst hc2 hd2
  have hne : l ≠ b := fun z => by
    rw [z, ho2] at hl
    cases hl
    exact absurd hoc (by simp)
  refine EqAt.of_refs hne fun prog w E Q h => ?_
  exact rc_eq_decline_or (k := false) ⟨_, hl, hoc⟩ ⟨_, ho2, rfl⟩ (by decide) F.sub_tuple_dict F.slot_dict_eq F.slot_tuple_eq_refl
    (fun _ hq => call_meets F.slot_dict_eq ⟨_, hl, hoc⟩ F.entry_dict_eq (F.args_dict_eq_2 _ _) (dictEqTup l b o hoc its n dd sl) ⟨hl, ho2, hq⟩)
    (fun _ hq => call_meets F.slot_tuple_eq_refl ⟨_, ho2, rfl⟩ F.entry_tuple_eq (F.args_tuple_eq_2 _ _) (tupEqDict l b o hoc its n dd sl) ⟨ho2, hl, hq⟩)
    (fun _ hq => wpAny_isSame_ref_other hne hl ho2 (by rw [hoc]; simp) hq) (.inr hu) h
end
/-- an item of an edited row -/
def Itm (d : PyData) : Prop := d = .dict [] ∨ (d.canLay0 = true ∧ d.depth ≤ 8)
section
variable {X : Cx}
/-- x not in l, l a list of such items, x a tuple: a flag -/
def rNotInX (K : PySem.W.Frag) : R2 := fun x y H Q => ∃ a p ds vs es, x = .ref a ∧ y = .ref p ∧ H p = some (.lst vs) ∧ DqA H vs ds ∧ (∀ d ∈ ds, Itm d) ∧ Dq H (.ref a) (.tuple es) ∧ PyData.canLay0 (.tuple es) = true ∧ ∀ b : Bool, Q (.bl b) H
theorem op_notInX (hu : X.A.units + 66 < cLine) : OpR X (compareOp .NotIn) (rNotInX X.K) := fun pins s σ H x y v u Q I rx ry h => by
  obtain ⟨a, p, ds, vs, es, rfl, rfl, hp, hds, hi, hx, cx, q⟩ := h
  cases rx
  cases ry
  obtain ⟨its, r1, p1, _⟩ := I.list (sq_of hp)
  have hxp := hx
  cases hxp with
  | tup h1 h2 =>
    obtain ⟨as, rx⟩ := Dp.reads I (.tuple es) (.ref a) (.ref a) (Dq.dp (K := X.K) cx hx) rfl
    obtain ⟨its2, r2, p2, _⟩ := I.tuple (st_of h1)
    have key : ∀ y ∈ its, ∃ b, EqAt X.A.in1 s y (.ref a) b := fun y hy => by
      obtain ⟨i, hiy⟩ := List.mem_iff_getElem?.mp hy
      have hil : i < vs.length := by
        have := (List.getElem?_eq_some_iff.mp hiy).1
        rw [r1.length]; exact this
      have hv : vs[i]? = some vs[i] := List.getElem?_eq_getElem hil
      obtain ⟨u2, hu2, ru⟩ := r1.get hv
      rw [hiy] at hu2
      cases hu2
      obtain ⟨d, ed, hd⟩ := hds.get hv
      rcases hi d (List.mem_of_getElem? ed) with z | ⟨z, zd⟩
      · subst z
        generalize hvv : vs[i] = vv at *
        cases hd with
        | dic hdd =>
          cases ru
          obtain ⟨_, _, vs2, _, o, es2, ep, g1, g2, _⟩ := (show ObjOk X.prog X.w H s.heap _ (.dK []) from I.hok _ _ hdd)
          exact ⟨false, eqAt_dictTup g1 g2.1 p2 (by show X.A.in1.units < cLine; simp; omega)⟩
      · obtain ⟨bs, ry⟩ := Dp.reads I d vs[i] y (Dq.dp (K := X.K) z hd) ru
        exact ⟨_, eqAt_reads d (.tuple es) X.A.in1 s y (.ref a) bs as ry rx z cx (by
          have hm := Nat.min_le_left d.depth (PyData.tuple es).depth
          show X.A.in1.units + _ < cLine
          simp
          omega)⟩
    have key2 : ∃ e : Value → Bool, ∀ y, y ∈ its.toArray → EqAt X.A.in1 s y (.ref a) (e y) := by
      refine ⟨fun y => @decide (EqAt X.A.in1 s y (.ref a) true) (Classical.propDecidable _), fun y hy => ?_⟩
      obtain ⟨b, hb⟩ := key y (by simpa using hy)
      by_cases c : EqAt X.A.in1 s y (.ref a) true
      · simp only [c, decide_true]
      · simp only [c, decide_false]
        cases b with
        | false => exact hb
        | true => exact absurd hb c
    obtain ⟨e, he⟩ := key2
    exact notIn_listAt e p1.isList he ⟨.bl _, H, I, rfl, q _⟩
end
end Wk

set_option Elab.async false
set_option linter.all false
set_option maxRecDepth 100000
set_option maxHeartbeats 2000000
namespace Wk
open PySem PySem.Spec PyProof.Rows L2 Evl
theorem cut_to (xs : List V) (i : Nat) (h : i ≤ xs.length) : cutV xs none (some (i : Int)) = xs.take i := by
  unfold cutV
  rw [HT.sIx_none, HT.sIx_nat, Nat.min_eq_left h]
  simp
theorem flat_ints (ns : List Int) : (ns.map V.int).all flatV = true := by
  rw [List.all_map, List.all_eq_true]
  intro x _
  rfl
theorem cut_from (xs : List V) (i : Nat) (h : i ≤ xs.length) : cutV xs (some (i : Int)) none = xs.drop i := by
  unfold cutV
  rw [HT.sIx_nat, HT.sIx_none, Nat.min_eq_left h]
  exact List.take_of_length_le (by simp)
theorem seqIx {k n : Nat} (h : k < n) : seqIndex? (k : Int) n = some k := by
  have q := ixN_seq (n := n) (i := (k : Int)) (j := k) (by
    unfold ixN
    rw [if_pos (by omega), if_pos (by omega)]
    simp)
  exact q.1
theorem ix_listK {X : Cx} {K : PySem.W.Frag} (hK : X.K = K) : IxR X (rIxL K) := by
  subst hK
  exact ix_list
theorem ixNat {n : Nat} {x : Int} (h0 : 0 ≤ x) (h1 : x < n) : ixN n x = some x.toNat := by
  unfold ixN
  rw [if_pos h0, if_pos h1]
theorem at_ints {os : List Int} {j : Nat} (h : j < os.length) : atI (os.map V.int) (j : Int) = some (.int os[j]) := atI_nat (by rw [List.getElem?_map, List.getElem?_eq_getElem h]; rfl)
theorem g_name {i : Nat} {x : V} {σ : L2.St} {H : Hp} {k : L2.St → Hp → Prop} (h : k (σ.set i (some x)) H) : gName i x σ H k := h
theorem asg_lst1 {te : TE} {g : TG} {D : Ends} {σ : L2.St} {H : Hp} (h : te σ H fun x H1 => 1 ≤ sizeLine ∧ ∀ b, H1 b = none → g (.ref b) σ (upd H1 b (.lst [x])) D.nx) : tAsg (tLst (tCons te tNil)) g D σ H := h
theorem cb1 {r : List V → Hp → VK → Prop} {ta : TE} {σ : L2.St} {H : Hp} {Q : VK} (h : ta σ H fun x H1 => r [x] H1 Q) : tCB r (tCons ta tNil) σ H Q := h
theorem q_c {i : Nat} {v : V} {tz : TS} {D : Ends} {σ : L2.St} {H : Hp} (h : tz D (σ.set i (some v)) H) : tSeq (tAsg (tC v) (gName i)) tz D σ H := h
theorem call_tupleK {X : Cx} {K : PySem.W.Frag} (hK : X.K = K) : CallR X (.type "tuple") (fun xs H Q => ∃ p ys, xs = [.ref p] ∧ ((SqL K H p ys ∧ ∀ l, H l = none → Q (.ref l) (upd H l (.tup ys))) ∨ (SqT K H p ys ∧ Q (.ref p) H))) := by
  subst hK
  exact call_tuple_of
theorem ret_cb {r : List V → Hp → VK → Prop} {ta : TE} {D : Ends} {σ : L2.St} {H : Hp} (h : ta σ H fun x H1 => r [x] H1 D.rt) : tRet (tCB r (tCons ta tNil)) D σ H := h
theorem ret_op {r : R2} {ta tb : TE} {D : Ends} {σ : L2.St} {H : Hp} (h : ta σ H fun x H1 => tb σ H1 fun y H2 => r x y H2 D.rt) : tRet (tOp r ta tb) D σ H := h
theorem call_listK2 {X : Cx} {K : PySem.W.Frag} (hK : X.K = K) : CallR X (.type "list") (fun xs H Q => ∃ p ys, xs = [.ref p] ∧ (SqL K H p ys ∨ SqT K H p ys) ∧ ∀ l, H l = none → Q (.ref l) (upd H l (.lst ys))) := by
  subst hK
  exact call_list_of
theorem take_snoc {α : Type} {l : List α} {i : Nat} {x : α} (h : l[i]? = some x) : l.take (i + 1) = l.take i ++ [x] := by
  rw [List.take_add_one, h]
  rfl
theorem ev_inS {K : PySem.W.Frag} {σ : L2.St} {H : Hp} {ta tb : TE} {x : V} {xs : List V} (ha : Ev ta σ H x) (hb : EvS tb σ H xs) (hx : flatV x = true) (hf : xs.all flatV = true) : Ev (tOp (rIn K false) ta tb) σ H (.bl (inV x xs)) := fun H1 e Q q =>
  ha H1 e _ fun H2 e2 => hb H2 (e.trans e2) _ fun p H3 e3 hp => ⟨p, xs, rfl, .inr (st_of hp), hx, hf, q H3 (e2.trans e3)⟩
theorem modP (a b : Int) (h : 0 < b) : 0 ≤ a % b ∧ a % b < b := ⟨Int.emod_nonneg _ (by omega), Int.emod_lt_of_pos _ h⟩
theorem q_asgW {te : TE} {tz : TS} {D : Ends} {σ : L2.St} {H : Hp} {i : Nat} (h : te σ H fun x H1 => tz D (σ.set i (some x)) H1) : tSeq (tAsg te (gName i)) tz D σ H := h
end Wk


set_option Elab.async false
set_option linter.all false
set_option maxRecDepth 100000
set_option maxHeartbeats 2000000
namespace Wk
open L2 PySem PySem.Spec PyProof.Rows
section
variable {X : Cx}
/-- one entry more by a comprehension, in a dict of either kind of keys -/
theorem put_dp {ps : List (Addr × Obj)} {σ : L2.St} {H Hn : Hp} {s : Shared} {D : Addr} {y z : V} {u r : Value}
    {E : Value → Shared → Prop} {Q : Unit → Shared → Prop} (hu : X.A.units < cLine) (I : Inv X ps σ H s)
    (g : DPut H D y z Hn) (ry : L2.RelV y u) (rz : L2.RelV z r) (h : ∀ s', Inv X ps σ Hn s' → Q () s') :
    wpAny (model X.prog X.w) X.A (dictSet D u r) Q E s := by
  rcases g with ⟨kvs, k, e, rfl, l, rfl⟩ | ⟨kvs, k, b, e, rfl, eb, l, rfl⟩
  · exact d_dictSet I e l ry rz h
  · obtain rfl : u = Value.ref b := ry
    obtain ⟨z1, nd, xs, rel, dd⟩ := dt_of I.hok e
    have l1 := length_putK kvs k z
    refine wpAny_dictSet_heap (hsz := by rw [← Paired.length rel]; exact z1) hu (key_of I.hok eb) dd
      fun h1 d1 sb => h _ ?_
    obtain ⟨q, es, ep, hq, a1, a2, a3, _, a4⟩ := d1
    refine d_write I (by rw [e]; trivial) sb ⟨q, hq⟩ ⟨by omega, nd, _, (rel.put k eb rz).keeps ?_, q, es, ep, hq, a1, a2, a3, a4⟩
    intro c ys ec
    exact (upd_ne (ne_of ec e (by intro z; cases z))).trans ec
end
/-- what one item does: the target, the tests, then key, value and the entry -/
def dqStep (g : TG) (tt : TT) (tk tv : TE) (vs : List Nat) (D : Addr) (Nx : Hp → Prop) (σ : L2.St) (x : V) (H : Hp) : Prop :=
  g x (wipe σ vs) H fun σa Ha => wipe σa vs = wipe σ vs ∧ tt σa Ha fun b Hb =>
    if b = true then tk σa Hb fun y Hc => tv σa Hc fun z Hd => ∃ Hn, DPut Hd D y z Hn ∧ Nx Hn
    else Nx Hb
/-- the walk of such a comprehension by a measure -/
def dqWalk (J : It) (step : (Hp → Prop) → V → Hp → Prop) (Qs : Hp → Prop) (W : Nat → Nat → Hp → Prop) : Prop :=
  ∀ i m H, W i m H → (J.stop i H ∧ Qs H) ∨
    (J.go i H ∧ ∃ Nx : Hp → Prop, (∀ Ha, Nx Ha → ∃ k, k < m ∧ W (i + 1) k Ha) ∧ ∀ x Ha, J.yld i H x Ha → step Nx x Ha)
theorem dq_loop {Y : Cx} {σ : L2.St} {vs : List Nat} {R : Result → Shared → Prop} {J : It} {fp : List Addr} {it D : Addr}
    {tn : Nat → Heap → Prop} {kx vx tg iter : Expr} {ifs : List Expr} {scope : Scope} {pos : Pos} {g : TG} {tt : TT} {tk tv : TE}
    {W : Nat → Nat → Hp → Prop} {Qs : Hp → Prop} (hc : Y.calm = true) (hx : Y.xe = fun _ _ => False) (hu : Y.A.units < cLine)
    (T : Turn Y.prog Y.w Y.K tg J fp it tn) (pg : PG Y tg g) (pt : PTs Y ifs tt) (pk : PE Y kx tk) (pv : PE Y vx tv)
    (own : ∀ {σ' : L2.St} {H' : Hp} {s' : Shared}, Inv Y [] σ' H' s' → (∀ b ∈ fp, H' b = none) → ∀ b ∈ fp, FpOk Y [] H' b)
    (walk : dqWalk J (fun Nx x H => dqStep g tt tk tv vs D Nx σ x H) Qs W)
    (last : ∀ H s, Inv Y [] (wipe σ vs) H s → Qs H → R (.ok .next) s)
    {m : Nat} {H : Hp} {s : Shared} (I : Inv Y [] (wipe σ vs) H s) (st : tn 0 s.heap) (nf : ∀ b ∈ fp, H b = none) (w : W 0 m H) :
    codeAny (model Y.prog Y.w) Y.A
      (.compLoop (.DictComp kx vx [⟨tg, iter, ifs, 0⟩] scope pos) 0 (.ref it) (.ref D) Y.env) R s := by
  refine compLoop_anyD (fun k s1 => ∃ i H1, Inv Y [] (wipe σ vs) H1 s1 ∧ tn i s1.heap ∧ (∀ b ∈ fp, H1 b = none) ∧ W i k H1)
    (fun k s1 hk => ?_) m ⟨0, H, I, st, nf, w⟩
  obtain ⟨i, H1, I1, st1, nf1, w1⟩ := hk
  cases walk i k H1 w1 with
  | inl e =>
    refine thnF (T.done Y rfl rfl rfl hc i [] s1 _ H1 (fun _ _ => False) I1 (own I1 nf1) st1 e.1) ?_
    rintro _ s2 ⟨rfl, I2⟩
    exact last H1 s2 I2 e.2
  | inr e =>
    obtain ⟨go, Nx, less, step⟩ := e
    refine thnF (T.item Y rfl rfl rfl hc i [] s1 _ H1 (fun _ _ => False) I1 (own I1 nf1) st1 go) ?_
    rintro _ s2 ⟨u, rfl, it2⟩
    refine thnF it2 ?_
    rintro _ s3 ⟨x, H3, I3, rx, yx, st3, nf3⟩
    have pin := I3.pinned (own I3 nf3) (T.obj _ _ st3)
    have t1 := pg.run _ s3 _ H3 x u _ pin rx (step x H3 yx)
    rw [hx] at t1
    refine thnF t1 ?_
    rintro _ s4 ⟨σ4, H4, I4, ew, q4⟩
    have back : ∀ {s9 : Shared} {H9 : Hp}, Inv Y ([] ++ pinsAt fp s3.heap) σ4 H9 s9 → Nx H9 →
        ∃ j, j < k ∧ ∃ i' H', Inv Y [] (wipe σ vs) H' s9 ∧ tn i' s9.heap ∧ (∀ b ∈ fp, H' b = none) ∧ W i' j H' := by
      intro s9 H9 I9 nx
      obtain ⟨j, lt, wj⟩ := less H9 nx
      have same : ∀ b ∈ fp, ∀ o, s3.heap.get? b = some o → s9.heap.get? b = some o ∧ H9 b = none := by
        intro b hb o eo
        have a := I9.pin (b, o) (List.mem_append_right _ (List.mem_append_right _ (mem_pinsAt hb eo)))
        exact ⟨a.1, a.2.1⟩
      refine ⟨j, lt, i + 1, H9, ?_, T.keep _ _ _ st3 fun b hb o eo => (same b hb o eo).1, ?_, wj⟩
      · refine (I9.unpinned (pins := [])).weak (by rw [← ew, wipe_length]) ?_
        intro n v en
        rw [← ew] at en
        exact (wipe_some en).1
      · intro b hb
        obtain ⟨o, eo, _⟩ := T.obj _ _ st3 b hb
        exact (same b hb o eo).2
    have t2 := pt.run _ s4 σ4 H4 _ I4 q4
    rw [hx] at t2
    refine thnF t2 ?_
    rintro b s5 ⟨H5, I5, q5⟩
    cases b with
    | false => exact back I5 q5
    | true =>
      have t3 := pk.run _ s5 σ4 H5 _ I5 q5
      rw [hx] at t3
      refine thnF t3 ?_
      rintro ky s6 ⟨y, H6, I6, ry, q6⟩
      have t4 := pv.run _ s6 σ4 H6 _ I6 q6
      rw [hx] at t4
      refine thnF t4 ?_
      rintro vy s7 ⟨z, H7, I7, rz, Hn, put, nx⟩
      exact put_dp hu I7 put ry rz fun s8 I8 => back I8 nx
/-- {k: v for .. in .. if ..}, keys tuples -/
def tDq (wi : TI) (g : TG) (tt : TT) (tk tv : TE) (vs : List Nat) : TE := fun σ H Q => wi σ H fun J H1 => ∀ D, H1 D = none →
  ∃ W : Nat → Nat → Hp → Prop, (∃ m, W 0 m (upd H1 D (.dT []))) ∧
    dqWalk J (fun Nx x Ha => dqStep g tt tk tv vs D Nx σ x Ha) (fun Ha => Q (.ref D) Ha) W
/-- the context of the block -/
abbrev Bq (X : Cx) (scope : Scope) (s : Shared) (H : Hp) (C : Addr) (cl : List (Str × Addr)) (fp : List Addr) : Cx :=
  X.blk s H scope (compEnvC scope cl C X.env) fp
theorem pe_dq {X : Cx} {kx vx tg iter : Expr} {ifs : List Expr} {scope : Scope} {own : List (Str × Nat)} {pos : Pos}
    {wi : TI} {g : TG} {tt : TT} {tk tv : TE} (hc : X.calm = true) (hu : X.A.units + 1 < cLine) (hN : X.N.Nodup)
    (hi : PI X tg iter wi) (ok : BlkOk X.N X.env.scope scope own) (hg : ∀ s H C cl fp, PG (Bq X scope s H C cl fp) tg g)
    (ht : ∀ s H C cl fp, PTs (Bq X scope s H C cl fp) ifs tt) (hk : ∀ s H C cl fp, PE (Bq X scope s H C cl fp) kx tk)
    (he : ∀ s H C cl fp, PE (Bq X scope s H C cl fp) vx tv) (hs : ∀ x, foldedSetIterable iter X.env x = pure x := by intro _; rfl) :
    PE X (.DictComp kx vx [⟨tg, iter, ifs, 0⟩] scope pos) (tDq wi g tt tk tv (own.map (·.2))) := by
  constructor
  intro ps s σ H Q I h
  rw [arm_eval_DictComp]
  have look : ∀ y ∈ scope.names, y.2 = .free → ∃ c, X.env.cells.lookup y.1 = some c := by
    intro y hy e
    exact I.ok.has _ (ok.free y hy e)
  refine wpAny_comprehension_free (use := none) rfl hs (closure_ok look) ok.kind (fun y hy e => (ok.uniq y hy).trans (by rw [e])) ?_
  refine thn (hi.run ps s σ H _ I h) ?_
  intro xv s1 h1
  refine thn h1 ?_
  rintro _ s2 ⟨it, fp, tn, J, H2, rfl, I2, T, st2, f2, q⟩
  refine wpAny_newObj_type ?_
  refine newEnv_comp ?_
  obtain ⟨D, hD⟩ : ∃ D, D = s2.heap.objs.size := ⟨_, rfl⟩
  rw [← hD]
  obtain ⟨W, ⟨m0, w0⟩, walk⟩ := q D (I2.hok.fresh (Nat.le_of_eq hD.symm))
  obtain ⟨s3, e3⟩ : ∃ s3 : Shared, s3 = { s2 with heap := s2.heap.push { cls := .type "dict", data := .dict #[] } } := ⟨_, rfl⟩
  have g3 : ∀ b o, s2.heap.get? b = some o → s3.heap.get? b = some o := by
    intro b o e
    rw [e3]
    exact Heap.get?_push_of_some _ (by exact e)
  have I3 : Inv X ps σ (upd H2 D (.dT [])) s3 := by
    rw [e3, hD]
    exact I2.laid (t' := s2.toks) (fun b o e => Heap.get?_push_of_some _ e) (Nat.le_refl _) (dt_empty s2.heap I2.big)
  rw [← e3]
  obtain ⟨H3, eH3⟩ : ∃ H3, H3 = upd H2 D (.dT []) := ⟨_, rfl⟩
  rw [← eH3] at I3 w0
  have f3 : ∀ b ∈ fp, FpOk X ps H3 b ∧ b < s3.heap.objs.size := by
    intro b hb
    obtain ⟨o, e, _⟩ := T.obj 0 _ st2 b hb
    refine ⟨⟨?_, (f2 b hb).2⟩, Heap.lt_size (g3 b o e)⟩
    rw [eH3, upd_ne (by rw [hD]; exact Nat.ne_of_lt (Heap.lt_size e))]
    exact (f2 b hb).1
  have st3 : tn 0 s3.heap := T.keep _ _ _ st2 fun b _ o e => g3 b o e
  have Ib := block_start I3 ok hN f3
  obtain ⟨C, hC⟩ : ∃ C, C = s3.heap.objs.size := ⟨_, rfl⟩
  rw [← hC] at Ib ⊢
  obtain ⟨cl, ecl⟩ : ∃ cl, cl = cellsFrom (C + 1) scope.names (cloFrom X.env.cells scope.names []) := ⟨_, rfl⟩
  rw [← ecl] at Ib ⊢
  have st4 : tn 0 (pushCells (s3.heap.push { cls := .type "dict", data := .dict #[] }) scope.names) := T.keep _ _ _ st3 fun b _ o e =>
    pushCells_keeps _ _ _ _ (Heap.get?_push_of_some _ e)
  have loop : codeAny (model X.prog X.w) X.A
      (.compLoop (.DictComp kx vx [⟨tg, iter, ifs, 0⟩] scope pos) 0 (.ref it) (.ref D) (compEnvC scope cl C X.env))
      (compPost (model X.prog X.w) X.A X.xe none (EP X ps σ Q) (.ref D) C)
      { s3 with heap := pushCells (s3.heap.push { cls := .type "dict", data := .dict #[] }) scope.names } := by
    refine dq_loop (Y := Bq X scope s3 H3 C cl fp) (σ := σ) hc rfl (Nat.lt_of_succ_lt hu) T (hg s3 H3 C cl fp)
      (ht s3 H3 C cl fp) (hk s3 H3 C cl fp) (he s3 H3 C cl fp) ?_ walk ?_ Ib st4 (fun b hb => (f3 b hb).1.1) w0
    · intro σ' H' s' I' nf b hb
      refine ⟨nf b hb, (I'.ok.exf b hb).1, I'.ok.exfs b hb, .inl hb, fun x c e => (I'.ok.exf b hb).2 x c e, ?_⟩
      intro p hp
      exact absurd (show p ∈ ([] : List (Addr × Obj)) ++ [] from hp) (by simp)
    · intro H6 s6 I6 q6
      have I7 : Inv X ps σ H6 s6 := by
        refine I3.call' (ch := fp) I6.os I6.base I6.hok I6.bare ?_
        intro b hb
        obtain ⟨_, n1, _, n2, n3, n4⟩ := (f3 b hb).1
        exact ⟨n2, n1, n3, n4⟩
      obtain ⟨m, hn, _⟩ := I6.loc
      refine ⟨m, hn, fun h' sb => ?_⟩
      obtain ⟨n0, n1, n2, n3, n4, n5⟩ := I3.fpOk (b := C) (Nat.le_of_eq hC.symm) (show H6 C = none from I6.free)
      refine ⟨.ref D, H6, ?_, rfl, q6⟩
      exact I7.turned (t' := s6.toks) (fun b o hb e => (sb.2 b hb).trans e) n0 n1 n3 n4 n5
  exact codeAny_compStart_dict loop (T.self _ 0 _ _ _ st4 loop)
end Wk

set_option Elab.async false
set_option linter.all false
set_option maxRecDepth 100000
set_option maxHeartbeats 2000000
namespace Wk
open L2 PySem PySem.Spec PyProof.Rows Evl
/-- the items that a comprehension has put, item j of the source by Y j -/
def Grown (Y : Nat → V → Hp → Prop) (H : Hp) : List Nat → List V → Prop
  | [], us => us = []
  | j :: js, us => ∃ u r, us = u :: r ∧ Y j u H ∧ Grown Y H js r
def UpY (Y : Nat → V → Hp → Prop) : Prop := ∀ i u H H', Ex H H' → Y i u H → Y i u H'
theorem Grown.up {Y : Nat → V → Hp → Prop} (hY : UpY Y) {H H' : Hp} (e : Ex H H') : ∀ {js : List Nat} {us : List V}, Grown Y H js us → Grown Y H' js us
  | [], _, h => h
  | j :: js, _, ⟨u, r, h1, h2, h3⟩ => ⟨u, r, h1, hY j u H H' e h2, Grown.up hY e h3⟩
theorem Grown.snoc {Y : Nat → V → Hp → Prop} {H : Hp} {j : Nat} {u : V} (h : Y j u H) : ∀ {js : List Nat} {us : List V}, Grown Y H js us → Grown Y H (js ++ [j]) (us ++ [u])
  | [], _, h0 => by
    rw [show _ = [] from h0]
    exact ⟨u, [], rfl, h, rfl⟩
  | k :: js, _, ⟨v, r, h1, h2, h3⟩ => by
    subst h1
    exact ⟨v, r ++ [u], rfl, h2, Grown.snoc h h3⟩
theorem Grown.len {Y : Nat → V → Hp → Prop} {H : Hp} : ∀ {js : List Nat} {us : List V}, Grown Y H js us → us.length = js.length
  | [], _, h0 => by
    rw [show _ = [] from h0]
    rfl
  | k :: js, _, ⟨v, r, h1, h2, h3⟩ => by
    subst h1
    simp [Grown.len h3]
def upTo (f : Nat → Bool) (i : Nat) : List Nat := (List.range i).filter f
theorem upTo_yes {f : Nat → Bool} {i : Nat} (h : f i = true) : upTo f (i + 1) = upTo f i ++ [i] := by
  unfold upTo
  rw [List.range_succ, List.filter_append]
  simp [h]
theorem upTo_no {f : Nat → Bool} {i : Nat} (h : f i = false) : upTo f (i + 1) = upTo f i := by
  unfold upTo
  rw [List.range_succ, List.filter_append]
  simp [h]
theorem upTo_len (f : Nat → Bool) (i : Nat) : (upTo f i).length ≤ i := by
  unfold upTo
  have h := List.length_filter_le f (List.range i)
  rw [List.length_range] at h
  exact h
/-- what is evaluated is told by Y, the heap may grow -/
def EvY (te : TE) (σ : L2.St) (H : Hp) (Y : V → Hp → Prop) : Prop := ∀ H1, Ex H H1 → ∀ Q : VK, (∀ u H2, Ex H1 H2 → Y u H2 → Q u H2) → te σ H1 Q
def off (D : Addr) (H : Hp) : Hp := fun a => if a = D then none else H a
theorem off_ex {D : Addr} {H H' : Hp} (e : Ex H H') : Ex (off D H) (off D H') := fun a o h => by
  unfold off at h ⊢
  by_cases z : a = D
  · rw [if_pos z] at h
    cases h
  · rw [if_neg z] at h ⊢
    exact e a o h
theorem off_in (D : Addr) (H : Hp) : Ex (off D H) H := fun a o h => by
  unfold off at h
  split at h
  · cases h
  · exact h
theorem off_upd {D : Addr} {H : Hp} {o : HO} : off D (upd H D o) = off D H := by
  funext a
  unfold off upd
  split <;> rfl
theorem off_at {D a : Addr} {H : Hp} (h : a ≠ D) : off D H a = H a := by
  unfold off
  rw [if_neg h]
/-- a word of an item that outlives new objects and does not speak of lists -/
structure GoodY (Y : Nat → V → Hp → Prop) : Prop where
  up : UpY Y
  off : ∀ i u H D l, H D = some (.lst l) → Y i u H → Y i u (Wk.off D H)
def Gw (Y : Nat → V → Hp → Prop) (H : Hp) (f : Nat → Bool) (D : Addr) (i : Nat) (H' : Hp) : Prop :=
  H D = none ∧ Ex H H' ∧ ∃ us, H' D = some (.lst us) ∧ Grown Y (off D H') (upTo f i) us
theorem gw_turn {Y : Nat → V → Hp → Prop} (hY : GoodY Y) {H H' : Hp} {f : Nat → Bool} {D : Addr} {i : Nat} {t : TT} {te : TE} {σ2 : L2.St} (p : Gw Y H f D i H') (hi : i < 50000)
    (ht : EvT t σ2 H' (f i)) (he : f i = true → EvY te σ2 H' (Y i)) :
    t σ2 H' fun b H3 => if b = true then te σ2 H3 fun y H4 => ∃ acc, H4 D = some (.lst acc) ∧ acc.length < sizeLine ∧ Gw Y H f D (i + 1) (upd H4 D (.lst (acc ++ [y])))
      else Gw Y H f D (i + 1) H3 := by
  obtain ⟨p1, p2, us, p3, p4⟩ := p
  refine ht H' (Ex.refl _) _ fun H3 e3 => ?_
  cases hf : f i with
  | false =>
    refine ⟨p1, p2.trans e3, us, e3 _ _ p3, ?_⟩
    rw [upTo_no hf]
    exact p4.up hY.up (off_ex e3)
  | true =>
    refine he hf H3 e3 _ fun u H4 e4 y => ?_
    have d4 := e4 _ _ (e3 _ _ p3)
    have l1 := p4.len
    have l2 := upTo_len f i
    refine ⟨us, d4, sz_lt (by omega), p1, Ex.mut ((p2.trans e3).trans e4) p1, us ++ [u], upd_same, ?_⟩
    rw [upTo_yes hf, off_upd]
    exact Grown.snoc (hY.off i u H4 D us d4 y) (p4.up hY.up (off_ex (e3.trans e4)))
/-- a list comprehension whose items may be new objects -/
theorem grow_lc {J : It} {n : Nat} {Gd : Hp → Prop} {Yx : Nat → V → Prop} {Y : Nat → V → Hp → Prop} {j : Nat} {vs : List Nat} {σ : L2.St} {H : Hp} {D : Addr} {Qd : Hp → Prop} {t : TT} {te : TE}
    (w : Walk J n Gd (fun i H x H' => H' = H ∧ Yx i x)) (hY : GoodY Y) (f : Nat → Bool) (hD : H D = none) (hn : n ≤ 40000) (hG : ∀ H', Ex H H' → Gd H') (hw : ∀ x, wipe ((wipe σ vs).set j (some x)) vs = wipe σ vs)
    (ht : ∀ i x H', Ex H H' → i < n → Yx i x → EvT t ((wipe σ vs).set j (some x)) H' (f i)) (he : ∀ i x H', Ex H H' → i < n → Yx i x → f i = true → EvY te ((wipe σ vs).set j (some x)) H' (Y i))
    (hq : ∀ us H', Ex H H' → H' D = some (.lst us) → Grown Y H' (upTo f n) us → Qd H') :
    ∃ W : Nat → Nat → Hp → Prop, (∃ m, W 0 m (upd H D (.lst []))) ∧ ∀ i m H, W i m H →
      (J.stop i H ∧ Qd H) ∨ (J.go i H ∧ ∃ Nx : Hp → Prop, (∀ H', Nx H' → ∃ m', m' < m ∧ W (i + 1) m' H') ∧ ∀ x H', J.yld i H x H' → gName j x (wipe σ vs) H' fun σ2 H2 => wipe σ2 vs = wipe σ vs ∧ t σ2 H2 fun b H3 =>
        if b = true then te σ2 H3 fun y H4 => ∃ acc, H4 D = some (.lst acc) ∧ acc.length < sizeLine ∧ Nx (upd H4 D (.lst (acc ++ [y]))) else Nx H3) := by
  refine lc_it w (Gw Y H f D) ⟨hD, Ex.new hD, [], upd_same, rfl⟩ (fun i H' _ p => hG H' p.2.1) (fun i x H' H2 hi p y => ?_) (fun H' p => ?_)
  · obtain ⟨rfl, yx⟩ := y
    exact ⟨hw x, gw_turn hY p (by omega) (ht i x _ p.2.1 hi yx) (fun hf => he i x _ p.2.1 hi yx hf)⟩
  · obtain ⟨_, e, us, d, g⟩ := p
    exact hq us H' e d (g.up hY.up (off_in D H'))
/-- the keys of a dict are the first i of k, each with True -/
def KHas (k : Nat → List L2.Key) (i : Nat) (kvs : List (List L2.Key × V)) : Prop :=
  ∀ q, (valV kvs q = some (V.bl true) ∧ ∃ j, j < i ∧ k j = q) ∨ (valV kvs q = none ∧ ∀ j, j < i → k j ≠ q)
/-- the keys that a comprehension has put -/
def Kw (k : Nat → List L2.Key) (H : Hp) (D : Addr) (i : Nat) (H' : Hp) : Prop :=
  H D = none ∧ Ex H H' ∧ ∃ kvs, H' D = some (.dT kvs) ∧ kvs.length ≤ i ∧ KHas k i kvs
/-- {x: True for x in ..}, of tuples of whole numbers or texts -/
theorem grow_dq {J : It} {n : Nat} {Gd : Hp → Prop} {Yx : Nat → V → Prop} {k : Nat → List L2.Key} {j : Nat} {vs : List Nat} {σ : L2.St} {H : Hp} {D : Addr} {Qd : Hp → Prop} {tk tv : TE}
    (w : Walk J n Gd (fun i H x H' => H' = H ∧ Yx i x)) (hD : H D = none) (hn : n ≤ 40000) (hG : ∀ H', Ex H H' → Gd H') (hw : ∀ x, wipe ((wipe σ vs).set j (some x)) vs = wipe σ vs)
    (hk : ∀ i x H', Ex H H' → i < n → Yx i x → EvY tk ((wipe σ vs).set j (some x)) H' (fun u H2 => ∃ b, u = .ref b ∧ H2 b = some (.tup ((k i).map kV))))
    (hv : ∀ i x H', Ex H H' → i < n → Yx i x → Ev tv ((wipe σ vs).set j (some x)) H' (.bl true))
    (hq : ∀ kvs H', Ex H H' → H' D = some (.dT kvs) → KHas k n kvs → Qd H') :
    ∃ W : Nat → Nat → Hp → Prop, (∃ m, W 0 m (upd H D (.dT []))) ∧ dqWalk J (fun Nx x Ha => dqStep (gName j) tYes tk tv vs D Nx σ x Ha) Qd W := by
  refine ⟨fun i m H' => m = n - i ∧ i ≤ n ∧ Kw k H D i H', ⟨n, by simp, Nat.zero_le _, hD, Ex.new hD, [], upd_same, Nat.le_refl _, fun q => .inr ⟨rfl, fun j hj => absurd hj (Nat.not_lt_zero _)⟩⟩, ?_⟩
  rintro i m H1 ⟨rfl, hi, p1, p2, kvs, p3, p4, p5⟩
  by_cases lt : i < n
  · refine .inr ⟨w.goes i H1 lt (hG H1 p2), Kw k H D (i + 1), fun Ha q => ⟨n - (i + 1), by omega, rfl, lt, q⟩, fun x Ha y => ?_⟩
    obtain ⟨rfl, yx⟩ := w.yields i H1 x Ha lt (hG H1 p2) y
    refine ⟨hw x, ?_⟩
    show tk _ _ _
    refine hk i x _ p2 lt yx _ (Ex.refl _) _ fun u H2 e2 hu => ?_
    obtain ⟨b, rfl, hb⟩ := hu
    refine hv i x _ p2 lt yx H2 e2 _ fun H3 e3 => ?_
    have d3 := e3 _ _ (e2 _ _ p3)
    refine ⟨_, DPut.t d3 (e3 _ _ hb) (sz_lt (by omega)), p1, Ex.mut ((p2.trans e2).trans e3) p1, _, upd_same, ?_, fun q => ?_⟩
    · have := length_putK kvs (k i) (V.bl true)
      omega
    · rw [valV_put]
      by_cases e : q = k i
      · rw [if_pos e]
        exact .inl ⟨rfl, i, Nat.lt_succ_self i, e.symm⟩
      · rw [if_neg e]
        rcases p5 q with ⟨z, j', h1, h2⟩ | ⟨z, h2⟩
        · exact .inl ⟨z, j', by omega, h2⟩
        · refine .inr ⟨z, fun j' hj => ?_⟩
          rcases Nat.lt_succ_iff_lt_or_eq.mp hj with h3 | h3
          · exact h2 j' h3
          · subst h3
            exact fun z2 => e z2.symm
  · have e : i = n := by omega
    subst e
    exact .inl ⟨w.stops H1 (hG H1 p2), hq kvs H1 p2 p3 p5⟩
end Wk

set_option Elab.async false
set_option linter.all false
set_option maxRecDepth 100000
set_option maxHeartbeats 2000000
namespace Wk
open PySem PySem.Spec PyProof.Rows L2 Evl
/-! several except clauses, each with the same name for what it caught -/
def unAs (i : Nat) (D : Ends) : Ends := { nx := fun σ' H' => D.nx (σ'.set i none) H', rt := D.rt, bk := fun σ' H' => D.bk (σ'.set i none) H', ct := fun σ' H' => D.ct (σ'.set i none) H' }
/-- what these clauses wish of an exception, one behind the other -/
def wClauses (K : PySem.W.Frag) (i : Nat) (Wo : WX) (D : Ends) : List (Value × (Addr → Value → Option Addr → TS)) → WX
  | [] => Wo
  | y :: r => fun cls d σ H => ∃ b, PySem.W.exmOne K cls y.1 = some b ∧ (b = true → ∀ a, H a = none → y.2 a cls d (unAs i D) (σ.set i (some (.ref a))) H) ∧ (b = false → wClauses K i Wo D r cls d σ H)
inductive Clauses (X : Cx) (n : Str) : List ExceptHandler → List (Value × (Addr → Value → Option Addr → TS)) → Prop
  | nil : Clauses X n [] []
  | cons {x : Str} {c : Value} {ts : Addr → Value → Option Addr → TS} {b₀ : Stmt} {su : List Stmt} {np pos' : Pos} {hs : List ExceptHandler} {l : List (Value × (Addr → Value → Option Addr → TS))} (hc : Names X x c)
      (hsu : ∀ (a : Addr) (oe : Obj) (cls : Value) (d : Option Addr) (pn : List (Addr × Obj)), Zc cls d oe → (∃ vs, oe.data = .fields vs) → PSs (X.suite a ((a, oe) :: pn)) (b₀ :: su) (ts a cls d)) (r : Clauses X n hs l) :
      Clauses X n (.ExceptHandler (some (.Name x np)) (some n) (b₀ :: su) pos' :: hs) ((c, ts) :: l)
section
variable {X : Cx} {n : Str} {i : Nat} {body : List Stmt} {h₀ : ExceptHandler} {hds : List ExceptHandler} {l : List (Value × (Addr → Value → Option Addr → TS))} {pos : Pos} {tb : WX → TS} {Wout : WX}
theorem ps_try_clauses (hs : X.stack = X.env :: X.outer) (hf : X.env.frame = some X.env.locals) (hN : X.N.Nodup) (hi : X.N[i]? = some n) (hln : X.env.kindOf n = some .local) (tk : Takes X Wout)
    (hb : ∀ (W : WX) (pn : List (Addr × Obj)) (xe : Value → Shared → Prop), Takes (X.tr pn xe) W → PassesOwn (model X.prog X.w) X.A X.env xe → PSs (X.tr pn xe) body (tb W))
    (hh : Clauses X n (h₀ :: hds) l) : PS X (.Try body (h₀ :: hds) [] [] pos) (fun D σ H => tb (wClauses X.K i Wout D l) D σ H) := by
  refine ⟨fun pins s σ H D I h => ?_⟩
  have ok := I.ok
  have hfr : X.A.frames = some (X.env :: X.outer) := by rw [ok.frames, hs]
  have hloc : Loc X.env.scope n := .inl hln
  refine wpAny_Try_except (wpAny_mono ((hb (wClauses X.K i Wout D l) (X.pn ++ pins) (fun e s₁ => wpAny (model X.prog X.w) X.A (noteFrame e X.env) (fun _ s₂ => wpAny (model X.prog X.w) X.A (setFlight e none) (fun _ s₃ =>
    wpAny (model X.prog X.w) X.A (handleBy e X.env (h₀ :: hds)) (SP X pins D) X.xe s₃) X.xe s₂) X.xe s₁) ?air PassesOwn.looking).run [] s σ H D (I.toTry _) h) ?fine (fun _ _ he => he))
  case fine =>
    intro f s1 hsp
    cases f with
    | next => obtain ⟨σ', H', J', q⟩ := hsp; exact wpAny_execs_nil ⟨σ', H', J'.ofTry ok, q⟩
    | brk => obtain ⟨σ', H', J', q⟩ := hsp; exact ⟨σ', H', J'.ofTry ok, q⟩
    | cont => obtain ⟨σ', H', J', q⟩ := hsp; exact ⟨σ', H', J'.ofTry ok, q⟩
    | ret u => obtain ⟨v, σ', H', J', r, q⟩ := hsp; exact ⟨v, σ', H', J'.ofTry ok, r, q⟩
  case air =>
    intro u s' xx
    obtain ⟨a, B, sI, pins', σ', H', cls, d, rfl, J', nb, up, sky, na, os, ag, w⟩ := xx
    have J : Inv X pins σ' H' sI := J'.ofTry ok
    rw [hs] at sky
    refine Sky.land (L := X.env.locals) Zc.steady hfr hf sky fun h3 fl3 up3 => ?_
    have J3 : Inv X pins σ' H' { s' with heap := h3 } := J.landed nb fl3.1 (up.trans up3) os ag
    obtain ⟨oe3, vs3, he3, hz3, hd3⟩ := fl3.there
    have nfr : a ∉ frs (X.env :: X.outer) := fun hm => by
      obtain ⟨_, o', e', hnf⟩ := fl3.2.2.1.mem hm
      rw [he3] at e'
      cases e'
      exact hnf _ hd3
    have nL : a ≠ X.env.locals := fun z => nfr (List.mem_filterMap.mpr ⟨X.env, List.mem_cons_self, by rw [hf, z]⟩)
    have nF : a ∉ X.fs := fun hm => by
      obtain ⟨e, he, q⟩ := List.mem_filterMap.mp hm
      exact nfr (List.mem_filterMap.mpr ⟨e, List.mem_cons_of_mem _ he, q⟩)
    have S3 := J3.suite he3 hd3 na nL nF
    have go : ∀ {hs' : List ExceptHandler} {l' : List (Value × (Addr → Value → Option Addr → TS))}, Clauses X n hs' l' → wClauses X.K i Wout D l' cls d σ' H' → wpAny (model X.prog X.w) X.A (handleBy (.ref a) X.env hs') (SP X pins D) X.xe { s' with heap := h3 } := by
      intro hs' l' hk
      induction hk with
      | nil =>
        intro w
        refine wpAny_handleBy_nil ?_
        obtain ⟨k1, k2, k3, oe, vs, T, oT, ts', he, hz, hd, h1, hr⟩ := id fl3
        unfold PySem.passOn
        refine wpAny_bind (wpAny_field he hd h1 ?_)
        rw [if_neg (show ¬ ((Value.ref T == Value.none) = true) from by simp)]
        have fin : wpAny (model X.prog X.w) X.A (setFlight (.ref a) X.env.frame) (fun _ s4 => wpAny (model X.prog X.w) X.A (throw (.ref a) : Sem Flow) (SP X pins D) X.xe s4) X.xe { s' with heap := h3 } := by
          rw [hf]
          exact HandSPX.setFlight_upZ fl3 fun h4 hh4 up4 => wpAny_throw (tk _ _ ⟨a, B, sI, pins, σ', H', cls, d, rfl, J, nb, (up.trans up3).trans up4, .inr (.inr (by rw [hs]; exact hh4)), na, os, ag, w⟩)
        first
          | exact wpAny_bind (wpAny_pure (wpAny_bind fin))
          | exact wpAny_bind fin
      | @cons x c ts b₀ su np pos' hs2 l2 hc hsu r ih =>
        intro w
        obtain ⟨b, hb1, hyes, hno⟩ := w
        refine wpAny_handleBy_cons (codeAny_handlers_test ?_) (by intro q; cases q)
        have LM := PySem.W.exm_one (M := model X.prog X.w) (J3.kIn) (fun A Q E s k q => wpAny_typeOf_ref (k _ _ he3) (by rw [hz3.1]; exact q)) hb1
        have test : ∀ {Q E : Value → Shared → Prop}, Q c { s' with heap := h3 } → wpAny (model X.prog X.w) (X.A.mark (some (.ref a))) (eval (.Name x np) X.env) Q E { s' with heap := h3 } := fun {Q E} q => by
          obtain ⟨hg, hdbg, hm | ⟨hm, hv, hnn⟩⟩ := hc
          · exact ld_glob (X := X.suite a ((a, oe3) :: (X.pn ++ pins))) S3 hg hm q hdbg
          · exact ld_blt (X := X.suite a ((a, oe3) :: (X.pn ++ pins))) S3 hg hm hv q hnn hdbg
        refine test (LM.here ?_)
        cases b with
        | false => exact ih (hno rfl)
        | true =>
          refine codeAny_handlers_suite_as (HandSPX.lands_againZ fl3 fun h4 fl4 up4 => ?_)
          have J4 : Inv X pins σ' H' { s' with heap := h4 } := J.landed nb fl4.1 ((up.trans up3).trans up4) os ag
          obtain ⟨oe4, vs4, he4, hz4, hd4⟩ := fl4.there
          have S4 := J4.suite he4 hd4 na nL nF
          refine store_ok (X := X.suite a ((a, oe4) :: (X.pn ++ pins))) (v := .ref a) S4 hN hi hloc rfl (fun s5 S5 => ?_) (.inr hln)
          refine wpAny_mono ((hsu a oe4 cls d (X.pn ++ pins) hz4 ⟨_, hd4⟩).run [] s5 _ H' _ S5 (hyes rfl a na)) (fun f s6 hsp => ?_) (fun _ _ z => False.elim z)
          cases f with
          | next => obtain ⟨σ6, H6, S6, q6⟩ := hsp; exact gone_ok (S6.unsuite ok) hN hi hln fun s7 J7 => ⟨_, _, J7, q6⟩
          | brk => obtain ⟨σ6, H6, S6, q6⟩ := hsp; exact gone_ok (S6.unsuite ok) hN hi hln fun s7 J7 => ⟨_, _, J7, q6⟩
          | cont => obtain ⟨σ6, H6, S6, q6⟩ := hsp; exact gone_ok (S6.unsuite ok) hN hi hln fun s7 J7 => ⟨_, _, J7, q6⟩
          | ret u => obtain ⟨v6, σ6, H6, S6, r6, q6⟩ := hsp; exact gone_ok (S6.unsuite ok) hN hi hln fun s7 J7 => ⟨_, _, _, J7, r6, q6⟩
    exact go hh w
end
end Wk

set_option Elab.async false
set_option linter.all false
set_option maxRecDepth 100000
set_option maxHeartbeats 4000000
namespace Wk
open PySem PySem.Spec PyProof.Rows L2 Evl
/-- an error class without a field -/
structure ErrN (K : PySem.W.Frag) (mg : Str → Option Value) (x : Str) (C : Addr) : Prop where
  g : mg x = some (.ref C)
  q : PySem.W.excIn K C [.type "ValueError", .type "Exception", .type "BaseException", .type "object"] "ValueError.__new__" = true
  k : PySem.W.keepIn K (.ref C) = true
  b : PySem.W.subIn K (.ref C) (.type "BaseException") = some true
  t : PySem.W.typeIn K (.ref C) = some (.type "type")
theorem pmk_errN {X : Cx} {K : PySem.W.Frag} {mg : Str → Option Value} {x : Str} {C : Addr} {p pos : Pos} (hK : X.K = K) (hm : X.mg = mg) (T : ErrN K mg x C) (hg : Gl X x) (hdb : (x == ("__debug__" : Str)) = false := by decide) :
    PMk X (.Call (.Name x p) [] [] pos) (fun _ H Q => Q (.ref C) none H) := by
  subst hK hm
  intro ps s σ H Q I h
  refine wpAny_Call_Name_kw (ld_glob I hg T.g ?_ hdb)
  refine PySem.W.callWith_K0 I.kIn T.k ?_
  show wpAny _ _ (call (.ref C) []) _ _ _
  obtain ⟨bm, N, nm, qn, bs, hdct, sn, sub, ab, col, dd, k0, k1, k2, k3, k5, mN, hC, hN, hni, T2⟩ := exc_obj I.kIn T.q
  refine wpAny_call_exc_subT PySem.F.excBase_ValueError T2 hC hN hni (fun h' e hm => ?_) (Nat.zero_le _)
  exact mk_of I hm (raises_own T.b T.t) h (I.hok.gone hm.new)
structure CalX (P : Program) (w : World) (K : PySem.W.Frag) (mg : Str → Option Value) (base : Heap) (x : Str) (ps : List Str) (k : Nat) (sp : Sp) : Prop where
  ex : ∃ (f : Addr) (fd : FuncData), FnOk P w K mg base (L2.CX P w) k f fd ps sp ∧ mg x = some (.ref f) ∧ PySem.W.keepIn K (.ref f) = true ∧ Binds K fd ps []
def isStr : PyData → Bool
  | .str _ => true
  | _ => false
theorem kit_str (d : PyData) : kitB (tyN d) "str" = some (isStr d) := by
  cases d with
  | none => exact show kitB "NoneType" "str" = some false by decide +kernel
  | bool b => exact show kitB "bool" "str" = some false by decide +kernel
  | int i => exact show kitB "int" "str" = some false by decide +kernel
  | str z => exact show kitB "str" "str" = some true by decide +kernel
  | list ds => exact show kitB "list" "str" = some false by decide +kernel
  | tuple ds => exact show kitB "tuple" "str" = some false by decide +kernel
  | dict ds => exact show kitB "dict" "str" = some false by decide +kernel
theorem tu_inv {H : Hp} {v : V} {d : PyData} (hd : Dq H v d) (h : isTu d = true) : ∃ (a : Addr) (xs : List V) (ds : List PyData), v = .ref a ∧ d = .tuple ds ∧ H a = some (.tup xs) ∧ DqA H xs ds := by
  cases hd <;> first | (cases h; done) | skip
  rename_i a xs ds h1 h2
  exact ⟨a, xs, ds, rfl, rfl, h1, h2⟩
theorem pss_when {X : Cx} {l : List Stmt} {t : TS} {c : Prop} (h : c → PSs X l t) : PSs X l (fun D σ H => c ∧ t D σ H) := ⟨fun pins s σ H D I hh => (h hh.1).run pins s σ H D I hh.2⟩
theorem call_isiK {X : Cx} {K : PySem.W.Frag} (hK : X.K = K) : CallR X (.builtin "isinstance") (rIsi K) := by
  subst hK
  exact call_isi
theorem call_isEK {X : Cx} {K : PySem.W.Frag} {a D : Addr} {oe : Obj} {pn : List (Addr × Obj)} (hK : X.K = K) (C : ExcC K D) (hz : Zc (.ref D) none oe) (hf : ∃ vs, oe.data = .fields vs) : CallR (X.suite a ((a, oe) :: pn)) (.builtin "isinstance") (rIsE K D a) := by
  subst hK
  exact call_isE C hz hf
theorem all_bad {f : PyData → Bool} {l : List PyData} (h : ∃ x, x ∈ l ∧ f x = false) : l.all f = false := by
  obtain ⟨x, hx, hf⟩ := h
  cases hc : l.all f with
  | false => rfl
  | true =>
    rw [List.all_eq_true.mp hc x hx] at hf
    cases hf
/-- a method that may raise -/
structure MskX (P : Program) (w : World) (K : PySem.W.Frag) (mg : Str → Option Value) (base : Heap) (CS : Addr) (m : Str) (ps : List Str) (n : Nat) (sp : Sp) : Prop where
  ex : ∃ (fM : Addr) (fd : FuncData), Meth K CS m fM ∧ FnOk P w K mg base (L2.CX P w) n fM fd ps sp ∧ Binds K fd ps []
def W0 : WX := fun _ _ _ _ => False
end Wk

set_option Elab.async false
set_option linter.all false
set_option maxRecDepth 100000
set_option maxHeartbeats 2000000
namespace Wk
open PySem PySem.Spec PyProof.Rows L2 Evl
/-! the pool: a dict of two lists and three numbers -/
abbrev kC : L2.Key := .inr "cells"
abbrev kG : L2.Key := .inr "great"
abbrev kH : L2.Key := .inr "held"
abbrev kS : L2.Key := .inr "state"
abbrev kM : L2.Key := .inr "many"
abbrev plV (c g : Addr) (h s m : Int) : List (L2.Key × V) := [(kC, .ref c), (kG, .ref g), (kH, .int h), (kS, .int s), (kM, .int m)]
theorem pl_c {c g : Addr} {h s m : Int} : valV (plV c g h s m) kC = some (.ref c) := valV_pos rfl
theorem pl_g {c g : Addr} {h s m : Int} : valV (plV c g h s m) kG = some (.ref g) := by
  rw [valV_neg (show ¬ kC = kG by decide +kernel)]
  exact valV_pos rfl
theorem pl_h {c g : Addr} {h s m : Int} : valV (plV c g h s m) kH = some (.int h) := by
  rw [valV_neg (show ¬ kC = kH by decide +kernel), valV_neg (show ¬ kG = kH by decide +kernel)]
  exact valV_pos rfl
theorem pl_s {c g : Addr} {h s m : Int} : valV (plV c g h s m) kS = some (.int s) := by
  rw [valV_neg (show ¬ kC = kS by decide +kernel), valV_neg (show ¬ kG = kS by decide +kernel), valV_neg (show ¬ kH = kS by decide +kernel)]
  exact valV_pos rfl
theorem pl_m {c g : Addr} {h s m : Int} : valV (plV c g h s m) kM = some (.int m) := by
  rw [valV_neg (show ¬ kC = kM by decide +kernel), valV_neg (show ¬ kG = kM by decide +kernel), valV_neg (show ¬ kH = kM by decide +kernel), valV_neg (show ¬ kS = kM by decide +kernel)]
  exact valV_pos rfl
theorem ne_ch : ¬ kC = kH := by decide +kernel
theorem ne_gh : ¬ kG = kH := by decide +kernel
theorem ne_sh : ¬ kS = kH := by decide +kernel
theorem ne_mh : ¬ kM = kH := by decide +kernel
theorem ne_cs : ¬ kC = kS := by decide +kernel
theorem ne_gs : ¬ kG = kS := by decide +kernel
theorem ne_hs : ¬ kH = kS := by decide +kernel
theorem ne_ms : ¬ kM = kS := by decide +kernel
theorem ne_cm : ¬ kC = kM := by decide +kernel
theorem ne_gm : ¬ kG = kM := by decide +kernel
theorem ne_hm : ¬ kH = kM := by decide +kernel
theorem ne_sm : ¬ kS = kM := by decide +kernel
theorem put_h {c g : Addr} {h s m x : Int} : putK (plV c g h s m) kH (.int x) = plV c g x s m := by
  simp only [putK, plV, List.any_cons, List.map_cons, List.map_nil, List.any_nil, if_neg ne_ch, if_neg ne_gh, if_neg ne_sh, if_neg ne_mh, decide_true, Bool.true_or, Bool.or_true, if_true]
theorem put_s {c g : Addr} {h s m x : Int} : putK (plV c g h s m) kS (.int x) = plV c g h x m := by
  simp only [putK, plV, List.any_cons, List.map_cons, List.map_nil, List.any_nil, if_neg ne_cs, if_neg ne_gs, if_neg ne_hs, if_neg ne_ms, decide_true, Bool.true_or, Bool.or_true, if_true]
theorem put_m {c g : Addr} {h s m x : Int} : putK (plV c g h s m) kM (.int x) = plV c g h s x := by
  simp only [putK, plV, List.any_cons, List.map_cons, List.map_nil, List.any_nil, if_neg ne_cm, if_neg ne_gm, if_neg ne_hm, if_neg ne_sm, decide_true, Bool.true_or, Bool.or_true, if_true]
/-- the pool is the dict at p, its list of great ones at g, its cells at c, which stay; G is what stays -/
structure Pq (G H : Hp) (p g c : Addr) : Prop where
  ex : Ex G H
  gp : G p = none
  gg : G g = none
  ne : p ≠ g
  at_ : ∃ (cs gs : List Int) (h s m : Int), G c = some (.lst (cs.map V.int)) ∧ 1 ≤ cs.length ∧ cs.length ≤ 64 ∧ H p = some (.dK (plV c g h s m)) ∧ H g = some (.lst (gs.map V.int)) ∧ (∀ x ∈ gs, 0 ≤ x) ∧ gs.length ≤ 63 ∧ 0 ≤ h ∧ 0 ≤ m
def Of2 (p g : Addr) (H H' : Hp) : Prop := ∀ b o, b ≠ p → b ≠ g → H b = some o → H' b = some o
theorem Of2.refl (p g : Addr) (H : Hp) : Of2 p g H H := fun _ _ _ _ h => h
theorem Of2.trans {p g : Addr} {H H1 H2 : Hp} (a : Of2 p g H H1) (b : Of2 p g H1 H2) : Of2 p g H H2 := fun c o h1 h2 h => b c o h1 h2 (a c o h1 h2 h)
theorem Of2.ex {p g : Addr} {H H1 : Hp} (e : Ex H H1) : Of2 p g H H1 := fun c o _ _ h => e c o h
section
variable {G H : Hp} {p g c : Addr}
theorem Pq.p_at (h : Pq G H p g c) : ∃ o, H p = some o := by
  obtain ⟨_, _, _, _, _, _, _, _, h1, _⟩ := h.at_
  exact ⟨_, h1⟩
theorem Pq.g_at (h : Pq G H p g c) : ∃ o, H g = some o := by
  obtain ⟨_, _, _, _, _, _, _, _, _, h1, _⟩ := h.at_
  exact ⟨_, h1⟩
theorem Pq.np (h : Pq G H p g c) {a : Addr} (ha : H a = none) : a ≠ p := fun z => by
  obtain ⟨o, h1⟩ := h.p_at
  rw [z, h1] at ha
  cases ha
theorem Pq.ng (h : Pq G H p g c) {a : Addr} (ha : H a = none) : a ≠ g := fun z => by
  obtain ⟨o, h1⟩ := h.g_at
  rw [z, h1] at ha
  cases ha
theorem Pq.ext (h : Pq G H p g c) {H' : Hp} (e : Ex H H') : Pq G H' p g c := by
  obtain ⟨cs, gs, a, s, m, h1, h2, h3, h4, h5, r⟩ := h.at_
  exact ⟨h.ex.trans e, h.gp, h.gg, h.ne, cs, gs, a, s, m, h1, h2, h3, e _ _ h4, e _ _ h5, r⟩
theorem Pq.new (h : Pq G H p g c) {a : Addr} {o : HO} (ha : H a = none) : Pq (upd G a o) (upd H a o) p g c := by
  obtain ⟨cs, gs, k, s, m, h1, h2, h3, h4, h5, r⟩ := h.at_
  have ga := fresh_back h.ex ha
  have np := h.np ha
  have ng := h.ng ha
  refine ⟨fun b u hb => ?_, by rw [upd_ne (Ne.symm np)]; exact h.gp, by rw [upd_ne (Ne.symm ng)]; exact h.gg, h.ne, cs, gs, k, s, m, (Ex.new ga) _ _ h1, h2, h3, (Ex.new ha) _ _ h4, (Ex.new ha) _ _ h5, r⟩
  by_cases c : b = a
  · rw [c, upd_same] at hb ⊢
    exact hb
  · rw [upd_ne c] at hb ⊢
    exact h.ex _ _ hb
theorem Pq.mut (h : Pq G H p g c) {a : Addr} {o : HO} (ga : G a = none) (np : a ≠ p) (ng : a ≠ g) : Pq G (upd H a o) p g c := by
  obtain ⟨cs, gs, k, s, m, h1, h2, h3, h4, h5, r⟩ := h.at_
  exact ⟨Ex.mut h.ex ga, h.gp, h.gg, h.ne, cs, gs, k, s, m, h1, h2, h3, by rw [upd_ne (Ne.symm np)]; exact h4, by rw [upd_ne (Ne.symm ng)]; exact h5, r⟩
theorem Pq.hold (h : Pq G H p g c) {a : Addr} {o : HO} (ha : H a = some o) (np : a ≠ p) (ng : a ≠ g) (ga : G a = none) : Pq (upd G a o) H p g c := by
  obtain ⟨cs, gs, k, s, m, h1, h2, h3, r⟩ := h.at_
  refine ⟨fun b u hb => ?_, by rw [upd_ne (Ne.symm np)]; exact h.gp, by rw [upd_ne (Ne.symm ng)]; exact h.gg, h.ne, cs, gs, k, s, m, (Ex.new ga) _ _ h1, h2, h3, r⟩
  by_cases c : b = a
  · rw [c, upd_same] at hb
    cases hb
    rw [c]
    exact ha
  · rw [upd_ne c] at hb
    exact h.ex _ _ hb
end
open Classical in
noncomputable def Hd2 (H : Hp) (p g : Addr) : Hp := fun b => if b = p ∨ b = g then none else H b
theorem hd2_at {H : Hp} {p g b : Addr} (hp : b ≠ p) (hg : b ≠ g) : Hd2 H p g b = H b := by
  unfold Hd2
  rw [if_neg (fun z => z.elim hp hg)]
section
variable {G H : Hp} {p g c : Addr}
theorem Pq.sub (h : Pq G H p g c) : Ex G (Hd2 H p g) := fun b o hb => by
  have hp : b ≠ p := fun z => by rw [z, h.gp] at hb; cases hb
  have hg : b ≠ g := fun z => by rw [z, h.gg] at hb; cases hb
  rw [hd2_at hp hg]
  exact h.ex _ _ hb
theorem Pq.hd (h : Pq G H p g c) : Pq (Hd2 H p g) H p g c := by
  obtain ⟨cs, gs, k, s, m, h1, r⟩ := h.at_
  refine ⟨fun b o hb => ?_, by unfold Hd2; rw [if_pos (Or.inl rfl)], by unfold Hd2; rw [if_pos (Or.inr rfl)], h.ne, cs, gs, k, s, m, h.sub _ _ h1, r⟩
  unfold Hd2 at hb
  split at hb
  · cases hb
  · exact hb
theorem Pq.off {H' : Hp} (h : Pq (Hd2 H p g) H' p g c) : Of2 p g H H' := fun b o hp hg hb => h.ex b o (by rw [hd2_at hp hg]; exact hb)
theorem Pq.back {H' : Hp} (h0 : Pq G H p g c) (h : Pq (Hd2 H p g) H' p g c) : Pq G H' p g c := by
  obtain ⟨cs, gs, k, s, m, h1, h2, h3, r⟩ := h.at_
  obtain ⟨cs0, _, _, _, _, g1, g2, g3, _⟩ := h0.at_
  exact ⟨h0.sub.trans h.ex, h0.gp, h0.gg, h0.ne, cs0, gs, k, s, m, g1, g2, g3, r⟩
end
/-! what stays grows by new things only -/
structure Gq (p g c : Addr) (G H G' H' : Hp) : Prop where
  ex : Ex G G'
  nw : ∀ b, G b = none → H b ≠ none → G' b = none
  off : Of2 p g H H'
  pl : Pq G' H' p g c
section
variable {p g c : Addr}
theorem Gq.refl {G H : Hp} (h : Pq G H p g c) : Gq p g c G H G H := ⟨Ex.refl _, fun _ h _ => h, Of2.refl _ _ _, h⟩
theorem Gq.trans {G H G1 H1 G2 H2 : Hp} (a : Gq p g c G H G1 H1) (b : Gq p g c G1 H1 G2 H2) : Gq p g c G H G2 H2 := by
  refine ⟨a.ex.trans b.ex, fun x hc hh => ?_, a.off.trans b.off, b.pl⟩
  by_cases cp : x = p
  · rw [cp]; exact b.pl.gp
  by_cases cg : x = g
  · rw [cg]; exact b.pl.gg
  refine b.nw x (a.nw x hc hh) ?_
  cases hx : H x with
  | none => exact absurd hx hh
  | some o => rw [a.off x o cp cg hx]; simp
theorem Gq.new {t : Addr} {G H : Hp} {o : HO} (h : Pq G H p g c) (ht : H t = none) : Gq p g c G H (upd G t o) (upd H t o) := by
  refine ⟨Ex.new (fresh_back h.ex ht), fun b hb hh => ?_, Of2.ex (Ex.new ht), h.new ht⟩
  have nb : b ≠ t := fun z => hh (by rw [z]; exact ht)
  rw [upd_ne nb]
  exact hb
theorem Gq.ext {G H H' : Hp} (h : Pq G H p g c) (e : Ex H H') : Gq p g c G H G H' := ⟨Ex.refl _, fun _ h _ => h, Of2.ex e, h.ext e⟩
theorem Gq.draw {G H H' : Hp} (h : Pq G H p g c) (h' : Pq (Hd2 H p g) H' p g c) : Gq p g c G H G H' := ⟨Ex.refl _, fun _ h _ => h, h'.off, h.back h'⟩
end
end Wk

set_option Elab.async false
set_option linter.all false
set_option maxRecDepth 100000
set_option maxHeartbeats 4000000
namespace Wk
open PySem PySem.Spec PyProof.Rows L2 Evl
theorem rng_getD (ns : List Int) : (List.range ns.length).map (fun i => V.int (ns.getD i 0)) = ns.map V.int := by
  apply List.ext_getElem
  · simp
  · intro i h1 h2
    have h3 : i < ns.length := by simpa using h1
    simp [List.getD_eq_getElem?_getD, List.getElem?_eq_getElem h3]
theorem given_yesAll (n : Nat) (v : Nat → V) : given n (fun _ => true) v = (List.range n).map v := by
  unfold given
  rw [List.filter_eq_self.mpr fun _ _ => rfl]
theorem cut_all {ns : List Int} (h : ns.length ≤ 63) : cutV (ns.map V.int) none (some 63) = ns.map V.int := by
  unfold cutV
  rw [HT.sIx_none, show ((63 : Int)) = ((63 : Nat) : Int) from rfl, HT.sIx_nat, List.length_map, Nat.min_eq_right h]
  simp
  exact List.take_of_length_le (by simp)
theorem getD_at {ns : List Int} {i : Nat} {x : V} (hx : (ns.map V.int)[i]? = some x) : x = .int (ns.getD i 0) := by
  rw [List.getElem?_map] at hx
  cases hn : ns[i]? with
  | none => rw [hn] at hx; cases hx
  | some n =>
    rw [hn] at hx
    rw [show ns.getD i 0 = n by rw [List.getD_eq_getElem?_getD, hn]; rfl]
    exact (Option.some.inj hx).symm
theorem mergeK_new : ∀ (more acc : List (L2.Key × V)), ((acc ++ more).map Prod.fst).Nodup → mergeK acc more = acc ++ more
  | [], acc, _ => by rw [List.append_nil]; rfl
  | p :: r, acc, h => by
    have hn : valV acc p.1 = none := by
      cases hv : valV acc p.1 with
      | none => rfl
      | some v =>
        exfalso
        have hm : p.1 ∈ acc.map Prod.fst := by
          clear h
          induction acc with
          | nil => cases hv
          | cons q s ih =>
            by_cases c : q.1 = p.1
            · rw [List.map_cons, c]; exact List.mem_cons_self
            · obtain ⟨a, b⟩ := q
              rw [valV_neg c] at hv
              exact List.mem_cons_of_mem _ (ih hv)
        rw [List.map_append, List.nodup_append] at h
        exact h.2.2 _ hm _ (by rw [List.map_cons]; exact List.mem_cons_self) rfl
    show mergeK (putK acc p.1 p.2) r = _
    rw [putK_new p.2 hn]
    have e : acc ++ [(p.1, p.2)] ++ r = acc ++ p :: r := by simp
    rw [← e]
    exact mergeK_new r _ (by rw [e]; exact h)
theorem merge_pl {c g : Addr} {h s m : Int} : mergeK [] (plV c g h s m) = plV c g h s m := by
  have z := mergeK_new (plV c g h s m) [] (show [kC, kG, kH, kS, kM].Nodup by decide +kernel)
  rw [List.nil_append] at z
  exact z
def absI (i : Int) : Int := if i < 0 then -i else i
theorem absI_nn (i : Int) : 0 ≤ absI i := by unfold absI; split <;> omega
section
variable {P : Program} {w : World} {K : PySem.W.Frag} {mg : Str → Option Value} {base : Heap} {f : Addr} {fd : FuncData}
/-! _law_pool -/
def spPool (K : PySem.W.Frag) : Sp := fun vs H Q _ => ∃ (a : Addr) (ns : List Int), vs = [.ref a] ∧ SqL K H a (ns.map V.int) ∧ ns.length ≤ 63 ∧ ∀ G H' p g c, Ex H G → Pq G H' p g c → Q (.ref p) H'
abbrev sPool : Stmt := top 24
abbrev nPool : List Str := ["_law_script", "_law_cells", "_law_great", "_law_state", "_law_cell"]
theorem scPool : FnScope nPool ["_law_script"] (defScope sPool) := ⟨rfl, rfl, rfl, by decide +kernel, rfl, by decide +kernel, by decide +kernel⟩
theorem ok_pool (B : Bl mg) (F : FnP K "_law_pool" sPool f fd) : FnOk P w K mg base CX0 1 f fd ["_law_script"] (spPool K) := by
  refine F.ok scPool (fun vs H Q E h => ?_) (fun cdv A outer s H vs Q E hr h => ?_)
  · obtain ⟨a, ns, rfl, _⟩ := h
    rfl
  · obtain ⟨a, ns, rfl, hs, hl, k⟩ := h
    refine ⟨_, pss_cons (ps_setLc (i := 1) (own := [("_law_cell", 4)]) (g := gName 4) (tt := tYes) rfl scPool.nd rfl rfl (sw_true rfl rfl rfl (by decide +kernel)) (pi_list (pe_slice sl_list (pv 0) po_none (po_some pe_int))) (blkOk_by (N := nPool) (sc := defScope sPool) (by decide +kernel))
          (fun _ _ _ _ _ => pg_name (i := 4) scPool.nd rfl (Or.inl rfl)) (fun _ _ _ _ _ => pts_nil)
          (fun _ _ _ _ _ => pe_callTy call_int1 (by rfl) B.int PyProof.Rows.boot_int (pa_cons (pv 4) pa_nil)))
      (pss_cons (ps_setLc (i := 2) (own := [("_law_cell", 4)]) (g := gName 4) rfl scPool.nd rfl rfl (sw_true rfl rfl rfl (by decide +kernel)) (pi_list (pv 1)) (blkOk_by (N := nPool) (sc := defScope sPool) (by decide +kernel))
          (fun _ _ _ _ _ => pg_name (i := 4) scPool.nd rfl (Or.inl rfl)) (fun _ _ _ _ _ => pts_one (pt_cmpR op_ge (pe_callB call_abs (by rfl) B.abs boot_abs (pa_cons (pv 4) pa_nil)) (pe_op op_pow pe_int pe_int) (nomark _)))
          (fun _ _ _ _ _ => pe_callB call_abs (by rfl) B.abs boot_abs (pa_cons (pv 4) pa_nil)))
      (pss_cons (ps_set (i := 3) scPool.nd rfl (Or.inl rfl) pe_int)
      (pss_cons (ps_for (passes_of rfl) rfl (pi_list (pv 1)) (pg_name (i := 4) scPool.nd rfl (Or.inl rfl))
          (pss_one (ps_set (i := 3) scPool.nd rfl (Or.inl rfl) (pe_op op_mod (pe_callTy call_int1 (by rfl) B.int PyProof.Rows.boot_int (pa_cons (pe_op op_add (pe_op op_add (pe_op op_mul (pv 3) pe_int) (pe_op op_mod (pv 4) pe_int)) pe_int) pa_nil)) pe_int))))
      (pss_one (ps_ret (pe_disp (pps_cons pe_str (pe_op op_cat (pv 1) (pe_lst (pa_cons (pe_callB call_len_seq (by rfl) B.len PySem.boot_len (pa_cons (pv 1) pa_nil)) pa_nil)))
          (pps_cons pe_str (pv 2) (pps_cons pe_str pe_int (pps_cons pe_str (pv 3) (pps_cons pe_str pe_int pps_nil))))) rfl rfl (by simp) (by decide))))))), ?_⟩
    have hsl : EvL (tSl (rSlL K) (tVar 0) tNoPart (tPart (tC (.int 63)))) (wipe (start nPool [V.ref a]) [4]) H (ns.map V.int) := by
      have q := el_sl (K := K) (te := tVar 0) (σ := wipe (start nPool [V.ref a]) [4]) (H := H) (ev_var rfl) eo_none (eo_some (i := 63) ev_c) hs
      rw [cut_all hl] at q
      exact q
    have hlc := el_lcNL (K := K) (σ := start nPool [V.ref a]) (H := H) (j := 4) (vs := [4]) (te := tCB (fun xs H Q => (∃ i, xs = [.int i] ∧ Q (.int i) H) ∨ ∃ k, xs = [.bl k] ∧ Q (.int (if k then 1 else 0)) H) (tCons (tVar 4) tNil)) (t := tYes) (fun _ => true) (fun i => V.int (ns.getD i 0)) hsl (by rw [List.length_map]; omega) (fun x => rfl) (fun _ _ _ _ _ => et_yes) (fun i x H1 e hx _ => by
      rw [getD_at hx]
      exact ev_cb (ea_cons (ev_var rfl) ea_nil) fun H2 e2 Q2 q => .inl ⟨_, rfl, q H2 (Ex.refl H2)⟩)
    rw [given_yesAll, List.length_map, rng_getD] at hlc
    refine q_asgL hlc fun c H1 hc e1 hc1 => ?_
    refine q_asgL (el_lcL (K := K) (a := c) (xs := ns.map V.int) (fun i => decide ((10 : Int) ^ (18 : Int).toNat ≤ absI (ns.getD i 0))) (fun i => V.int (absI (ns.getD i 0))) (ev_var rfl) (sq_of hc1) (by rw [List.length_map]; omega) (fun x => rfl) (fun i x H2 e2 hx => by
      rw [getD_at hx]
      exact et_test fun H7 e7 Q7 q7 => ⟨_, rfl, _, rfl, 10, 18, rfl, rfl, ⟨by decide, by decide, by decide⟩, _, _, rfl, rfl, q7 H7 (Ex.refl _)⟩) (fun i x H2 e2 hx _ => by
      rw [getD_at hx]
      exact fun H7 e7 Q7 q7 => ⟨_, rfl, _, rfl, q7 H7 (Ex.refl _)⟩)) fun g H2 hg e2 hg2 => ?_
    have hgs : ∃ gs : List Int, H2 g = some (.lst (gs.map V.int)) ∧ (∀ x ∈ gs, 0 ≤ x) ∧ gs.length ≤ 63 := by
      refine ⟨(((List.range (ns.map V.int).length).filter fun i => decide ((10 : Int) ^ (18 : Int).toNat ≤ absI (ns.getD i 0)))).map fun i => absI (ns.getD i 0), ?_, ?_, ?_⟩
      · rw [hg2]
        unfold given
        rw [List.map_map]
        rfl
      · intro x hx
        rw [List.mem_map] at hx
        obtain ⟨i, _, rfl⟩ := hx
        exact absI_nn _
      · rw [List.length_map]
        have z := List.length_filter_le (fun i => decide ((10 : Int) ^ (18 : Int).toNat ≤ absI (ns.getD i 0))) (List.range (ns.map V.int).length)
        rw [List.length_range, List.length_map] at z
        rw [List.length_map]
        omega
    obtain ⟨gs, hgs1, hgs2, hgs3⟩ := hgs
    refine q_c ?_
    refine q_forLn (a := c) (xs := ns.map V.int) (K := K) (ev_var rfl) (sq_of (e2 _ _ hc1)) (fun i σ' H' => ∃ (s : Int) (o : Option V), σ' = [some (.ref a), some (.ref c), some (.ref g), some (.int s), o] ∧ Ex H2 H') (fun H3 e3 => ⟨20011, _, rfl, e3⟩) (fun i σ' H' _ h => by
      obtain ⟨_, _, _, e⟩ := h
      exact sq_of (e _ _ (e2 _ _ hc1))) (fun i x σ' H' hx h => ?_) (fun σ' H' h => ?_)
    · obtain ⟨s, o, rfl, e⟩ := h
      rw [getD_at hx]
      exact ⟨.int s, rfl, s, 48271, rfl, rfl, .inr ⟨by decide, by decide⟩, .int (ns.getD i 0), rfl, _, 2147483629, rfl, rfl, (show (0 : Int) < 2147483629 by decide), _, _, rfl, rfl, _, 1, rfl, rfl, .inl ⟨_, rfl, _, 2147483647, rfl, rfl, (show (0 : Int) < 2147483647 by decide), _, _, rfl, e⟩⟩
    · obtain ⟨s, o, rfl, e⟩ := h
      intro p hp
      have e3 := Ex.new (o := .dK []) hp
      have hc3 := e3 _ _ (e _ _ (e2 _ _ hc1))
      have hg3 := e3 _ _ (e _ _ hgs1)
      have hp3 : (upd H' p (.dK [])) p = some (.dK []) := upd_same
      generalize upd H' p (.dK []) = H3 at *
      refine ⟨.ref c, rfl, .ref c, rfl, ⟨c, _, rfl, .inl (sq_of hc3), by show 1 ≤ sizeLine; decide, fun l hl3 => ?_⟩⟩
      have e4 := Ex.new (o := .lst [V.int ((ns.map V.int).length : Int)]) hl3
      have hc4 := e4 _ _ hc3
      have hg4 := e4 _ _ hg3
      have hp4 := e4 _ _ hp3
      have hl4 : (upd H3 l (.lst [V.int ((ns.map V.int).length : Int)])) l = some (.lst [V.int ((ns.map V.int).length : Int)]) := upd_same
      generalize upd H3 l (.lst [V.int ((ns.map V.int).length : Int)]) = H4 at *
      refine ⟨c, l, _, _, rfl, rfl, hc4, hl4, by rw [List.length_map]; exact sz_of (by simp; omega), fun c' hc' => ?_⟩
      have e5 := Ex.new (o := .lst (ns.map V.int ++ [V.int ((ns.map V.int).length : Int)])) hc'
      have hg5 := e5 _ _ hg4
      have hp5 := e5 _ _ hp4
      have hc5 : (upd H4 c' (.lst (ns.map V.int ++ [V.int ((ns.map V.int).length : Int)]))) c' = some (.lst (ns.map V.int ++ [V.int ((ns.map V.int).length : Int)])) := upd_same
      have hcp : p ≠ c' := fun z => by rw [← z, hp4] at hc'; cases hc'
      have hcg : g ≠ c' := fun z => by rw [← z, hg4] at hc'; cases hc'
      generalize upd H4 c' (.lst (ns.map V.int ++ [V.int ((ns.map V.int).length : Int)])) = H5 at *
      refine ⟨.ref g, rfl, .int s, rfl, hp5, plV c' g 0 s 0, rfl, by show 5 ≤ 15; decide, ?_⟩
      rw [merge_pl]
      have hH5 : Ex H H5 := ((((e1.trans e2).trans e).trans e3).trans e4).trans e5
      have hHp : H p = none := fresh_back ((e1.trans e2).trans e) hp
      have hHg : H g = none := fresh_back e1 hg
      have hHc : H c' = none := fresh_back ((((e1.trans e2).trans e).trans e3).trans e4) hc'
      have hgp : p ≠ g := fun z => by
        rw [z] at hp
        have := e _ _ hgs1
        rw [hp] at this
        cases this
      have hll : ns.map V.int ++ [V.int ((ns.map V.int).length : Int)] = (ns ++ [((ns.map V.int).length : Int)]).map V.int := by simp
      rw [hll] at hc5
      refine k (upd H c' (.lst ((ns ++ [((ns.map V.int).length : Int)]).map V.int))) _ p g c' (Ex.new hHc) ⟨?_, by rw [upd_ne hcp]; exact hHp, by rw [upd_ne hcg]; exact hHg, hgp, _, gs, 0, s, 0, upd_same, by simp, by simp; omega, upd_same, by rw [upd_ne (Ne.symm hgp)]; exact hg5, hgs2, hgs3, by decide, by decide⟩
      refine Ex.mut (fun b o hb => ?_) (by rw [upd_ne hcp]; exact hHp)
      by_cases z : b = c'
      · rw [z, upd_same] at hb
        cases hb
        rw [z]
        exact hc5
      · rw [upd_ne z] at hb
        exact hH5 _ _ hb
end
end Wk

set_option Elab.async false
set_option linter.all false
set_option maxRecDepth 100000
set_option maxHeartbeats 4000000
namespace Wk
open PySem PySem.Spec PyProof.Rows L2 Evl
section
variable {G H : Hp} {p g c : Addr}
theorem Pq.put (h0 : Pq G H p g c) {h s m : Int} (hh : 0 ≤ h) (hm : 0 ≤ m) : Pq G (upd H p (.dK (plV c g h s m))) p g c := by
  obtain ⟨cs, gs, k, s', m', h1, h2, h3, h4, h5, h6, h7, h8, h9⟩ := h0.at_
  exact ⟨Ex.mut h0.ex h0.gp, h0.gp, h0.gg, h0.ne, cs, gs, h, s, m, h1, h2, h3, upd_same, by rw [upd_ne (Ne.symm h0.ne)]; exact h5, h6, h7, hh, hm⟩
theorem Pq.pop (h0 : Pq G H p g c) {gs : List Int} (h1 : ∀ x ∈ gs, 0 ≤ x) (h2 : gs.length ≤ 63) : Pq G (upd H g (.lst (gs.map V.int))) p g c := by
  obtain ⟨cs, gs', k, s', m', i1, i2, i3, i4, i5, i6, i7, i8, i9⟩ := h0.at_
  exact ⟨Ex.mut h0.ex h0.gg, h0.gp, h0.gg, h0.ne, cs, gs, k, s', m', i1, i2, i3, by rw [upd_ne h0.ne]; exact i4, upd_same, h1, h2, i8, i9⟩
end
section
variable {K : PySem.W.Frag} {σ : L2.St} {H : Hp} {ta te : TE} {tz : TS} {D : Ends}
theorem rd_up {H H' : Hp} {a : Addr} {u : HO} (e : Ex H H') (h : Rd H a u) : Rd H' a u := h.elim (fun h => .inl (e _ _ h)) fun ⟨o, h⟩ => .inr ⟨o, e _ _ h⟩
theorem ev_dgetS {a : Addr} {k : Str} {v : V} {kvs : List (L2.Key × V)} (ha : Ev ta σ H (.ref a)) (hr : Rd H a (.dK kvs)) (hv : valV kvs (.inr k) = some v) : Ev (tDGet ta (tC (.str k))) σ H v := fun H1 e Q q =>
  ha H1 e _ fun H2 e2 => show ∃ (a' : Addr) (v' : V), _ ∧ DGet H2 a' (.str k) (some v') ∧ Q v' H2 from ⟨a, v, rfl, .inl ⟨kvs, .inr k, rd_up (e.trans e2) hr, rfl, hv.symm⟩, q H2 e2⟩
theorem q_putS {p : Addr} {k : Str} {v : V} {kvs : List (L2.Key × V)} (ho : σ[0]? = some (some (.ref p))) (h : Ev te σ H v) (hp : H p = some (.dK kvs)) (hl : kvs.length < 1000) (q : ∀ H1, Ex H H1 → tz D σ (upd H1 p (.dK (putK kvs (.inr k) v)))) :
    tSeq (tAsg te (gSub (tVar 0) (tC (.str k)) rSetD)) tz D σ H :=
  h H (Ex.refl _) _ fun H1 e => ⟨.ref p, ho, p, _, rfl, DPut.k (k := .inr k) (e _ _ hp) (sz_lt (by omega)), q H1 e⟩
end
section
variable {P : Program} {w : World} {K : PySem.W.Frag} {mg : Str → Option Value} {base : Heap} {f : Addr} {fd : FuncData}
/-! _law_draw -/
def spDrw : Sp := fun vs H Q _ => ∃ (G : Hp) (p g c : Addr) (z : Int), vs = [.ref p, .int z] ∧ Pq G H p g c ∧ 0 < z ∧ z ≤ 1000000000 ∧ ∀ H' (i : Int), Pq G H' p g c → 0 ≤ i → i < z → Q (.int i) H'
abbrev sDrw : Stmt := top 25
abbrev nDrw : List Str := ["_law_pool_here", "_law_many", "_law_held", "_law_count", "_law_cell", "_law_state", "_law_mixed"]
theorem scDrw : FnScope nDrw ["_law_pool_here", "_law_many"] (defScope sDrw) := ⟨rfl, rfl, rfl, by decide +kernel, rfl, by decide +kernel, by decide +kernel⟩
theorem ok_drw (B : Bl mg) (F : FnP K "_law_draw" sDrw f fd) : FnOk P w K mg base CX0 1 f fd ["_law_pool_here", "_law_many"] spDrw := by
  refine F.ok scDrw (fun vs H Q E h => ?_) (fun cdv A outer s H vs Q E hr h => ?_)
  · obtain ⟨G, p, g, c, z, rfl, _⟩ := h
    rfl
  · obtain ⟨G, p, g, c, z, rfl, hP, hz, hz2, k⟩ := h
    have hu : (A.deeper (envOfC "_law_draw" (defScope sDrw) s.heap.objs.size f cdv)).units + 1 < cLine := by have := hr.un; omega
    refine ⟨_, pss_cut (ps_if (PW.pt (pw_and (pt_cmpR op_lt (pe_dget hu (pv 0) pe_str (fun _ _ => rfl)) pe_int (nomark _)) (pw_and1 (pt_cmpR op_gt (pe_callB call_len_seq (by rfl) B.len PySem.boot_len (pa_cons (pe_dget hu (pv 0) pe_str (fun _ _ => rfl)) pa_nil)) pe_int (nomark _)))))
          (pss_one (ps_asg (pe_bm PySem.F.plainAttrs_list PySem.F.slot_list_pop PySem.F.type_list_pop mt_popAt (pe_dget hu (pv 0) pe_str (fun _ _ => rfl)) (pa_cons pe_int pa_nil)) (pg_sub (pv 0) pe_str (set_dict hu)))) pss_nil)
      (pss_cons (ps_set (i := 2) scDrw.nd rfl (Or.inl rfl) (pe_callTy call_int1 (by rfl) B.int PyProof.Rows.boot_int (pa_cons (pe_dget hu (pv 0) pe_str (fun _ _ => rfl)) pa_nil)))
      (pss_cons (ps_if (pt_cmpR op_gt (pv 2) pe_int (nomark _))
          (pss_cons (ps_asg (pe_op op_fdiv (pv 2) (pv 1)) (pg_sub (pv 0) pe_str (set_dict hu)))
          (pss_one (ps_ret (pe_op op_mod (pv 2) (pv 1))))) pss_nil)
      (pss_cons (ps_set (i := 3) scDrw.nd rfl (Or.inl rfl) (pe_op op_add (pe_callTy call_int1 (by rfl) B.int PyProof.Rows.boot_int (pa_cons (pe_dget hu (pv 0) pe_str (fun _ _ => rfl)) pa_nil)) pe_int))
      (pss_cons (ps_asg (pv 3) (pg_sub (pv 0) pe_str (set_dict hu)))
      (pss_cons (ps_set (i := 4) scDrw.nd rfl (Or.inl rfl) (pe_op op_mod (pe_callTy call_int1 (by rfl) B.int PyProof.Rows.boot_int (pa_cons (pe_ix ix_list (pe_dget hu (pv 0) pe_str (fun _ _ => rfl)) (pe_op op_mod (pv 3) (pe_callB call_len_seq (by rfl) B.len PySem.boot_len (pa_cons (pe_dget hu (pv 0) pe_str (fun _ _ => rfl)) pa_nil))) (fun _ _ => rfl)) pa_nil)) pe_int))
      (pss_cons (ps_set (i := 5) scDrw.nd rfl (Or.inl rfl) (pe_op op_mod (pe_callTy call_int1 (by rfl) B.int PyProof.Rows.boot_int (pa_cons (pe_op op_add (pe_op op_add (pe_op op_mul (pe_callTy call_int1 (by rfl) B.int PyProof.Rows.boot_int (pa_cons (pe_dget hu (pv 0) pe_str (fun _ _ => rfl)) pa_nil)) pe_int) (pv 4)) (pe_op op_mul pe_int (pv 3))) pa_nil)) pe_int))
      (pss_cons (ps_asg (pv 5) (pg_sub (pv 0) pe_str (set_dict hu)))
      (pss_cons (ps_set (i := 6) scDrw.nd rfl (Or.inl rfl) (pe_op op_mod (pe_callTy call_int1 (by rfl) B.int PyProof.Rows.boot_int (pa_cons (pe_op op_mul (pv 5) (pe_op op_add (pe_op op_fdiv (pv 5) pe_int) pe_int)) pa_nil)) pe_int))
      (pss_cons (ps_set (i := 6) scDrw.nd rfl (Or.inl rfl) (pe_op op_mod (pe_callTy call_int1 (by rfl) B.int PyProof.Rows.boot_int (pa_cons (pe_op op_mul (pv 6) (pe_op op_add (pe_op op_fdiv (pv 6) pe_int) pe_int)) pa_nil)) pe_int))
      (pss_one (ps_ret (pe_op op_mod (pe_op op_fdiv (pv 6) pe_int) (pv 1))))))))))))), ?_⟩
    have hzz : z < 1073741824 := by omega
    refine q_cut (M := fun σ' H' => σ' = start nDrw [.ref p, .int z] ∧ Pq G H' p g c) ?_ ?_
    · obtain ⟨cs, gs, h, s, m, h1, h2, h3, h4, h5, h6, h7, h8, h9⟩ := hP.at_
      refine s_when (b := decide (h < 2) && decide (0 < ((gs.map V.int).length : Int))) (et_and (et_test (ev_op (r := rI0 fun i j => .bl (decide (i < j))) (ev_dgetS (ev_var rfl) (.inl h4) pl_h) ev_c rv_I0)) fun _ => et_test (ev_op (r := rI0 fun i j => .bl (decide (j < i))) (ev_len (K := K) (ev_dgetS (ev_var rfl) (.inl h4) pl_g) (sq_of h5)) ev_c rv_I0)) (fun hb H1 e1 => ?_) (fun _ H1 e1 => ⟨rfl, hP.ext e1⟩)
      rw [Bool.and_eq_true] at hb
      have hg0 := of_decide_eq_true hb.2
      rw [List.length_map] at hg0
      have hP1 := hP.ext e1
      have hp1 := e1 _ _ h4
      have hg1 := e1 _ _ h5
      have hi : (gs.map V.int)[0]? = some (.int (gs[0]'(by omega))) := by rw [List.getElem?_map, List.getElem?_eq_getElem (by omega)]; rfl
      refine ⟨.ref p, rfl, p, .ref g, rfl, .inl ⟨_, kG, .inl hp1, rfl, pl_g.symm⟩, Or.inl ⟨rfl, _, sq_of hg1⟩, g, _, 0, 0, .int (gs[0]'(by omega)), rfl, rfl, hg1, by decide, by decide, seqIx (k := 0) (by rw [List.length_map]; omega), hi, ?_⟩
      have hx0 : 0 ≤ gs[0]'(by omega) := h6 _ (List.getElem_mem _)
      have hP2 : Pq G (upd H1 g (.lst ((gs.eraseIdx 0).map V.int))) p g c := hP1.pop (fun x hx => h6 x (List.mem_of_mem_eraseIdx hx)) (by have := List.length_eraseIdx_le gs 0; omega)
      have hp2 : (upd H1 g (.lst ((gs.eraseIdx 0).map V.int))) p = some (.dK (plV c g h s m)) := by rw [upd_ne hP.ne]; exact hp1
      have em : (gs.map V.int).eraseIdx 0 = (gs.eraseIdx 0).map V.int := by cases gs <;> rfl
      rw [em]
      generalize upd H1 g (.lst ((gs.eraseIdx 0).map V.int)) = H2 at *
      refine ⟨.ref p, rfl, p, _, rfl, DPut.k (k := kH) hp2 (by show 5 < sizeLine; decide), rfl, ?_⟩
      rw [put_h]
      exact hP2.put hx0 h9
    · rintro σ' H1 ⟨rfl, hP1⟩
      obtain ⟨cs, gs, h, s, m, h1, h2, h3, h4, h5, h6, h7, h8, h9⟩ := hP1.at_
      refine ⟨.ref p, rfl, p, .int h, rfl, .inl ⟨_, kH, .inl h4, rfl, pl_h.symm⟩, .inl ⟨h, rfl, ?_⟩⟩
      refine g_name ?_
      refine q_when (b := decide (1 < h)) (et_test (ev_op (r := rI0 fun i j => .bl (decide (j < i))) (ev_var rfl) ev_c rv_I0)) (fun hb H2 e2 => ?_) (fun hb H2 e2 => ?_)
      · have hp2 := e2 _ _ h4
        have hP2 := hP1.ext e2
        have md := modP h z hz
        refine ⟨.int h, rfl, .int z, rfl, h, z, rfl, rfl, ⟨hz, hzz⟩, .ref p, rfl, p, _, rfl, DPut.k (k := kH) hp2 (by show 5 < sizeLine; decide), ?_⟩
        rw [put_h]
        exact ⟨.int h, rfl, .int z, rfl, h, z, rfl, rfl, hz, k _ _ (hP2.put (Int.ediv_nonneg h8 (by omega)) h9) md.1 md.2⟩
      · have hp2 := e2 _ _ h4
        have hP2 := hP1.ext e2
        refine ⟨.ref p, rfl, p, .int m, rfl, .inl ⟨_, kM, .inl hp2, rfl, pl_m.symm⟩, .inl ⟨m, rfl, m, 1, rfl, rfl, ?_⟩⟩
        refine g_name ?_
        change tSeq _ _ _ [some (.ref p), some (.int z), some (.int h), some (.int (m + 1)), none, none, none] H2
        have hm1 : 0 ≤ m + 1 := by omega
        generalize m + 1 = m1 at *
        refine q_putS (p := p) rfl (ev_var (i := 3) (v := .int m1) rfl) hp2 (by show 5 < 1000; decide) fun H3 e3 => ?_
        rw [put_m]
        have hP3 : Pq G (upd H3 p (.dK (plV c g h s m1))) p g c := (hP2.ext e3).put h8 hm1
        have hp3 : (upd H3 p (.dK (plV c g h s m1))) p = some (.dK (plV c g h s m1)) := upd_same
        generalize upd H3 p (.dK (plV c g h s m1)) = H4 at *
        have hc4 := hP3.ex _ _ h1
        have hcl : (0 : Int) < (cs.length : Int) := by omega
        have md := modP m1 (cs.length : Int) hcl
        obtain ⟨j, hj⟩ : ∃ j : Nat, m1 % (cs.length : Int) = (j : Int) := ⟨(m1 % (cs.length : Int)).toNat, by omega⟩
        have hjl : j < cs.length := by omega
        have hcj : (cs.map V.int)[j]? = some (.int cs[j]) := by rw [List.getElem?_map, List.getElem?_eq_getElem hjl]; rfl
        generalize cs[j] = v at *
        refine ⟨.ref p, rfl, p, .ref c, rfl, .inl ⟨_, kC, .inl hp3, rfl, pl_c.symm⟩, .int m1, rfl, .ref p, rfl, p, .ref c, rfl, .inl ⟨_, kC, .inl hp3, rfl, pl_c.symm⟩, c, _, rfl, .inl (sq_of hc4), m1, _, rfl, rfl, by rw [List.length_map]; exact hcl, ?_⟩
        rw [List.length_map]
        dsimp only
        rw [hj]
        refine ⟨c, _, (j : Int), .int v, rfl, rfl, sq_of hc4, atI_nat hcj, .inl ⟨v, rfl, v, 2147483629, rfl, rfl, (show (0 : Int) < 2147483629 by decide), ?_⟩⟩
        refine g_name ?_
        change tSeq _ _ _ [some (.ref p), some (.int z), some (.int h), some (.int m1), some (.int (v % 2147483629)), none, none] H4
        generalize v % 2147483629 = v1 at *
        refine ⟨.ref p, rfl, p, .int s, rfl, .inl ⟨_, kS, .inl hp3, rfl, pl_s.symm⟩, .inl ⟨s, rfl, s, 69621, rfl, rfl, .inr ⟨by decide, by decide⟩, .int v1, rfl, _, v1, rfl, rfl, .int m1, rfl, 30103, m1, rfl, rfl, .inl ⟨by decide, by decide⟩, _, _, rfl, rfl, .inl ⟨_, rfl, _, 2147483647, rfl, rfl, (show (0 : Int) < 2147483647 by decide), ?_⟩⟩⟩
        refine g_name ?_
        change tSeq _ _ _ [some (.ref p), some (.int z), some (.int h), some (.int m1), some (.int v1), some (.int ((s * 69621 + v1 + 30103 * m1) % 2147483647)), none] H4
        have hs1 := modP (s * 69621 + v1 + 30103 * m1) 2147483647 (by decide)
        generalize (s * 69621 + v1 + 30103 * m1) % 2147483647 = s1 at *
        refine q_putS (p := p) rfl (ev_var (i := 5) (v := .int s1) rfl) hp3 (by show 5 < 1000; decide) fun H5 e5 => ?_
        rw [put_s]
        have hP5 : Pq G (upd H5 p (.dK (plV c g h s1 m1))) p g c := (hP3.ext e5).put h8 hm1
        generalize upd H5 p (.dK (plV c g h s1 m1)) = H6 at *
        refine ⟨.int s1, rfl, .int s1, rfl, s1, 1009, rfl, rfl, ⟨by decide, by decide⟩, _, 48271, rfl, rfl, s1, _, rfl, rfl, .inl ⟨by omega, by omega⟩, .inl ⟨_, rfl, _, 2147483629, rfl, rfl, (show (0 : Int) < 2147483629 by decide), ?_⟩⟩
        refine g_name ?_
        change tSeq _ _ _ [some (.ref p), some (.int z), some (.int h), some (.int m1), some (.int v1), some (.int s1), some (.int ((s1 * (s1 / 1009 + 48271)) % 2147483629))] H6
        have hy := modP (s1 * (s1 / 1009 + 48271)) 2147483629 (by decide)
        generalize (s1 * (s1 / 1009 + 48271)) % 2147483629 = y at *
        refine ⟨.int y, rfl, .int y, rfl, y, 2003, rfl, rfl, ⟨by decide, by decide⟩, _, 40692, rfl, rfl, y, _, rfl, rfl, .inl ⟨by omega, by omega⟩, .inl ⟨_, rfl, _, 2147483399, rfl, rfl, (show (0 : Int) < 2147483399 by decide), ?_⟩⟩
        refine g_name ?_
        dsimp only
        change tRet _ _ [some (.ref p), some (.int z), some (.int h), some (.int m1), some (.int v1), some (.int s1), some (.int ((y * (y / 2003 + 40692)) % 2147483399))] H6
        generalize (y * (y / 2003 + 40692)) % 2147483399 = y1 at *
        have md2 := modP (y1 / 16) z hz
        exact ⟨.int y1, rfl, y1, 16, rfl, rfl, ⟨by decide, by decide⟩, .int z, rfl, _, z, rfl, rfl, hz, k _ _ hP5 md2.1 md2.2⟩
/-- a draw, as a call -/
theorem ev_drw {G H : Hp} {p g c : Addr} {z : Int} {Q : VK} (h : Pq G H p g c) (hz : 0 < z) (hz2 : z ≤ 1000000000) (k : ∀ H' (i : Int), Gq p g c G H G H' → 0 ≤ i → i < z → Q (.int i) H') (E : XK) : spDrw [.ref p, .int z] H Q E :=
  ⟨Hd2 H p g, p, g, c, z, rfl, h.hd, hz, hz2, fun H' i hP h0 h1 => k H' i (Gq.draw h hP) h0 h1⟩
end
end Wk

set_option Elab.async false
set_option linter.all false
set_option maxRecDepth 100000
set_option maxHeartbeats 4000000
namespace Wk
open PySem PySem.Spec PyProof.Rows L2 Evl
/-! texts of bits -/
abbrev T (l : List Nat) : Str := ⟨l.toArray⟩
theorem T_cat (a b : List Nat) : T a ++ T b = T (a ++ b) := TL.ext_tl (TL.tl_append (T a) (T b))
theorem T_inj {a b : List Nat} (h : T a = T b) : a = b := congrArg (fun x : Str => x.cps.toList) h
theorem T_len (a : List Nat) : (T a).length = a.length := by simp [T, Str.length]
def IsB (l : List Nat) : Prop := ∀ c ∈ l, c = 48 ∨ c = 49
theorem IsB.nil : IsB [] := fun _ h => by cases h
theorem IsB.app {a b : List Nat} (h : IsB a) (k : IsB b) : IsB (a ++ b) := fun c hc => (List.mem_append.mp hc).elim (h c) (k c)
theorem IsB.take {a : List Nat} (h : IsB a) (n : Nat) : IsB (a.take n) := fun c hc => h c (List.mem_of_mem_take hc)
theorem IsB.drop {a : List Nat} (h : IsB a) (n : Nat) : IsB (a.drop n) := fun c hc => h c (List.mem_of_mem_drop hc)
theorem t_empty : (Str.ofString "") = T [] := by decide +kernel
theorem t_zero : (Str.ofString (toString (0 : Int))) = T [48] := by decide +kernel
theorem t_one : (Str.ofString (toString (1 : Int))) = T [49] := by decide +kernel
def BitV (v : V) : Prop := v = .str (T [48]) ∨ v = .str (T [49])
theorem bits_of : ∀ us : List V, (∀ u ∈ us, BitV u) → ∃ l : List Nat, IsB l ∧ l.length = us.length ∧ us = l.map fun c => V.str (T [c])
  | [], _ => ⟨[], IsB.nil, rfl, rfl⟩
  | u :: us, h => by
    obtain ⟨l, h1, h2, h3⟩ := bits_of us fun x hx => h x (List.mem_cons_of_mem _ hx)
    rcases h u List.mem_cons_self with e | e
    · exact ⟨48 :: l, fun c hc => (List.mem_cons.mp hc).elim (fun z => .inl z) (h1 c), by simp [h2], by rw [List.map_cons, ← h3, e]⟩
    · exact ⟨49 :: l, fun c hc => (List.mem_cons.mp hc).elim (fun z => .inr z) (h1 c), by simp [h2], by rw [List.map_cons, ← h3, e]⟩
theorem joinL_ones : ∀ l : List Nat, TL.joinL [] (l.map fun c => [c]) = l
  | [] => rfl
  | [c] => rfl
  | c :: d :: r => by
    show [c] ++ ([] ++ TL.joinL [] ((d :: r).map fun c => [c])) = _
    rw [joinL_ones (d :: r)]
    rfl
theorem join_T (a : List Nat) (ys : List (List Nat)) : Txt.join (T a) (ys.map T) = T (TL.joinL a ys) := by
  rw [TL.join_eq]
  refine TL.ext_tl ?_
  rw [TL.tl_join]
  show TL.joinL a _ = TL.joinL a ys
  congr 1
  rw [List.map_map]
  exact List.map_id _
theorem join_bits (l : List Nat) : Txt.join (T []) (l.map fun c => T [c]) = T l := by
  have z := join_T [] (l.map fun c => [c])
  rw [List.map_map, joinL_ones] at z
  exact z
theorem sum_ones : ∀ l : List Nat, ((l.map fun c => T [c]).map (·.length)).sum = l.length
  | [] => rfl
  | c :: r => by
    rw [List.map_cons, List.map_cons, List.sum_cons, sum_ones r, List.length_cons]
    show 1 + r.length = _
    omega
/-! what is evaluated with draws -/
def EvP (p g c : Addr) (G : Hp) (te : TE) (σ : L2.St) (Y : V → Prop) : Prop := ∀ H, Pq G H p g c → ∀ Q : VK, (∀ H' v, Gq p g c G H G H' → Y v → Q v H') → te σ H Q
section
variable {p g c : Addr} {G : Hp} {σ : L2.St} {te ta tb : TE} {v : V} {Y : V → Prop}
theorem ep_ev (h : Ev te σ G v) (hy : Y v) : EvP p g c G te σ Y := fun H hP Q k => h H hP.ex _ fun H1 e1 => k H1 v (Gq.ext hP e1) hy
theorem ep_drw {i : Nat} {z : Int} {E : XK} (hp : σ[i]? = some (some (.ref p))) (hz : Ev te σ G (.int z)) (h0 : 0 < z) (h1 : z ≤ 1000000000) :
    EvP p g c G (tCall spDrw [] E (tCons (tVar i) (tCons te tNil))) σ (fun v => ∃ j : Int, v = .int j ∧ 0 ≤ j ∧ j < z) := fun H hP Q k =>
  ⟨.ref p, hp, hz H hP.ex _ fun H1 e1 => ev_drw (hP.ext e1) h0 h1 (fun H' i g1 h0 h1 => k H' _ ((Gq.ext hP e1).trans g1) ⟨i, rfl, h0, h1⟩) E⟩
theorem Gq.reset {H H' : Hp} {D : Addr} {o o' : HO} (hP : Pq G H p g c) (hD : H D = none) (h : Gq p g c G H (upd G D o) H') : Gq p g c G H (upd G D o') (upd H' D o') := by
  have gD := fresh_back hP.ex hD
  have np := hP.np hD
  have ng := hP.ng hD
  refine ⟨Ex.new gD, fun b hb hh => ?_, fun b u hp hg hb => ?_, ?_⟩
  · have nb : b ≠ D := fun z => hh (by rw [z]; exact hD)
    rw [upd_ne nb]
    exact hb
  · have nb : b ≠ D := fun z => by rw [z, hD] at hb; cases hb
    rw [upd_ne nb]
    exact h.off b u hp hg hb
  · obtain ⟨cs, gs, k, s, m, h1, h2, h3, h4, h5, r⟩ := h.pl.at_
    obtain ⟨cs0, _, _, _, _, i1, i2, i3, _⟩ := hP.at_
    have nc : c ≠ D := fun z => by rw [z, gD] at i1; cases i1
    refine ⟨fun b u hb => ?_, by rw [upd_ne (Ne.symm np)]; exact hP.gp, by rw [upd_ne (Ne.symm ng)]; exact hP.gg, hP.ne, cs0, gs, k, s, m, by rw [upd_ne nc]; exact i1, i2, i3, by rw [upd_ne (Ne.symm np)]; exact h4, by rw [upd_ne (Ne.symm ng)]; exact h5, r⟩
    by_cases z : b = D
    · rw [z, upd_same] at hb ⊢
      exact hb
    · rw [upd_ne z] at hb ⊢
      exact h.pl.ex _ _ (by rw [upd_ne z]; exact hb)
/-- a list comprehension over range(n) with draws, whose items are plain -/
theorem ep_lcR {j : Nat} {vs : List Nat} {M N : Nat} {H : Hp} {Q : VK} (hP : Pq G H p g c) (ha : EvP p g c G ta σ (fun v => ∃ n : Nat, v = .int (n : Int) ∧ M ≤ n ∧ n ≤ N)) (hN : N ≤ 1000) (hw : ∀ x, wipe ((wipe σ vs).set j (some x)) vs = wipe σ vs)
    (he : ∀ (G' : Hp) (i : Nat), Ex G G' → EvP p g c G' te ((wipe σ vs).set j (some (.int (i : Int)))) Y)
    (k : ∀ H' D us, H D = none → Gq p g c G H (upd G D (.lst us)) H' → M ≤ us.length → us.length ≤ N → (∀ u ∈ us, Y u) → Q (.ref D) H') : tLc (iRng1 (tCons ta tNil)) (gName j) tYes te vs σ H Q := by
  refine ha H hP _ fun H1 v g1 hv => ?_
  obtain ⟨n, rfl, hm, hn⟩ := hv
  have hP1 : Pq G H1 p g c := g1.pl
  refine ⟨(n : Int), rfl, by omega, by omega, fun D hD => ?_⟩
  have hHD : H D = none := by
    cases hx : H D with
    | none => rfl
    | some o =>
      rw [g1.off D o (hP1.np hD) (hP1.ng hD) hx] at hD
      cases hD
  refine lc_range (lo := 0) (n := (n : Int).toNat) (fun i H' => ∃ us : List V, us.length = i ∧ (∀ u ∈ us, Y u) ∧ Gq p g c G H1 (upd G D (.lst us)) H') ⟨[], rfl, (fun _ h => by cases h), Gq.new hP1 hD⟩ (fun i H' hi hh => ?_) (fun H' hh => ?_)
  · obtain ⟨us, h1, h2, h3⟩ := hh
    have e0 : (0 : Int) + (i : Int) = (i : Int) := Int.zero_add _
    show wipe ((wipe σ vs).set j (some (.int ((0 : Int) + (i : Int))))) vs = wipe σ vs ∧ te ((wipe σ vs).set j (some (.int ((0 : Int) + (i : Int))))) H' fun y H4 => ∃ acc, H4 D = some (.lst acc) ∧ acc.length < sizeLine ∧ ∃ us : List V, us.length = i + 1 ∧ (∀ u ∈ us, Y u) ∧ Gq p g c G H1 (upd G D (.lst us)) (upd H4 D (.lst (acc ++ [y])))
    rw [e0]
    refine ⟨hw _, he (upd G D (.lst us)) i h3.ex H' h3.pl _ fun H4 y g4 hy => ?_⟩
    have g5 := h3.trans g4
    refine ⟨us, g5.pl.ex _ _ upd_same, sz_lt (by omega), us ++ [y], by simp [h1], fun u hu => (List.mem_append.mp hu).elim (h2 u) fun z => by rw [List.mem_singleton.mp z]; exact hy, ?_⟩
    exact Gq.reset hP1 hD g5
  · obtain ⟨us, h1, h2, h3⟩ := hh
    exact k H' D us hHD (g1.trans h3) (by omega) (by omega) h2
end
section
variable {P : Program} {w : World} {K : PySem.W.Frag} {mg : Str → Option Value} {base : Heap} {f : Addr} {fd : FuncData}
/-- str of a drawn bit -/
theorem ep_bit {p g c : Addr} {G : Hp} {σ : L2.St} {i : Nat} {E : XK} (hp : σ[i]? = some (some (.ref p))) :
    EvP p g c G (tCB (fun xs H Q => ∃ i : Int, xs = [.int i] ∧ i.natAbs.log2 < 1920 ∧ Q (.str (toString i)) H) (tCons (tCall spDrw [] E (tCons (tVar i) (tCons (tC (.int 2)) tNil))) tNil)) σ BitV := fun H hP Q k => by
  refine ep_drw (z := 2) hp ev_c (by decide) (by decide) H hP _ fun H' v g1 hv => ?_
  obtain ⟨j, rfl, h0, h1⟩ := hv
  have hj : j = 0 ∨ j = 1 := by omega
  rcases hj with rfl | rfl
  · exact ⟨0, rfl, by decide, k H' _ g1 (.inl (congrArg V.str t_zero))⟩
  · exact ⟨1, rfl, by decide, k H' _ g1 (.inr (congrArg V.str t_one))⟩
/-- ''.join of drawn bits -/
theorem ep_bits {p g c : Addr} {G : Hp} {σ : L2.St} {ta : TE} {i j : Nat} {vs : List Nat} {E : XK} {M N : Nat} (hp : (wipe σ vs)[i]? = some (some (.ref p))) (hij : i ≠ j) (ha : EvP p g c G ta σ (fun v => ∃ n : Nat, v = .int (n : Int) ∧ M ≤ n ∧ n ≤ N)) (hN : N ≤ 1000) (hw : ∀ x, wipe ((wipe σ vs).set j (some x)) vs = wipe σ vs) :
    EvP p g c G (tM1 (fun x xs H Q => ∃ a p, ∃ ys : List Str, x = .str a ∧ xs = [.ref p] ∧ (SqL K H p (ys.map V.str) ∨ SqT K H p (ys.map V.str)) ∧ (ys.map (·.length)).sum + ys.length * a.length ≤ 16777216 ∧ Q (.str (Txt.join a ys)) H) (tC (.str ""))
      (tLc (iRng1 (tCons ta tNil)) (gName j) tYes (tCB (fun xs H Q => ∃ i : Int, xs = [.int i] ∧ i.natAbs.log2 < 1920 ∧ Q (.str (toString i)) H) (tCons (tCall spDrw [] E (tCons (tVar i) (tCons (tC (.int 2)) tNil))) tNil)) vs)) σ
      (fun v => ∃ l, v = .str (T l) ∧ IsB l ∧ M ≤ l.length ∧ l.length ≤ N) := fun H hP Q k => by
  refine ⟨⟨_, rfl⟩, ?_⟩
  refine ep_lcR (Y := BitV) hP ha hN hw (fun G' n e => ep_bit (by rw [List.getElem?_set_ne (Ne.symm hij)]; exact hp)) fun H' D us hD g1 hml hl hY => ?_
  obtain ⟨l, hb, hl2, rfl⟩ := bits_of us hY
  have hDl := g1.pl.ex _ _ upd_same
  refine ⟨_, D, l.map fun c => T [c], rfl, rfl, .inl (sq_of (by rw [List.map_map]; exact hDl)), ?_, ?_⟩
  · rw [sum_ones, t_empty]
    show l.length + _ * 0 ≤ _
    omega
  · rw [t_empty, join_bits]
    have gD := fresh_back hP.ex hD
    refine k H' _ ⟨Ex.refl _, fun b h _ => h, g1.off, ?_⟩ ⟨l, rfl, hb, by omega, by omega⟩
    obtain ⟨cs, gs, k, s, m, h1, h2, h3, h4, h5, r⟩ := g1.pl.at_
    obtain ⟨cs0, _, _, _, _, i1, i2, i3, _⟩ := hP.at_
    exact ⟨(Ex.new gD).trans g1.pl.ex, hP.gp, hP.gg, hP.ne, cs0, gs, k, s, m, i1, i2, i3, h4, h5, r⟩
/-! _law_bits -/
def spBits : Sp := fun vs H Q _ => ∃ (G : Hp) (p g c : Addr) (m : Nat), vs = [.ref p, .int (m : Int)] ∧ Pq G H p g c ∧ m ≤ 10 ∧ ∀ H' l, Gq p g c G H G H' → IsB l → l.length ≤ m → Q (.str (T l)) H'
abbrev sBits : Stmt := top 26
abbrev nBits : List Str := ["_law_pool_here", "_law_most", "_law_k"]
theorem scBits : FnScope nBits ["_law_pool_here", "_law_most"] (defScope sBits) := ⟨rfl, rfl, rfl, by decide +kernel, rfl, by decide +kernel, by decide +kernel⟩
theorem ok_bits (B : Bl mg) (C : Cal P w K mg base "_law_draw" ["_law_pool_here", "_law_many"] 1 spDrw) (F : FnP K "_law_bits" sBits f fd) : FnOk P w K mg base CX0 2 f fd ["_law_pool_here", "_law_most"] spBits := by
  refine F.ok scBits (fun vs H Q E h => ?_) (fun cdv A outer s H vs Q E hr h => ?_)
  · obtain ⟨G, p, g, c, m, rfl, _⟩ := h
    rfl
  · obtain ⟨G, p, g, c, m, rfl, hP, hm, k⟩ := h
    refine ⟨_, pss_one (ps_ret (pe_join pe_str (pe_lc (own := [("_law_k", 2)]) (g := gName 2) (tt := tYes) rfl scBits.nd (pi_range1 (by rfl) B.range (pa_cons (pe_cal C hr (by rfl) (pa_cons (pv 0) (pa_cons (pe_op op_add (pv 1) pe_int) pa_nil))) pa_nil)) (blkOk_by (N := nBits) (sc := defScope sBits) (by decide +kernel))
          (fun _ _ _ _ _ => pg_name (i := 2) scBits.nd rfl (Or.inl rfl)) (fun _ _ _ _ _ => pts_nil)
          (fun _ _ _ _ _ => pe_callTy call_str_int (by rfl) B.str PyProof.Rows.boot_str (pa_cons (pe_cal C hr (by rfl) (pa_cons (pv 0) (pa_cons pe_int pa_nil))) pa_nil))))), ?_⟩
    refine ep_bits (K := K) (G := G) (g := g) (c := c) (M := 0) (N := m) (i := 0) (j := 2) rfl (by decide) (fun H1 hP1 Q1 k1 => ep_drw (z := (m : Int) + 1) rfl (ev_op (r := rI0 fun i j => .int (i + j)) (ev_var rfl) ev_c rv_I0) (by omega) (by omega) H1 hP1 _ fun H2 v g2 hv => ?_) (by omega) (fun x => rfl) H hP _ fun H' v g1 hv => ?_
    · obtain ⟨j, rfl, h0, h1⟩ := hv
      exact k1 H2 _ g2 ⟨j.toNat, by rw [Int.toNat_of_nonneg h0], by omega, by omega⟩
    · obtain ⟨l, rfl, hb, _, hl⟩ := hv
      exact k H' l g1 hb hl
end
end Wk

set_option Elab.async false
set_option linter.all false
set_option maxRecDepth 100000
set_option maxHeartbeats 4000000
namespace Wk
open PySem PySem.Spec PyProof.Rows L2 Evl
/-! rows: a text of bits and where to -/
abbrev Row := List Nat × V
def NxV (v : V) : Prop := v = .str "here" ∨ v = .str "drop" ∨ ∃ i : Nat, i < 8 ∧ v = .int (i : Int)
def kvOf (es : List Row) : List (L2.Key × V) := es.map fun e => (.inr (T e.1), e.2)
theorem kv_len (es : List Row) : (kvOf es).length = es.length := List.length_map ..
theorem kv_keys (es : List Row) : (kvOf es).map (·.1) = (es.map fun e => T e.1).map Sum.inr := by
  unfold kvOf
  rw [List.map_map, List.map_map]
  rfl
theorem key_eq {a b : List Nat} : ((.inr (T a) : L2.Key) = .inr (T b)) = (a = b) := propext ⟨fun h => T_inj (by injection h), fun h => by rw [h]⟩
theorem kv_put (es : List Row) (l : List Nat) (v : V) : putK (kvOf es) (.inr (T l)) v = kvOf (putK es l v) := by
  have h1 : ((kvOf es).any fun kv => decide (kv.1 = (.inr (T l) : L2.Key))) = es.any fun kv => decide (kv.1 = l) := by
    unfold kvOf
    rw [List.any_map]
    congr 1
    funext e
    simp only [Function.comp, key_eq]
  unfold putK
  rw [h1]
  split
  · unfold kvOf
    rw [List.map_map, List.map_map]
    refine List.map_congr_left fun e _ => ?_
    simp only [Function.comp, key_eq]
    split <;> rfl
  · unfold kvOf
    rw [List.map_append]
    rfl
theorem kv_val (l : List Nat) : ∀ es : List Row, valV (kvOf es) (.inr (T l)) = valV es l
  | [] => rfl
  | e :: es => by
    obtain ⟨a, v⟩ := e
    by_cases h : a = l
    · rw [valV_pos h]
      exact valV_pos (by rw [h])
    · rw [valV_neg h, ← kv_val l es]
      exact valV_neg (fun z => h (T_inj (by injection z)))
theorem putK_mem {es : List Row} {l : List Nat} {v : V} {e : Row} (h : e ∈ putK es l v) : e = (l, v) ∨ e ∈ es := by
  unfold putK at h
  split at h
  · obtain ⟨x, hx, hh⟩ := List.mem_map.mp h
    split at hh
    · rename_i c
      rw [← hh, c]
      exact .inl rfl
    · rw [← hh]; exact .inr hx
  · rcases List.mem_append.mp h with h | h
    · exact .inr h
    · exact .inl (List.mem_singleton.mp h)
theorem putK_ndE {es : List Row} {l : List Nat} {v : V} (h : (es.map (·.1)).Nodup) : ((putK es l v).map (·.1)).Nodup := by
  cases hv : valV es l with
  | none => exact nd_putK v h hv
  | some u =>
    unfold putK
    split
    · rw [List.map_map]
      have e : (es.map ((fun x : Row => x.1) ∘ fun kv => if kv.1 = l then (kv.1, v) else kv)) = es.map (·.1) := List.map_congr_left fun p _ => by
        show (if p.1 = l then (p.1, v) else p).1 = p.1
        split <;> rfl
      rw [e]
      exact h
    · rename_i c
      exfalso
      rw [valV_any, hv] at c
      exact c rfl
structure EsOk (es : List Row) (m : Nat) : Prop where
  nd : (es.map (·.1)).Nodup
  len : es.length ≤ m
  it : ∀ e ∈ es, IsB e.1 ∧ e.1.length ≤ 10 ∧ NxV e.2
theorem EsOk.nil (m : Nat) : EsOk [] m := ⟨List.nodup_nil, Nat.zero_le _, fun _ h => by cases h⟩
theorem EsOk.put {es : List Row} {i : Nat} {l : List Nat} {v : V} (h : EsOk es i) (h1 : IsB l) (h2 : l.length ≤ 10) (h3 : NxV v) : EsOk (putK es l v) (i + 1) :=
  ⟨putK_ndE h.nd, by have := length_putK es l v; have := h.len; omega, fun e he => (putK_mem he).elim (fun z => by rw [z]; exact ⟨h1, h2, h3⟩) (h.it e)⟩
theorem EsOk.le {es : List Row} {i j : Nat} (h : EsOk es i) (hij : i ≤ j) : EsOk es j := ⟨h.nd, Nat.le_trans h.len hij, h.it⟩
theorem val_at : ∀ {es : List Row} {i : Nat} {e : Row}, (es.map (·.1)).Nodup → es[i]? = some e → valV es e.1 = some e.2
  | [], i, e, _, h => by cases h
  | x :: es, 0, e, _, h => by
    obtain rfl : x = e := Option.some.inj h
    exact valV_pos rfl
  | x :: es, i + 1, e, nd, h => by
    rw [List.map_cons] at nd
    obtain ⟨n1, n2⟩ := List.nodup_cons.mp nd
    have hm : e ∈ es := List.mem_of_getElem? (show es[i]? = some e from h)
    have ne : ¬ x.1 = e.1 := fun z => n1 (by rw [z]; exact List.mem_map.mpr ⟨e, hm, rfl⟩)
    obtain ⟨a, b⟩ := x
    rw [valV_neg ne]
    exact val_at n2 h
/-- the tuples at us are the rows es -/
inductive EsT (H : Hp) : List V → List Row → Prop
  | nil : EsT H [] []
  | cons {b : Addr} {us : List V} {e : Row} {es : List Row} : H b = some (.tup [.str (T e.1), e.2]) → EsT H us es → EsT H (.ref b :: us) (e :: es)
theorem EsT.mono {H H' : Hp} (x : Ex H H') : ∀ {us : List V} {es : List Row}, EsT H us es → EsT H' us es
  | _, _, .nil => .nil
  | _, _, .cons h t => .cons (x _ _ h) (t.mono x)
theorem EsT.length {H : Hp} : ∀ {us : List V} {es : List Row}, EsT H us es → us.length = es.length
  | _, _, .nil => rfl
  | _, _, .cons h t => by simp [t.length]
theorem EsT.at_ {H : Hp} : ∀ {us : List V} {es : List Row} {i : Nat} {u : V}, EsT H us es → us[i]? = some u → ∃ b e, u = .ref b ∧ es[i]? = some e ∧ H b = some (.tup [.str (T e.1), e.2])
  | _, _, i, u, .nil, h => by cases h
  | _, _, 0, u, .cons (b := b) (e := e) hb t, h => ⟨b, e, (Option.some.inj h).symm, rfl, hb⟩
  | _, _, i + 1, u, .cons hb t, h => by
    obtain ⟨b, e, h1, h2, h3⟩ := t.at_ (show _ = some u from h)
    exact ⟨b, e, h1, h2, h3⟩
/-! slices and sums of texts -/
section
variable {σ : L2.St} {H : Hp} {ta tb te : TE} {tl th : TO}
theorem cut_take (l : List Nat) (n : Nat) : cutS (T l) none (some (n : Int)) = T (l.take n) := by
  unfold cutS
  rw [HT.sIx_none, HT.sIx_nat, T_len]
  show T ((l.drop 0).take (min n l.length - 0)) = _
  rw [List.drop_zero, Nat.sub_zero, ← List.take_eq_take_min]
theorem cut_init (l : List Nat) : cutS (T l) none (some (-1)) = T (l.take (l.length - 1)) := by
  unfold cutS
  rw [HT.sIx_none, T_len]
  show T ((l.drop 0).take ((-1 + (l.length : Int)).toNat - 0)) = _
  rw [List.drop_zero, Nat.sub_zero]
  congr 2
  omega
theorem ev_slS {l : List Nat} {lo hi : Option Int} (h : Ev te σ H (.str (T l))) (h1 : EvO tl σ H lo) (h2 : EvO th σ H hi) (hl : l.length ≤ 1000) : Ev (tSl rSlS te tl th) σ H (.str (cutS (T l) lo hi)) := fun H1 e _ q =>
  h H1 e _ fun H2 e2 => h1 H2 (e.trans e2) _ fun H3 e3 => h2 H3 ((e.trans e2).trans e3) _ fun H4 e4 => ⟨T l, rfl, by rw [T_len]; exact sz_of (by omega), q H4 ((e2.trans e3).trans e4)⟩
abbrev rAddS : V → V → Hp → VK → Prop := fun x y H Q => ∃ i j, x = .str i ∧ y = .str j ∧ i.length + j.length ≤ sizeLine ∧ Q (.str (i ++ j)) H
theorem ev_addS {a b : List Nat} (h : Ev ta σ H (.str (T a))) (h1 : Ev tb σ H (.str (T b))) (hl : a.length + b.length ≤ 1000) : Ev (tOp rAddS ta tb) σ H (.str (T (a ++ b))) :=
  ev_op h h1 fun H1 _ Q q => ⟨T a, T b, rfl, rfl, by rw [T_len, T_len]; exact sz_of (by omega), by rw [T_cat]; exact q H1 (Ex.refl _)⟩
theorem t_lit1 : (Str.ofString "1") = T [49] := by decide +kernel
/-- start[:-1] + str(1 - int(start[-1:] == '1')) -/
abbrev tFlip (i : Nat) : TE := tOp rAddS (tSl rSlS (tVar i) tNoPart (tPart (tUn (rU fun i => .int (-i)) (tC (.int 1)))))
  (tCB (fun xs H Q => ∃ i : Int, xs = [.int i] ∧ i.natAbs.log2 < 1920 ∧ Q (.str (toString i)) H) (tCons (tOp (rI0 fun i j => .int (i - j)) (tC (.int 1))
    (tCB (fun xs H Q => (∃ i, xs = [.int i] ∧ Q (.int i) H) ∨ ∃ k, xs = [.bl k] ∧ Q (.int (if k then 1 else 0)) H) (tCons (tOp rEq (tSl rSlS (tVar i) (tPart (tUn (rU fun i => .int (-i)) (tC (.int 1)))) tNoPart) (tC (.str "1"))) tNil))) tNil))
def flip1 (l : List Nat) : List Nat := l.take (l.length - 1) ++ (if cutS (T l) (some (-1)) none = Str.ofString "1" then [48] else [49])
theorem flip_isB {l : List Nat} (h : IsB l) : IsB (flip1 l) := by
  refine (h.take _).app fun c hc => ?_
  split at hc
  · exact .inl (List.mem_singleton.mp hc)
  · exact .inr (List.mem_singleton.mp hc)
theorem flip_len {l : List Nat} (h : l.length ≤ 10) : (flip1 l).length ≤ 10 := by
  unfold flip1
  rw [List.length_append, List.length_take]
  have : (if cutS (T l) (some (-1)) none = Str.ofString "1" then [48] else [49]).length = 1 := by split <;> rfl
  rw [this]
  omega
theorem ev_flip {i : Nat} {l : List Nat} (h : σ[i]? = some (some (.str (T l)))) (hl : l.length ≤ 10) : Ev (tFlip i) σ H (.str (T (flip1 l))) := by
  have hm1 : EvO (tPart (tUn (rU fun i => .int (-i)) (tC (.int 1)))) σ H (some (-1)) := eo_some (ev_un ev_c ru_neg)
  have h1 := ev_slS (ev_var h) (eo_none (H := H)) hm1 (by omega)
  rw [cut_init] at h1
  refine ev_addS (b := if cutS (T l) (some (-1)) none = Str.ofString "1" then [48] else [49]) h1 ?_ ?_
  · have h2 := ev_op (ev_slS (ev_var h) hm1 (eo_none (H := H)) (by omega)) (ev_c (v := .str "1")) (rv_eq (x := .str (cutS (T l) (some (-1)) none)) rfl)
    intro H1 e Q q
    refine h2 H1 e _ fun H2 e2 => ?_
    by_cases c : cutS (T l) (some (-1)) none = Str.ofString "1"
    · rw [if_pos c] at q
      refine .inr ⟨_, rfl, 1, _, rfl, rfl, _, rfl, ?_⟩
      have d : decide (V.str (cutS (T l) (some (-1)) none) = V.str "1") = true := decide_eq_true (by rw [c])
      rw [d]
      refine ⟨by decide, ?_⟩
      rw [show (toString ((1 : Int) - if true = true then 1 else 0) : String) = toString (0 : Int) from rfl, t_zero]
      exact q H2 e2
    · rw [if_neg c] at q
      refine .inr ⟨_, rfl, 1, _, rfl, rfl, _, rfl, ?_⟩
      have d : decide (V.str (cutS (T l) (some (-1)) none) = V.str "1") = false := decide_eq_false (fun z => c (by injection z))
      rw [d]
      refine ⟨by decide, ?_⟩
      rw [show (toString ((1 : Int) - if false = true then 1 else 0) : String) = toString (1 : Int) from rfl, t_one]
      exact q H2 e2
  · rw [List.length_take]
    have : (if cutS (T l) (some (-1)) none = Str.ofString "1" then [48] else [49]).length = 1 := by split <;> rfl
    rw [this]
    omega
end
/-! what stays grows by all that is new -/
section
variable {p g c : Addr}
theorem Gq.grow {G H H' : Hp} (h : Pq G H p g c) (e : Ex H H') : Gq p g c G H (fun b => match H b with | none => H' b | some _ => G b) H' := by
  obtain ⟨op, hp⟩ := h.p_at
  obtain ⟨og, hg⟩ := h.g_at
  obtain ⟨cs, gs, k, s, m, h1, h2, h3, h4, h5, r⟩ := h.at_
  refine ⟨fun b o hb => ?_, fun b hb hh => ?_, Of2.ex e, fun b o hb => ?_, ?_, ?_, h.ne, cs, gs, k, s, m, ?_, h2, h3, e _ _ h4, e _ _ h5, r⟩
  · rw [h.ex _ _ hb]
    exact hb
  · cases hx : H b with
    | none => exact absurd hx hh
    | some o => exact hb
  · cases hx : H b with
    | none => rw [hx] at hb; exact hb
    | some o' => rw [hx] at hb; exact e _ _ (h.ex _ _ hb)
  · rw [hp]
    exact h.gp
  · rw [hg]
    exact h.gg
  · rw [h.ex _ _ h1]
    exact h1
/-- a new thing that is left again -/
theorem Gq.less {G H H' : Hp} {D : Addr} {o : HO} (hP : Pq G H p g c) (hD : H D = none) (h : Gq p g c G H (upd G D o) H') : Gq p g c G H G H' := by
  have gD := fresh_back hP.ex hD
  obtain ⟨cs, gs, k, s, m, h1, h2, h3, h4, h5, r⟩ := h.pl.at_
  obtain ⟨cs0, _, _, _, _, i1, i2, i3, _⟩ := hP.at_
  exact ⟨Ex.refl _, fun b h _ => h, h.off, (Ex.new gD).trans h.pl.ex, hP.gp, hP.gg, hP.ne, cs0, gs, k, s, m, i1, i2, i3, h4, h5, r⟩
end
/-! [(k, d[k]) for k in d] -/
def rowY (H0 : Hp) (es : List Row) : Nat → V → Hp → Prop := fun i u H => ∃ b e, u = .ref b ∧ es[i]? = some e ∧ H0 b = none ∧ H b = some (.tup [.str (T e.1), e.2])
theorem rowY_good (H0 : Hp) (es : List Row) : GoodY (rowY H0 es) :=
  ⟨fun i u H H' e ⟨b, r, h1, h2, h3, h4⟩ => ⟨b, r, h1, h2, h3, e _ _ h4⟩, fun i u H D l hD ⟨b, r, h1, h2, h3, h4⟩ => ⟨b, r, h1, h2, h3, by
    rw [off_at (fun z => by rw [z, hD] at h4; cases h4)]
    exact h4⟩⟩
theorem grown_rows {H0 H G : Hp} {es : List Row} (hG : ∀ b, H0 b = none → G b = H b) : ∀ (n k : Nat) (us : List V), k + n = es.length → Grown (rowY H0 es) H ((List.range' k n)) us → EsT G us (es.drop k)
  | 0, k, us, hk, h => by
    have : us = [] := h
    rw [this, List.drop_of_length_le (by omega)]
    exact .nil
  | n + 1, k, us, hk, h => by
    rw [List.range'_succ] at h
    obtain ⟨u, r, rfl, ⟨b, e, rfl, h2, h3, h4⟩, h5⟩ := h
    have ih := grown_rows hG n (k + 1) r (by omega) h5
    have hkl : k < es.length := by omega
    rw [List.getElem?_eq_getElem hkl] at h2
    rw [List.drop_eq_getElem_cons hkl, Option.some.inj h2]
    exact .cons (by rw [hG b h3]; exact h4) ih
theorem upTo_all (n : Nat) : upTo (fun _ => true) n = List.range' 0 n := by
  unfold upTo
  rw [List.filter_eq_self.mpr fun _ _ => rfl, List.range_eq_range']
theorem q_rows {p g c : Addr} {G H : Hp} {D : Addr} {es : List Row} {n j m : Nat} {vs : List Nat} {σ : L2.St} {Q : VK} (hP : Pq G H p g c) (hσ : σ[n]? = some (some (.ref D))) (hσ2 : ∀ x, ((wipe σ vs).set j (some x))[n]? = some (some (.ref D))) (hj : ∀ x, ((wipe σ vs).set j (some x))[j]? = some (some x)) (hw : ∀ x, wipe ((wipe σ vs).set j (some x)) vs = wipe σ vs)
    (hD : H D = some (.dK (kvOf es))) (hes : EsOk es m) (hm : m ≤ 1000)
    (k : ∀ G' H' L us, Gq p g c G H G' H' → G' L = some (.lst us) → EsT G' us es → Q (.ref L) H') :
    tLockE (tLc (iKeys (tVar n)) (gName j) tYes (tTup (tCons (tVar j) (tCons (tDGet (tVar n) (tVar j)) tNil))) vs) σ H Q := by
  have hl := hes.len
  refine ⟨D, .dK (kvOf es), hD, trivial, fun od => ⟨.ref D, hσ, D, od, rfl, .inl ⟨kvOf es, upd_same, fun L hL => ?_⟩⟩⟩
  have nLD : L ≠ D := fun z => by rw [z, upd_same] at hL; cases hL
  have hHL : H L = none := by rw [upd_ne nLD] at hL; exact hL
  refine grow_lc (Y := rowY H es) (walk_keys (o := od) (kvs := kvOf es)) (Yx := fun i x => ∃ k v, (kvOf es)[i]? = some (k, v) ∧ x = kV k) (rowY_good H es) (fun _ => true) hL (by rw [kv_len]; omega) (fun H' e => e _ _ upd_same) hw (fun _ _ _ _ _ _ => et_yes) (fun i x H' e hi hx _ => ?_) (fun us H' e hus gr => ?_)
  · obtain ⟨kk, v, hx, rfl⟩ := hx
    unfold kvOf at hx
    rw [List.getElem?_map] at hx
    cases hi : es[i]? with
    | none => rw [hi] at hx; cases hx
    | some r =>
      rw [hi] at hx
      have hx := Option.some.inj hx
      injection hx with hx1 hx2
      subst hx1 hx2
      intro H1 e1 Q1 q1
      refine ⟨.str (T r.1), hj _, .ref D, hσ2 _, .str (T r.1), hj _, D, r.2, rfl, .inl ⟨kvOf es, .inr (T r.1), .inr ⟨od, e1 _ _ (e _ _ upd_same)⟩, rfl, by rw [kv_val]; exact (val_at hes.nd hi).symm⟩, by show 2 ≤ sizeLine; decide, fun b hb => q1 _ _ (Ex.new hb) ⟨b, r, rfl, hi, ?_, upd_same⟩⟩
      have h1 := fresh_back (e.trans e1) hb
      by_cases z : b = D
      · rw [z, upd_same] at h1; cases h1
      · rw [upd_ne z] at h1; exact h1
  · have eH : Ex H (upd H' D (.dK (kvOf es))) := fun b o hb => by
      by_cases z : b = D
      · rw [z, hD] at hb
        cases hb
        rw [z]
        exact upd_same
      · rw [upd_ne z]
        exact e _ _ (by rw [upd_ne z]; exact hb)
    refine ⟨e _ _ upd_same, k _ _ L us (Gq.grow hP eH) ?_ ?_⟩
    · show (match H L with | none => _ | some _ => _) = _
      rw [hHL]
      dsimp only
      rw [upd_ne nLD]
      exact hus
    · rw [kv_len, upTo_all] at gr
      refine grown_rows (H0 := H) (H := H') (k := 0) (fun b hb => ?_) es.length us (Nat.zero_add _) gr
      show (match H b with | none => _ | some _ => _) = _
      rw [hb]
      dsimp only
      rw [upd_ne (fun z => by rw [z, hD] at hb; cases hb)]
end Wk

set_option Elab.async false
set_option linter.all false
set_option maxRecDepth 100000
set_option maxHeartbeats 4000000
namespace Wk
open PySem PySem.Spec PyProof.Rows L2 Evl
section
variable {P : Program} {w : World} {K : PySem.W.Frag} {mg : Str → Option Value} {base : Heap} {f : Addr} {fd : FuncData}
/-- a call of _law_bits -/
theorem ep_callBits {p g c : Addr} {G : Hp} {σ : L2.St} {i : Nat} {te : TE} {m : Nat} {E : XK} (hp : σ[i]? = some (some (.ref p))) (hz : Ev te σ G (.int (m : Int))) (hm : m ≤ 10) :
    EvP p g c G (tCall spBits [] E (tCons (tVar i) (tCons te tNil))) σ (fun v => ∃ l, v = .str (T l) ∧ IsB l ∧ l.length ≤ m) := fun H hP Q k =>
  ⟨.ref p, hp, hz H hP.ex _ fun H1 e1 => ⟨G, p, g, c, m, rfl, hP.ext e1, hm, fun H' l g1 h1 h2 => k H' _ ((Gq.ext hP e1).trans g1) ⟨l, rfl, h1, h2⟩⟩⟩
/-! _law_entries -/
def spEnt : Sp := fun vs H Q _ => ∃ (G : Hp) (p g c nl : Addr) (m : Nat) (nxs : List V), vs = [.ref p, .int (m : Int), .ref nl] ∧ Pq G H p g c ∧ m ≤ 24 ∧ G nl = some (.lst nxs) ∧ 1 ≤ nxs.length ∧ nxs.length ≤ 100 ∧ (∀ v ∈ nxs, NxV v) ∧
  ∀ G' H' L us es, Gq p g c G H G' H' → G' L = some (.lst us) → EsT G' us es → EsOk es m → Q (.ref L) H'
abbrev sEnt : Stmt := top 27
abbrev nEnt : List Str := ["_law_pool_here", "_law_many", "_law_nexts", "_law_known", "_law_k", "_law_bits_here", "_law_kind", "_law_earlier"]
theorem scEnt : FnScope nEnt ["_law_pool_here", "_law_many", "_law_nexts"] (defScope sEnt) := ⟨rfl, rfl, rfl, by decide +kernel, rfl, by decide +kernel, by decide +kernel⟩
theorem ok_ent (B : Bl mg) (hso : mg "sorted" = none) (C1 : Cal P w K mg base "_law_draw" ["_law_pool_here", "_law_many"] 1 spDrw) (C2 : Cal P w K mg base "_law_bits" ["_law_pool_here", "_law_most"] 2 spBits) (F : FnP K "_law_entries" sEnt f fd) : FnOk P w K mg base CX0 3 f fd ["_law_pool_here", "_law_many", "_law_nexts"] spEnt := by
  refine F.ok scEnt (fun vs H Q E h => ?_) (fun cdv A outer s H vs Q E hr h => ?_)
  · obtain ⟨G, p, g, c, nl, m, nxs, rfl, _⟩ := h
    rfl
  · obtain ⟨G, p, g, c, nl, m, nxs, rfl, hP, hm, hnl, hn1, hn2, hnx, k⟩ := h
    have hu : (A.deeper (envOfC "_law_entries" (defScope sEnt) s.heap.objs.size f cdv)).units + 1 < cLine := by have := hr.un; omega
    refine ⟨_, pss_cons (ps_set (i := 3) scEnt.nd rfl (Or.inr rfl) pe_dnewK)
      (pss_cons (ps_for (passes_of rfl) rfl (pi_range1 (by rfl) B.range (pa_cons (pv 1) pa_nil)) (pg_name (i := 4) scEnt.nd rfl (Or.inl rfl))
        (pss_cons (ps_set (i := 5) scEnt.nd rfl (Or.inl rfl) (pe_cal C2 hr (by rfl) (pa_cons (pv 0) (pa_cons pe_int pa_nil))))
        (pss_cons (ps_set (i := 6) scEnt.nd rfl (Or.inl rfl) (pe_cal C1 hr (by rfl) (pa_cons (pv 0) (pa_cons pe_int pa_nil))))
        (pss_cut (ps_if (PW.pt (pw_and (pt_cmpR op_gt (pv 6) pe_int (nomark _)) (pw_and1 (pt_cmpR op_gt (pe_callB call_lenD (by rfl) B.len PySem.boot_len (pa_cons (pv 3) pa_nil)) pe_int (nomark _)))))
            (pss_cons (ps_set (i := 7) scEnt.nd rfl (Or.inl rfl) (pe_ix (ix_listK rfl) (pe_callB (call_sortedD rfl) (by rfl) hso PyProof.Rows.boot_sorted (pa_cons (pv 3) pa_nil)) (pe_cal C1 hr (by rfl) (pa_cons (pv 0) (pa_cons (pe_callB call_lenD (by rfl) B.len PySem.boot_len (pa_cons (pv 3) pa_nil)) pa_nil))) (fun _ _ => rfl)))
            (pss_one (ps_if (pt_cmpR op_eq (pv 6) pe_int (nomark _))
              (pss_one (ps_set (i := 5) scEnt.nd rfl (Or.inl rfl) (pe_slice sl_str (pe_op op_add_str (pv 7) (pv 5)) po_none (po_some pe_int))))
              (pss_one (ps_set (i := 5) scEnt.nd rfl (Or.inl rfl) (pe_op op_add_str (pe_slice sl_str (pv 7) po_none (po_some (pe_un un_neg pe_int)))
                (pe_callTy call_str_int (by rfl) B.str PyProof.Rows.boot_str (pa_cons (pe_op op_sub pe_int (pe_callTy call_int1 (by rfl) B.int PyProof.Rows.boot_int (pa_cons (pe_cmpR op_eq (pe_slice sl_str (pv 7) (po_some (pe_un un_neg pe_int)) po_none) pe_str (nomark _)) pa_nil))) pa_nil))))))))
            pss_nil)
        (pss_one (ps_asg (pe_ix (ix_listK rfl) (pv 2) (pe_cal C1 hr (by rfl) (pa_cons (pv 0) (pa_cons (pe_callB (call_len_seq) (by rfl) B.len PySem.boot_len (pa_cons (pv 2) pa_nil)) pa_nil))) (fun _ _ => rfl)) (pg_sub (pv 3) (pv 5) (set_dict hu))))))))
      (pss_one (ps_ret (pe_lock (pe_lc (own := [("_law_bits_here", 5)]) (g := gName 5) (tt := tYes) rfl scEnt.nd (pi_keys (pv 3)) (blkOk_by (N := nEnt) (sc := defScope sEnt) (by decide +kernel))
          (fun _ _ _ _ _ => pg_name (i := 5) scEnt.nd rfl (Or.inl rfl)) (fun _ _ _ _ _ => pts_nil)
          (fun _ _ _ _ _ => pe_tup (pa_cons (pv 5) (pa_cons (pe_dget hu (pv 3) (pv 5) (fun _ _ => rfl)) pa_nil)))))))), ?_⟩
    intro D hD
    have gD := fresh_back hP.ex hD
    refine g_name ?_
    refine q_forR1 (ta := tCons (tVar 1) tNil) (n := (m : Int)) (ea_cons (ev_var rfl) ea_nil) (by omega) (fun i σ' H' => ∃ es o4 o5 o6 o7, σ' = [some (.ref p), some (.int (m : Int)), some (.ref nl), some (.ref D), o4, o5, o6, o7] ∧ EsOk es i ∧ Gq p g c G H (upd G D (.dK (kvOf es))) H') (fun H1 e1 => ?_) (fun i σ' H' hi hh => ?_) (fun σ' H' hh => ?_)
    · have h0 := Gq.new (o := .dK []) hP hD
      exact ⟨[], _, _, _, _, rfl, EsOk.nil 0, h0.trans (Gq.ext h0.pl e1)⟩
    · obtain ⟨es, o4, o5, o6, o7, rfl, hes, hg⟩ := hh
      have hel := hes.len
      have hG1 : (upd G D (.dK (kvOf es))) nl = some (.lst nxs) := by
        rw [upd_ne (fun z => by rw [z, gD] at hnl; cases hnl)]
        exact hnl
      have hGD : (upd G D (.dK (kvOf es))) D = some (.dK (kvOf es)) := upd_same
      generalize hGe : upd G D (.dK (kvOf es)) = G1 at *
      refine ep_callBits (g := g) (c := c) (G := G1) (m := 10) rfl ev_c (Nat.le_refl _) H' hg.pl _ fun H1 v g1 hv => ?_
      obtain ⟨l, rfl, hb, hl⟩ := hv
      refine g_name ?_
      refine ep_drw (g := g) (c := c) (G := G1) (z := 4) rfl ev_c (by decide) (by decide) H1 g1.pl _ fun H2 v g2 hv => ?_
      obtain ⟨kd, rfl, hk0, hk1⟩ := hv
      refine g_name ?_
      have g12 := (hg.trans g1).trans g2
      refine q_cut (M := fun σ2 H3 => ∃ l2 o7, σ2 = [some (.ref p), some (.int (m : Int)), some (.ref nl), some (.ref D), some (.int (i : Int)), some (.str (T l2)), some (.int kd), o7] ∧ IsB l2 ∧ l2.length ≤ 10 ∧ Gq p g c G H G1 H3) ?_ ?_
      · refine s_when (b := decide (1 < kd) && decide ((0 : Int) < ((kvOf es).length : Int))) (et_and (et_test (ev_op (r := rI0 fun i j => .bl (decide (j < i))) (ev_var rfl) ev_c rv_I0)) fun _ => et_test (ev_op (r := rI0 fun i j => .bl (decide (j < i))) (x := .int ((kvOf es).length : Int)) (fun H3 e3 Q q => ⟨.ref D, rfl, D, kvOf es, rfl, e3 _ _ (g12.pl.ex _ _ hGD), q _ (Ex.refl _)⟩) ev_c rv_I0)) (fun hb1 H3 e3 => ?_) (fun _ H3 e3 => ⟨l, o7, rfl, hb, hl, g12.trans (Gq.ext g12.pl e3)⟩)
        rw [Bool.and_eq_true] at hb1
        have hpos := of_decide_eq_true hb1.2
        have hP3 := g12.pl.ext e3
        have g3 := g12.trans (Gq.ext g12.pl e3)
        refine ⟨.ref D, rfl, D, kvOf es, es.map fun e => T e.1, rfl, .inl (hP3.ex _ _ hGD), kv_keys es, by rw [List.length_map]; omega, fun ys q hys _ hq => ?_⟩
        have hPq := hP3.new (o := .lst (ys.map V.str)) hq
        refine ep_drw (g := g) (c := c) (G := upd G1 q (.lst (ys.map V.str))) (z := ((kvOf es).length : Int)) rfl (fun H4 e4 Q q4 => ⟨.ref D, rfl, D, kvOf es, rfl, e4 _ _ ((Ex.new (fresh_back hP3.ex hq)) _ _ hGD), q4 _ (Ex.refl _)⟩) hpos (by rw [kv_len]; omega) (upd H3 q (.lst (ys.map V.str))) hPq _ fun H4 v g4 hv => ?_
        obtain ⟨j, rfl, hj0, hj1⟩ := hv
        have g4' := Gq.less (o := .lst (ys.map V.str)) hP3 hq ((Gq.new (o := .lst (ys.map V.str)) hP3 hq).trans g4)
        have hq4 := g4.pl.ex _ _ (upd_same (H := G1) (a := q) (o := .lst (ys.map V.str)))
        obtain ⟨jn, rfl⟩ : ∃ jn : Nat, j = (jn : Int) := ⟨j.toNat, by omega⟩
        have hyl : ys.length = es.length := by rw [hys.length_eq, List.length_map]
        rw [kv_len] at hj1
        have hjy : jn < ys.length := by omega
        have hm : ys[jn] ∈ es.map fun e => T e.1 := hys.mem_iff.mp (List.getElem_mem hjy)
        obtain ⟨r, hr1, hr2⟩ := List.mem_map.mp hm
        refine ⟨q, ys.map V.str, (jn : Int), .str (T r.1), rfl, rfl, sq_of hq4, atI_nat (by rw [List.getElem?_map, List.getElem?_eq_getElem hjy, ← hr2]; rfl), ?_⟩
        refine g_name ?_
        obtain ⟨hrb, hrl, _⟩ := hes.it r hr1
        have g5 := g3.trans g4'
        dsimp only
        change tIfS _ _ _ _ [some (.ref p), some (.int (m : Int)), some (.ref nl), some (.ref D), some (.int (i : Int)), some (.str (T l)), some (.int kd), some (.str (T r.1))] H4
        refine s_if (b := decide (V.int kd = V.int 2)) (et_test (ev_op (r := rEq) (ev_var rfl) ev_c (rv_eq rfl))) (fun _ H5 e5 => ?_) (fun _ H5 e5 => ?_)
        · refine s_asg (v := .str (T ((r.1 ++ l).take 10))) ?_ fun H6 e6 => ?_
          · have z := ev_slS (H := H5) (σ := [some (.ref p), some (.int (m : Int)), some (.ref nl), some (.ref D), some (.int (i : Int)), some (.str (T l)), some (.int kd), some (.str (T r.1))]) (l := r.1 ++ l) (lo := none) (hi := some ((10 : Nat) : Int)) (ev_addS (ta := tVar 7) (tb := tVar 5) (ev_var rfl) (ev_var rfl) (by omega)) eo_none (eo_some ev_c) (by rw [List.length_append]; omega)
            rw [cut_take] at z
            exact z
          · exact ⟨_, _, rfl, (hrb.app hb).take _, by rw [List.length_take]; omega, g5.trans (Gq.ext g5.pl (e5.trans e6))⟩
        · refine s_asg (v := .str (T (flip1 r.1))) (ev_flip rfl hrl) fun H6 e6 => ?_
          exact ⟨_, _, rfl, flip_isB hrb, flip_len hrl, g5.trans (Gq.ext g5.pl (e5.trans e6))⟩
      · rintro σ2 H3 ⟨l2, o7', rfl, hb2, hl2, g3⟩
        have hPn := g3.pl
        refine ⟨.ref nl, rfl, ep_drw (g := g) (c := c) (G := G1) (z := (nxs.length : Int)) rfl (ev_len (K := K) (ev_var rfl) (sq_of hG1)) (by omega) (by omega) H3 hPn _ fun H4 v g4 hv => ?_⟩
        obtain ⟨j, rfl, hj0, hj1⟩ := hv
        obtain ⟨jn, rfl⟩ : ∃ jn : Nat, j = (jn : Int) := ⟨j.toNat, by omega⟩
        have hjn : jn < nxs.length := by omega
        have g4' := g3.trans g4
        have hD4 := g4.pl.ex _ _ hGD
        refine ⟨nl, nxs, (jn : Int), nxs[jn], rfl, rfl, sq_of (g4.pl.ex _ _ hG1), atI_nat (List.getElem?_eq_getElem hjn), .ref D, rfl, .str (T l2), rfl, D, _, rfl, DPut.k (k := .inr (T l2)) hD4 (sz_lt (by rw [kv_len]; omega)), ?_⟩
        rw [kv_put]
        refine ⟨_, _, _, _, _, rfl, hes.put hb2 hl2 (hnx _ (List.getElem_mem hjn)), ?_⟩
        rw [← hGe] at g4'
        exact Gq.reset hP hD g4'
    · obtain ⟨es, o4, o5, o6, o7, rfl, hes, hg⟩ := hh
      rw [Int.toNat_natCast] at hes
      refine q_rows (p := p) (g := g) (c := c) (m := m) hg.pl rfl (fun _ => rfl) (fun _ => rfl) (fun _ => rfl) (hg.pl.ex _ _ upd_same) hes (by omega) fun G' H2 L us g2 h1 h2 => ?_
      refine k _ H2 L us es (Gq.trans ?_ g2) h1 h2 hes
      exact hg
end
end Wk

set_option Elab.async false
set_option linter.all false
set_option maxRecDepth 100000
set_option maxHeartbeats 4000000
/-! sorted of tuples (text, whole number or text), by the text -/
namespace SrtT
open PySem PySem.Spec PyProof.Rows L2 SrtO
open PySem.W (KatTups)
def IsSP (h : Heap) (v : Value) (x : Str) (y : Value) : Prop := ∃ a o t n, v = .ref a ∧ h.get? a = some o ∧ o.cls = .type "tuple" ∧ o.data = .seq #[.str x t, y] n
theorem IsSP.keeps {h h' : Heap} {v : Value} {x : Str} {y : Value} (p : IsSP h v x y) (k : ∀ b o, h.get? b = some o → o.cls = .type "tuple" → h'.get? b = some o) : IsSP h' v x y := by
  obtain ⟨a, o, t, n, e, ho, hc, hd⟩ := p
  exact ⟨a, o, t, n, e, k _ _ ho hc, hc, hd⟩
theorem firsts_sp {h : Heap} : ∀ {vs : List Value}, (∀ v ∈ vs, ∃ x y, IsSP h v x y) → ∃ fs : List Value, KatTups h vs fs ∧ fs.length = vs.length ∧ ∀ f ∈ fs, ∃ x t, f = Value.str x t
  | [], _ => ⟨[], KatTups.nil, rfl, fun _ hm => by simp at hm⟩
  | v :: vs, hp => by
    obtain ⟨fs, h1, h2, h3⟩ := firsts_sp (vs := vs) fun v' hm => hp v' (List.mem_cons_of_mem _ hm)
    obtain ⟨x, y, a, o, t, n, e, ho, hc, hd⟩ := hp v (List.mem_cons_self ..)
    subst e
    refine ⟨.str x t :: fs, KatTups.cons ho hc hd rfl h1, by rw [List.length_cons, List.length_cons, h2], fun f hm => ?_⟩
    rcases List.mem_cons.mp hm with rfl | hm
    · exact ⟨x, t, rfl⟩
    · exact h3 f hm
def ltX (a b : List Nat) : Bool := decide (a < b)
theorem swo_X : Swo ltX := by
  refine ⟨fun x y h => ?_, fun x y z h1 h2 => ?_⟩
  · exact decide_eq_false (List.lt_asymm (of_decide_eq_true h))
  · exact decide_eq_false (List.not_lt.mpr (List.le_trans (List.not_lt.mp (of_decide_eq_false h1)) (List.not_lt.mp (of_decide_eq_false h2))))
theorem swo_of {α : Type} (k : α → List Nat) : Swo fun x y => ltX (k x) (k y) := ⟨fun x y h => swo_X.asym _ _ h, fun x y z h1 h2 => swo_X.tr _ _ _ h1 h2⟩
section
variable {prog : Program} {w : World} {A : Around} {E : Value → Shared → Prop} {s : Shared}
def Flat2 (z : V) : Prop := (∃ i, z = .int i) ∨ ∃ x, z = .str x
theorem sp_cmp {vs : List Value} {k : Value → Str} {m : Str → V} (hm : ∀ v ∈ vs, Flat2 (m (k v))) (hp : ∀ v ∈ vs, ∃ y, IsSP s.heap v (k v) y ∧ RelV (m (k v)) y) :
    Cmp prog w A s (tuples' true) (fun p => p.1 ∈ vs) (lt2 fun v u => ltX (k v).cps.toList (k u).cps.toList) := by
  intro p q hp1 hq1
  obtain ⟨y, h1, r1⟩ := hp _ hp1
  obtain ⟨y', h2, r2⟩ := hp _ hq1
  have f1 := hm _ hp1
  show wpAny (model prog w) A (keyLt' (tuples' true) p.1 q.1) (fun r s' => s' = s ∧ r = ltX (k p.1).cps.toList (k q.1).cps.toList) (fun _ _ => False) s
  generalize k p.1 = x at h1 r1 f1 ⊢
  generalize k q.1 = x' at h2 r2 ⊢
  obtain ⟨a, o, t, n, e, ho, hc, hd⟩ := h1
  obtain ⟨a', o', t', n', e', ho', hc', hd'⟩ := h2
  rw [e, e']
  refine PySem.W.kat_lt ho hd ho' hd' ?_
  show PySem.W.KatLex prog w A true (decide (2 < 2)) _ [(.str x t, .str x' t'), (y, y')] 0 s
  refine PySem.W.kat_cons (SeqAt.EqAt.str_str x t x' t' prog w _ _ ?_)
  refine PySem.W.kat_go (fun e1 => ?_) (fun e1 => ?_)
  · have ex : x = x' := by simpa using e1
    subst ex
    have e3 : ltX x.cps.toList x.cps.toList = false := swo_X.refl _
    rcases f1 with ⟨i, hi⟩ | ⟨z, hz⟩
    · rw [hi] at r1 r2
      obtain ⟨t1, rfl⟩ := r1
      obtain ⟨t2, rfl⟩ := r2
      refine PySem.W.kat_yes (PySem.W.kat_cons (SeqAt.EqAt.int_int i t1 i t2 prog w _ _ ?_))
      refine PySem.W.kat_go (fun e2 => ?_) (fun e2 => absurd e2 (by simp))
      exact PySem.W.kat_yes (PySem.W.kat_nil ⟨rfl, e3.symm⟩)
    · rw [hz] at r1 r2
      obtain ⟨t1, rfl⟩ := r1
      obtain ⟨t2, rfl⟩ := r2
      refine PySem.W.kat_yes (PySem.W.kat_cons (SeqAt.EqAt.str_str z t1 z t2 prog w _ _ ?_))
      refine PySem.W.kat_go (fun e2 => ?_) (fun e2 => absurd e2 (by simp))
      exact PySem.W.kat_yes (PySem.W.kat_nil ⟨rfl, e3.symm⟩)
  · exact PySem.W.kat_no (oneLt_str ⟨rfl, rfl⟩)
theorem sp_sortable {a : Addr} {vs : List Value} {k : Value → Str} {m : Str → V} (h0 : 0 < vs.length) (hm : ∀ v ∈ vs, Flat2 (m (k v))) (hp : ∀ v ∈ vs, ∃ y, IsSP s.heap v (k v) y ∧ RelV (m (k v)) y) (ha : ∀ o, s.heap.get? a = some o → o.cls ≠ .type "tuple") : SortableO prog w A s a vs fun v u => ltX (k v).cps.toList (k u).cps.toList := by
  intro h' keep
  have hp' : ∀ v ∈ vs, ∃ y, IsSP h' v (k v) y ∧ RelV (m (k v)) y := fun v hm => by
    obtain ⟨y, h1, h2⟩ := hp v hm
    exact ⟨y, h1.keeps fun b o e c => keep b o (fun z => by subst z; exact ha o e c) e, h2⟩
  obtain ⟨fs, h1, h2, h3⟩ := firsts_sp fun v hm => by
    obtain ⟨y, h1, h2⟩ := hp' v hm
    exact ⟨_, y, h1⟩
  refine ⟨tuples' true, fun Q E hq => ?_, sp_cmp hm hp'⟩
  refine PySem.W.kat_kind (T := .type "str") h1 (by omega) (fun f hm => ?_) (by rfl) ?_
  · obtain ⟨x, t, rfl⟩ := h3 f hm
    exact PySem.W.Looks.now
  · have e : (Value.type "str" != Value.type "tuple") = true := by first | decide +kernel | rfl | decide
    rw [e]
    exact hq
/-- a list or a tuple in the heap -/
def IsSeq (h : Heap) (l : Addr) (vs : List Value) : Prop := ∃ (T : String) (o : Obj) (n : Nat), (T = "list" ∨ T = "tuple") ∧ h.get? l = some o ∧ o.cls = .type T ∧ o.data = .seq vs.toArray n
theorem sorted_seq {l : Addr} {vs : List Value} {ltv : Value → Value → Bool} {Q : Value → Shared → Prop} (O : Swo ltv) (hl : IsSeq s.heap l vs) (hz : vs.length ≤ sizeLine)
    (hS : 2 ≤ vs.length → ∀ (h₁ : Heap) (a : Addr), h₁.get? a = some (seqObj "list" vs.toArray 0) → (∀ b o, s.heap.get? b = some o → b ≠ a ∧ h₁.get? b = some o) → SortableO prog w A.in1.in1 { s with heap := h₁ } a vs ltv)
    (h : ∀ (h' : Heap) (d : Addr) (out : List Value), Srtd ltv out → Stb ltv out vs → (∀ b o, s.heap.get? b = some o → h'.get? b = some o) → s.heap.get? d = none → (∃ n, h'.get? d = some (seqObj "list" out.toArray n)) → Q (.ref d) { s with heap := h' }) :
    wpAny (model prog w) A (call (.builtin "sorted") [.ref l]) Q E s := by
  obtain ⟨T, o, n, hT, ho, hc, hd⟩ := hl
  refine Calls.call_function_entry kind_sorted plain_sorted entry_sorted (args_sorted1 _) ?_
  unfold Builtin.«sorted»
  refine wpAny_bind (m := checkCount "sorted" 1 1 _) (wpAny_pure ?_)
  refine wpAny_bind (wpAny_collect_seq l hT ho hc hd (fun h1 k1 => ?_) (by rw [List.size_toArray]; exact hz))
  refine wpAny_bind (wpAny_newList ?_ hz)
  have hoL : (h1.push (seqObj "list" vs.toArray 0)).get? h1.objs.size = some (seqObj "list" vs.toArray 0) := Heap.get?_push_size _ rfl
  have keep : ∀ b o, s.heap.get? b = some o → b ≠ h1.objs.size ∧ (h1.push (seqObj "list" vs.toArray 0)).get? b = some o := fun b o q => ⟨Nat.ne_of_lt (Heap.lt_size (k1 _ _ q)), Heap.get?_push_of_some _ (k1 _ _ q)⟩
  show wpAny _ _ _ _ _ { s with heap := h1.push (seqObj "list" vs.toArray 0) }
  refine wpAny_bind (wpAny_holding (wpAny_call_entry slot_list_sort ⟨_, hoL, rfl⟩ entry_list_sort (list_sort_ord O hoL hz (fun h2 => hS h2 _ _ hoL keep) fun out hs hb => ⟨_, rfl, ?_⟩) (args_list_sort _)))
  refine wpAny_pure ⟨_, rfl, h _ _ out hs hb (fun b o q => ?_) ?_ (sortedHeap_at hoL)⟩
  · rw [sortedHeap_old (keep b o q).1 (Heap.lt_size (keep b o q).2)]
    exact (keep b o q).2
  · show s.heap.get? h1.objs.size = none
    cases hx : s.heap.get? h1.objs.size with
    | none => rfl
    | some o => exact absurd (Heap.lt_size (k1 _ _ hx)) (Nat.lt_irrefl _)
theorem sorted_sp {l : Addr} {vs : List Value} {k : Value → Str} {m : Str → V} {Q : Value → Shared → Prop} (hl : IsSeq s.heap l vs) (hz : vs.length ≤ sizeLine) (hm : ∀ v ∈ vs, Flat2 (m (k v))) (hp : ∀ v ∈ vs, ∃ y, IsSP s.heap v (k v) y ∧ RelV (m (k v)) y)
    (h : ∀ (h' : Heap) (d : Addr) (out : List Value), Srtd (fun v u => ltX (k v).cps.toList (k u).cps.toList) out → Stb (fun v u => ltX (k v).cps.toList (k u).cps.toList) out vs → (∀ b o, s.heap.get? b = some o → h'.get? b = some o) → s.heap.get? d = none → (∃ n, h'.get? d = some (seqObj "list" out.toArray n)) → Q (.ref d) { s with heap := h' }) :
    wpAny (model prog w) A (call (.builtin "sorted") [.ref l]) Q E s := by
  refine sorted_seq (swo_of fun v => (k v).cps.toList) hl hz (fun h2 h₁ a ha kk => ?_) h
  refine sp_sortable (s := { s with heap := h₁ }) (by omega) hm (fun v hm => ?_) fun o e => ?_
  · obtain ⟨y, h1, h2⟩ := hp v hm
    exact ⟨y, h1.keeps fun b o e _ => (kk b o e).2, h2⟩
  · have e' : some o = some (seqObj "list" vs.toArray 0) := e.symm.trans ha
    cases e'
    intro c
    exact absurd (Value.type.inj c) (by decide)
end
end SrtT
namespace Wk
open PySem PySem.Spec PyProof.Rows L2 Evl SrtT
/-- what row stands at a reference -/
def rowAt (H : Hp) : V → Row
  | .ref t => match H t with
    | some (.tup [.str z, v]) => (z.cps.toList, v)
    | _ => ([], .non)
  | _ => ([], .non)
theorem rowAt_of {H : Hp} {b : Addr} {e : Row} (h : H b = some (.tup [.str (T e.1), e.2])) : rowAt H (.ref b) = e := by
  unfold rowAt
  dsimp only
  rw [h]
theorem EsT.rows {H : Hp} : ∀ {us : List V} {es : List Row}, EsT H us es → us.map (rowAt H) = es ∧ ∀ u ∈ us, ∃ b, u = .ref b ∧ H b = some (.tup [.str (T (rowAt H u).1), (rowAt H u).2])
  | _, _, .nil => ⟨rfl, fun _ h => by cases h⟩
  | _, _, .cons (b := b) (us := us) (e := e) h t => by
    obtain ⟨h1, h2⟩ := t.rows
    refine ⟨by rw [List.map_cons, h1, rowAt_of h], fun u hu => ?_⟩
    rcases List.mem_cons.mp hu with rfl | hu
    · exact ⟨b, rfl, by rw [rowAt_of h]; exact h⟩
    · exact h2 u hu
theorem est_of {H : Hp} : ∀ {us : List V}, (∀ u ∈ us, ∃ b, u = .ref b ∧ H b = some (.tup [.str (T (rowAt H u).1), (rowAt H u).2])) → EsT H us (us.map (rowAt H))
  | [], _ => .nil
  | u :: us, h => by
    obtain ⟨b, rfl, hb⟩ := h u List.mem_cons_self
    exact .cons hb (est_of fun x hx => h x (List.mem_cons_of_mem _ hx))
/-- rows by their texts -/
abbrev ltR (x y : Row) : Bool := ltX x.1 y.1
/-- es' is es sorted -/
def SrR (es' es : List Row) : Prop := SrtO.Srtd ltR es' ∧ SrtO.Stb ltR es' es
theorem SrR.uniq {a b es : List Row} (h : SrR a es) (k : SrR b es) : a = b :=
  SrtO.stb_uniq (swo_of fun e : Row => e.1) h.1 k.1 (h.2.trans ⟨k.2.perm.symm, fun x => (k.2.cls x).symm⟩)
def rSortR (K : PySem.W.Frag) : List V → Hp → VK → Prop := fun vs H Q => ∃ (a : Addr) (xs : List V) (es : List Row), vs = [V.ref a] ∧ (SqL K H a xs ∨ SqT K H a xs) ∧ EsT H xs es ∧ (es.map (·.1)).Nodup ∧ (∀ e ∈ es, Flat2 e.2) ∧
  ∀ ys es' p, SrR es' es → EsT H ys es' → H p = none → Q (.ref p) (upd H p (.lst ys))
theorem valE_mem {es : List Row} {e : Row} (nd : (es.map (·.1)).Nodup) (h : e ∈ es) : valV es e.1 = some e.2 := by
  obtain ⟨i, hi⟩ := List.getElem?_of_mem h
  exact val_at nd hi
section
variable {X : Cx}
theorem cr_sortedR {K : PySem.W.Frag} (hK : X.K = K) : CallR X (.builtin "sorted") (rSortR K) := by
  subst hK
  intro pins s σ H vs us Q I r h
  obtain ⟨a, xs, es, rfl, hs, he, nd, hf, q⟩ := h
  have hseq : ∃ its, Vals xs its ∧ IsSeq s.heap a its ∧ xs.length ≤ sizeLine := by
    rcases hs with hs | hs
    · obtain ⟨its, rv, hl, hz⟩ := I.list hs
      obtain ⟨o, h1, h2, n, h3⟩ := hl.isList
      exact ⟨its, rv, ⟨"list", o, n, .inl rfl, h1, h2, h3⟩, hz⟩
    · obtain ⟨its, rv, hl, hz⟩ := I.tuple hs
      obtain ⟨o, h1, h2, n, h3⟩ := hl
      exact ⟨its, rv, ⟨"tuple", o, n, .inr rfl, h1, h2, h3⟩, hz⟩
  obtain ⟨its, rv, hl, hz⟩ := hseq
  obtain ⟨u, rfl, ru⟩ := vals1 r
  obtain rfl : u = Value.ref a := ru
  obtain ⟨hr1, hr2⟩ := he.rows
  obtain ⟨e1, e2⟩ := refs_back rv fun x m => by
    obtain ⟨t, e, _⟩ := hr2 x m
    exact ⟨t, e⟩
  have hmem : ∀ x ∈ xs, rowAt H x ∈ es := fun x hx => by rw [← hr1]; exact List.mem_map.mpr ⟨x, hx, rfl⟩
  have hback : ∀ v ∈ its, backV v ∈ xs := fun v hv => by rw [e1]; exact List.mem_map.mpr ⟨v, hv, rfl⟩
  have hval : ∀ v ∈ its, (match valV es (rowAt H (backV v)).1 with | some z => z | none => V.non) = (rowAt H (backV v)).2 := fun v hv => by
    rw [valE_mem nd (hmem _ (hback v hv))]
  refine sorted_sp (k := fun u => T (rowAt H (backV u)).1) (m := fun z => match valV es z.cps.toList with | some z => z | none => V.non) hl (by rw [← rv.length]; exact hz) (fun v hv => ?_) (fun v hv => ?_) fun h' d out h1 h2 kp hd hn => ?_
  · show Flat2 (match valV es (rowAt H (backV v)).1 with | some z => z | none => V.non)
    rw [hval v hv]
    exact hf _ (hmem _ (hback v hv))
  · obtain ⟨t, rfl⟩ := e2 v hv
    obtain ⟨t', e, ht⟩ := hr2 _ (hback _ hv)
    cases e
    obtain ⟨_, its2, r2, o, ho, hc, n, hd⟩ := I.hok _ _ ht
    obtain ⟨u1, u2, rfl, ri, rj⟩ := vals2 r2
    obtain ⟨t1, rfl⟩ := ri
    refine ⟨u2, ⟨t, o, t1, n, rfl, ho, hc, hd⟩, ?_⟩
    show RelV (match valV es (rowAt H (backV (.ref t))).1 with | some z => z | none => V.non) u2
    rw [hval _ hv]
    exact rj
  · have h3 : ∀ u ∈ out, ∃ a, u = Value.ref a := fun u hu => e2 u (h2.perm.mem_iff.mp hu)
    obtain ⟨n, hn⟩ := hn
    have hb0 : SrtO.Stb (fun x y => ltX (rowAt H x).1 (rowAt H y).1) (out.map backV) xs := by
      rw [e1]
      exact SrtO.Stb.map (swo_of fun x => (rowAt H x).1) backV h2
    have hb : SrtO.Stb ltR ((out.map backV).map (rowAt H)) (xs.map (rowAt H)) := SrtO.Stb.map (swo_of fun e : Row => e.1) (rowAt H) hb0
    rw [hr1] at hb
    have hsr : SrtO.Srtd ltR ((out.map backV).map (rowAt H)) := SrtO.srtd_map (SrtO.srtd_map h1)
    refine ⟨.ref d, upd H d (.lst (out.map backV)), I.laidN (t' := s.toks) kp hd (I.hok.gone hd) ⟨?_, out, n, vals_back h3, hn⟩, rfl, q _ _ d ⟨hsr, hb⟩ (est_of fun u hu => hr2 u (hb0.perm.mem_iff.mp hu)) (I.hok.gone hd)⟩
    rw [hb0.perm.length_eq]
    exact hz
end
end Wk

set_option Elab.async false
set_option linter.all false
set_option maxRecDepth 100000
set_option maxHeartbeats 4000000
namespace Wk
open PySem PySem.Spec PyProof.Rows L2 Evl
/-- no text, whatever is laid -/
def NSt (K : PySem.W.Frag) (H : Hp) (v : V) : Prop := ∀ H', Ex H H' → ∃ t, TyX K H' v t ∧ PySem.W.kitOne K t (.type "str") = some false
theorem NSt.mono {K : PySem.W.Frag} {H H' : Hp} {v : V} (e : Ex H H') (h : NSt K H v) : NSt K H' v := fun H2 e2 => h H2 (e.trans e2)
theorem nst_dq {K : PySem.W.Frag} {H : Hp} {v : V} {d : PyData} (h : Dq H v d) (hs : isStr d = false) : NSt K H v := fun H' e => ⟨_, (h.mono e).ty, kit_ty (by rw [kit_str, hs])⟩
def bitB (c : Nat) : Bool := decide (c = 48) || decide (c = 49)
def rngB (l : List Nat) : Bool := decide (l.length ≤ 10) && l.all bitB
def adrB (l : List Nat) : Bool := rngB l && decide (l.length = 10)
theorem all_bits {l : List Nat} (h : IsB l) : l.all bitB = true := by
  rw [List.all_eq_true]
  intro c hc
  unfold bitB
  rcases h c hc with z | z <;> simp [z]
theorem rng_yes {l : List Nat} (h : IsB l) (hl : l.length ≤ 10) : rngB l = true := by
  unfold rngB
  rw [all_bits h, Bool.and_true]
  exact decide_eq_true hl
theorem adr_yes {l : List Nat} (h : IsB l) (hl : l.length = 10) : adrB l = true := by
  unfold adrB
  rw [rng_yes h (by omega), Bool.true_and]
  exact decide_eq_true hl
theorem bit_in (c : Nat) : inV (.str (T [c])) [.str "0", .str "1"] = bitB c := by
  have e0 : (Str.ofString "0") = T [48] := by decide +kernel
  have e1 : (Str.ofString "1") = T [49] := by decide +kernel
  show (eqV (.str (Str.ofString "0")) (.str (T [c])) || (eqV (.str (Str.ofString "1")) (.str (T [c])) || false)) = _
  rw [e0, e1]
  show ((T [48] == T [c]) || ((T [49] == T [c]) || false)) = _
  unfold bitB
  have b : ∀ a : Nat, (T [a] == T [c]) = decide (c = a) := fun a => by
    by_cases z : c = a
    · rw [z]; simp
    · rw [decide_eq_false z]
      exact beq_eq_false_iff_ne.mpr fun y => z (by have := T_inj y; simpa using this.symm)
  rw [b, b, Bool.or_false]
section
variable {K : PySem.W.Frag} {σ : L2.St} {H : Hp} {ta te : TE}
theorem ev_isiN {v : V} (h : Ev ta σ H v) (hn : NSt K H v) : Ev (tCB (rIsi K) (tCons ta (tCons (tC (.ty "str")) tNil))) σ H (.bl false) := fun H1 e Q q =>
  h H1 e _ fun H2 e2 => by
    obtain ⟨t, ht, hk⟩ := hn H2 (e.trans e2)
    exact ⟨v, .ty "str", t, .type "str", false, rfl, .ty "str", ht, hk, q H2 e2⟩
theorem ev_isiS {x : Str} (h : Ev ta σ H (.str x)) : Ev (tCB (rIsi K) (tCons ta (tCons (tC (.ty "str")) tNil))) σ H (.bl true) := ev_isi h (.str x) (kit_str (.str x))
abbrev rLenStr : List V → Hp → VK → Prop := fun xs H Q => ∃ z : Str, xs = [.str z] ∧ z.length ≤ sizeLine ∧ Q (.int z.length) H
theorem ev_lenS {l : List Nat} (h : Ev ta σ H (.str (T l))) (hl : l.length ≤ 1000) : Ev (tCB rLenStr (tCons ta tNil)) σ H (.int (l.length : Int)) := fun H1 e Q q =>
  h H1 e _ fun H2 e2 => ⟨T l, rfl, by rw [T_len]; exact sz_of (by omega), by rw [T_len]; exact q H2 e2⟩
/-- a list comprehension over a text -/
theorem el_lcS {l : List Nat} {j : Nat} {vs : List Nat} (v : Nat → V) (h : Ev ta σ H (.str (T l))) (hl : l.length ≤ 1000) (hw : ∀ x, wipe ((wipe σ vs).set j (some x)) vs = wipe σ vs)
    (he : ∀ (i c : Nat) H1, Ex H H1 → l[i]? = some c → Ev te ((wipe σ vs).set j (some (.str (T [c])))) H1 (v i)) :
    EvL (tLc (iStr ta) (gName j) tYes te vs) σ H (given l.length (fun _ => true) v) := fun H0 e Q q => h H0 e _ fun H1 e1 => by
  have hsz : (T l).cps.size = l.length := by simp [T]
  refine ⟨T l, rfl, fun Dl hD => ?_⟩
  have w := walk_str (z := T l)
  rw [hsz] at w
  refine lc_it w (Cw H1 (fun _ => true) v Dl) ⟨hD, Ex.new hD, upd_same⟩ (fun _ _ _ _ => trivial) (fun i x H' H2 hi p y => ?_) (fun H' p => q Dl H' (fresh_back e1 p.1) (e1.trans p.2.1) p.2.2)
  obtain ⟨rfl, c, hc, rfl⟩ := y
  have hc' : l[i]? = some c := by simpa [T] using hc
  exact ⟨hw _, cw_turn p (by omega) et_yes (fun _ => he i c H1 (e.trans e1) hc')⟩
theorem rng_map (l : List Nat) (f : Nat → V) : (List.range l.length).map (fun i => f (l.getD i 0)) = l.map f := by
  apply List.ext_getElem
  · simp
  · intro i h1 h2
    have h3 : i < l.length := by simpa using h1
    simp [List.getD_eq_getElem?_getD, List.getElem?_eq_getElem h3]
end
theorem op_in_seqK {X : Cx} {K : PySem.W.Frag} (hK : X.K = K) : OpR X (compareOp .In) (rIn K false) := by
  subst hK
  exact op_in_seq
section
variable {P : Program} {w : World} {K : PySem.W.Frag} {mg : Str → Option Value} {base : Heap} {f : Addr} {fd : FuncData}
/-! is_range -/
abbrev spRange (K : PySem.W.Frag) : Sp := spP fun H vs z => ∃ v, vs = [v] ∧ ((∃ l, v = .str (T l) ∧ l.length ≤ 100 ∧ z = .bl (rngB l)) ∨ (NSt K H v ∧ z = .bl false))
abbrev sRange : Stmt := top 14
abbrev nRange : List Str := ["thing", "sign"]
theorem scRange : FnScope nRange ["thing"] (defScope sRange) := ⟨rfl, rfl, rfl, by decide +kernel, rfl, by decide +kernel, by decide +kernel⟩
theorem ok_range (B : Bl mg) {t1 : Tok} (hM : mg "ADDRESS_LENGTH" = some (.int 10 t1)) (F : FnP K "is_range" sRange f fd) : FnOk P w K mg base CX0 1 f fd ["thing"] (spRange K) := by
  refine F.ok scRange (fun vs H Q E h => ?_) (fun cdv A outer s H vs Q E hr h => ?_)
  · obtain ⟨z, ⟨v, rfl, _⟩, _⟩ := h
    rfl
  · obtain ⟨z, ⟨v, rfl, hv⟩, k⟩ := h
    refine ⟨_, pss_cons (ps_if (PW.pt (pw_or (pt_not (pt_val (pe_callB call_isi (by rfl) B.isi boot_isinstance (pa_cons (pv 0) (pa_cons (pe_bltn (v := .ty "str") (by rfl) B.str PyProof.Rows.boot_str rfl) pa_nil)))))
        (pw_or1 (pt_cmpR op_gt (pe_callB call_len_str (by rfl) B.len PySem.boot_len (pa_cons (pv 0) pa_nil)) (pe_glob (v := .int 10) (by rfl) hM ⟨_, rfl⟩) (nomark _))))) (pss_one (ps_ret pe_bl)) pss_nil)
      (pss_one (ps_ret (pe_callB (cr_all rfl) (by rfl) B.all boot_all (pa_cons (pe_lc (own := [("sign", 1)]) (g := gName 1) (tt := tYes) rfl scRange.nd (pi_str (pv 0)) (blkOk_by (N := nRange) (sc := defScope sRange) (by decide +kernel))
        (fun _ _ _ _ _ => pg_name (i := 1) scRange.nd rfl (Or.inl rfl)) (fun _ _ _ _ _ => pts_nil) (fun _ _ _ _ _ => pe_cmpR (op_in_seqK (K := K) rfl) (pv 1) (pe_tup (pa_cons pe_str (pa_cons pe_str pa_nil))) rfl)) pa_nil)))), ?_⟩
    rcases hv with ⟨l, rfl, hl, rfl⟩ | ⟨hn, rfl⟩
    · have v0 : ∀ {H1 : Hp}, Ev (tVar 0) (start nRange [V.str (T l)]) H1 (.str (T l)) := ev_var rfl
      refine q_when (b := !true || decide ((10 : Int) < (l.length : Int))) (et_or (et_not (et_B (ev_isiS (K := K) v0))) fun _ => et_test (ev_op (r := rI0 fun i j => .bl (decide (j < i))) (ev_lenS v0 (by omega)) ev_c rv_I0)) (fun hb H1 e1 => ?_) (fun hb H1 e1 => ?_)
      · have hb' : (10 : Int) < (l.length : Int) := of_decide_eq_true (by simpa using hb)
        have e : rngB l = false := by
          unfold rngB
          rw [decide_eq_false (by omega), Bool.false_and]
        rw [e] at k
        exact k H1 e1
      · have hb' : ¬ (10 : Int) < (l.length : Int) := of_decide_eq_false (by simpa using hb)
        have e : rngB l = (l.map bitB).all id := by
          unfold rngB
          rw [decide_eq_true (by omega), Bool.true_and, List.all_map]
          rfl
        rw [e] at k
        have hl := el_lcS (H := H1) (σ := start nRange [V.str (T l)]) (ta := tVar 0) (te := tOp (rIn K false) (tVar 1) (tTup (tCons (tC (.str "0")) (tCons (tC (.str "1")) tNil)))) (j := 1) (vs := [1]) (fun i => V.bl (bitB (l.getD i 0))) v0 (by omega) (fun x => rfl) (fun i c H2 e2 hc => by
          have z := ev_inS (K := K) (σ := (wipe (start nRange [V.str (T l)]) [1]).set 1 (some (.str (T [c])))) (H := H2) (ta := tVar 1) (x := .str (T [c])) (ev_var rfl) (es_tup (xs := [.str "0", .str "1"]) (ea_cons ev_c (ea_cons ev_c ea_nil)) (by show 2 ≤ 100000; decide)) rfl rfl
          rw [bit_in] at z
          rw [show l.getD i 0 = c by rw [List.getD_eq_getElem?_getD, hc]; rfl]
          exact z)
        rw [given_yesAll, rng_map l fun c => V.bl (bitB c)] at hl
        refine s_ret (v := .bl ((l.map bitB).all id)) (ev_allL (K := K) ?_) fun H2 e2 => k H2 (e1.trans e2)
        rw [List.map_map]
        exact hl
    · have v0 : ∀ {H1 : Hp}, Ev (tVar 0) (start nRange [v]) H1 v := ev_var rfl
      exact q_when (b := !false || false) (et_or (et_not (et_B (ev_isiN (K := K) v0 hn))) fun z => (by cases z)) (fun _ H1 e1 => k H1 e1) (fun z => (by cases z))
end
end Wk

set_option Elab.async false
set_option linter.all false
set_option maxRecDepth 100000
set_option maxHeartbeats 4000000
namespace Wk
open PySem PySem.Spec PyProof.Rows L2 Evl
theorem g_two {i j : Nat} {x y : V} {σ : L2.St} {H : Hp} {k : L2.St → Hp → Prop} (h : k ((σ.set i (some x)).set j (some y)) H) : gCons (gName i) (gCons (gName j) gNil) [x, y] σ H k := ⟨_, _, rfl, ⟨_, _, rfl, ⟨rfl, h⟩⟩⟩
/-! rows as data -/
def nxD : V → PyData
  | .str z => .str z
  | .int i => .int i
  | _ => .none
theorem dq_nx {H : Hp} {v : V} (h : NxV v) : Dq H v (nxD v) := by
  rcases h with rfl | rfl | ⟨i, _, rfl⟩
  · exact .str _
  · exact .str _
  · exact .int _
theorem flat_nx {v : V} (h : NxV v) : SrtT.Flat2 v := by
  rcases h with rfl | rfl | ⟨i, _, rfl⟩
  · exact .inr ⟨_, rfl⟩
  · exact .inr ⟨_, rfl⟩
  · exact .inl ⟨_, rfl⟩
def rowD (e : Row) : PyData := .tuple [.str (T e.1), nxD e.2]
theorem EsT.dq {H : Hp} : ∀ {us : List V} {es : List Row}, EsT H us es → (∀ e ∈ es, NxV e.2) → DqA H us (es.map rowD)
  | _, _, .nil, _ => .nil
  | _, _, .cons h t, k => .cons (.tup h (.cons (.str _) (.cons (dq_nx (k _ List.mem_cons_self)) .nil))) (t.dq fun e he => k e (List.mem_cons_of_mem _ he))
/-- a row: a list or a tuple -/
def RowA (H : Hp) (a : Addr) (xs : List V) : Prop := H a = some (.lst xs) ∨ H a = some (.tup xs)
theorem RowA.mono {H H' : Hp} {a : Addr} {xs : List V} (e : Ex H H') (h : RowA H a xs) : RowA H' a xs := h.imp (e _ _) (e _ _)
def isLi : PyData → Bool
  | .list _ => true
  | _ => false
theorem kit_lst (d : PyData) : kitB (tyN d) "list" = some (isLi d) := by
  cases d with
  | none => exact show kitB "NoneType" "list" = some false by decide +kernel
  | bool b => exact show kitB "bool" "list" = some false by decide +kernel
  | int i => exact show kitB "int" "list" = some false by decide +kernel
  | str z => exact show kitB "str" "list" = some false by decide +kernel
  | list ds => exact show kitB "list" "list" = some true by decide +kernel
  | tuple ds => exact show kitB "tuple" "list" = some false by decide +kernel
  | dict ds => exact show kitB "dict" "list" = some false by decide +kernel
section
variable {K : PySem.W.Frag} {σ : L2.St} {H : Hp} {ta : TE}
theorem ev_isiD2 {v : V} {d : PyData} {n m : String} {b c : Bool} (h : Ev ta σ H v) (hd : Dq H v d) (h1 : kitB (tyN d) n = some b) (h2 : kitB (tyN d) m = some c) :
    Ev (tCB (rIsiT K) (tCons ta (tCons (tTup (tCons (tC (.ty n)) (tCons (tC (.ty m)) tNil))) tNil))) σ H (.bl (b || c)) := fun H1 e Q q =>
  h H1 e _ fun H2 e2 => ⟨by show 2 ≤ sizeLine; decide, fun p hp => ⟨v, p, [.ty n, .ty m], .type (tyN d), [.type n, .type m], b || c, rfl, upd_same, .cons (.ty n) (.cons (.ty m) .nil), (hd.mono ((e.trans e2).trans (Ex.new hp))).ty,
    kitAny_cons (kit_ty h1) (fun hb => kitAny_cons (kit_ty h2) (fun hc => by rw [hb, hc]; exact kitAny_nil) (fun hc => by rw [hc]; simp)) (fun hb => by rw [hb]; rfl), q _ (e2.trans (Ex.new hp))⟩⟩
end
/-! for i, x in enumerate(a list or a tuple); for x in a list or a tuple -/
theorem pi_either {X : Cx} {tg e : Expr} {w1 w2 : TI} (h1 : PI X tg e w1) (h2 : PI X tg e w2) : PI X tg e (fun σ H R => w1 σ H R ∨ w2 σ H R) := ⟨fun pins s σ H R I h => h.elim (h1.run pins s σ H R I) (h2.run pins s σ H R I)⟩
theorem pi_enumK {X : Cx} {K : PySem.W.Frag} (hK : X.K = K) {e : Expr} {ta : TA} {p pos tpos : Pos} {elts : List Expr} {kk : Nat} (hg : Gl X "enumerate") (hm : X.mg "enumerate" = none) (ha : PA X [e] ta) (hs : starEach [e] X.env = [(false, eval e X.env)] := by rfl) :
    PI X (.Tuple elts kk tpos) (.Call (.Name "enumerate" p) [e] [] pos) (fun σ H R => iEnum K ta σ H R ∨ iEnumT K ta σ H R) := by
  subst hK
  exact pi_either (pi_enum hg hm ha hs) (pi_enumT hg hm ha hs)
section
variable {K : PySem.W.Frag} {σ : L2.St} {H : Hp} {g : TG} {tu tz : TS} {D : Ends}
theorem s_forEnR {a : Addr} {xs : List V} {tl : TE} (h : Ev tl σ H (.ref a)) (hx : RowA H a xs) (Pv : Nat → L2.St → Hp → Prop) (h0 : ∀ H1, Ex H H1 → Pv 0 σ H1) (hl : ∀ i σ' H', i ≤ xs.length → Pv i σ' H' → RowA H a xs → (∀ o, H a = some o → H' a = some o))
    (hs : ∀ i y T σ' H', xs[i]? = some y → Pv i σ' H' → H' T = none → g (.ref T) σ' (upd H' T (.tup [.int (i : Nat), y])) fun σ2 H2 => tu { D with nx := Pv (i + 1), ct := Pv (i + 1), bk := D.nx } σ2 H2) (hd : ∀ σ' H', Pv xs.length σ' H' → D.nx σ' H') : tFor (fun σ H R => iEnum K (tCons tl tNil) σ H R ∨ iEnumT K (tCons tl tNil) σ H R) g tu D σ H := by
  rcases hx with hx | hx
  · exact .inl (h H (Ex.refl H) _ fun H1 e => ⟨a, xs, rfl, sq_of (e _ _ hx), for_it (walk_enum (K := K) (a := a) (xs := xs)) Pv (h0 H1 e) (fun i σ' H' hi p => sq_of (hl i σ' H' hi p (.inl hx) _ hx)) (fun i x σ' H2 H3 hi p y => by
      obtain ⟨T, u, y, rfl, hT, rfl, hu, hy⟩ := y
      cases hu
      exact hs i y T σ' H2 hy p hT) hd⟩)
  · exact .inr (h H (Ex.refl H) _ fun H1 e => ⟨a, xs, rfl, st_of (e _ _ hx), for_it (walk_enumT (K := K) (a := a) (xs := xs)) Pv (h0 H1 e) (fun i σ' H' hi p => st_of (hl i σ' H' hi p (.inr hx) _ hx)) (fun i x σ' H2 H3 hi p y => by
      obtain ⟨T, u, y, rfl, hT, rfl, hu, hy⟩ := y
      cases hu
      exact hs i y T σ' H2 hy p hT) hd⟩)
end
theorem val_none {l : List Nat} : ∀ {es : List Row}, l ∉ es.map (·.1) → valV es l = none
  | [], _ => rfl
  | e :: es, h => by
    obtain ⟨a, b⟩ := e
    rw [valV_neg (fun z => h (by rw [← z]; exact List.mem_cons_self))]
    exact val_none fun z => h (List.mem_cons_of_mem _ z)
theorem nd_at {es : List Row} {i : Nat} {e : Row} (nd : (es.map (·.1)).Nodup) (h : es[i]? = some e) : e.1 ∉ (es.take i).map (·.1) := by
  have z : ((es.take (i + 1)).map (·.1)).Nodup := List.Sublist.nodup ((List.take_sublist _ _).map _) nd
  rw [take_snoc h, List.map_append, List.nodup_append] at z
  exact fun hm => z.2.2 _ hm _ (by simp) rfl
end Wk

set_option Elab.async false
set_option linter.all false
set_option maxRecDepth 100000
set_option maxHeartbeats 4000000
namespace Wk
open PySem PySem.Spec PyProof.Rows L2 Evl
abbrev FnM (K : PySem.W.Frag) (x q : Str) (st : Stmt) (f : Addr) (fd : FuncData) : Prop := FunD K x q (defArgs st) (defBody st) (defScope st) [] [] f fd
def Of1 (p : Addr) (H H' : Hp) : Prop := ∀ b o, b ≠ p → H b = some o → H' b = some o
theorem Of1.trans {p : Addr} {H H1 H2 : Hp} (a : Of1 p H H1) (b : Of1 p H1 H2) : Of1 p H H2 := fun c o h1 h => b c o h1 (a c o h1 h)
theorem Of1.ex {p : Addr} {H H1 : Hp} (e : Ex H H1) : Of1 p H H1 := fun c o _ h => e c o h
theorem Of1.upd (x : Addr) (H : Hp) (o : HO) : Of1 x H (L2.upd H x o) := fun b u hb h => by rw [upd_ne hb]; exact h
theorem lk_putF {f g : Str} {v : V} {fs : List (Str × V)} (h : ¬ g = f) : (putF f v fs).lookup g = fs.lookup g := by rw [lookup_putF, if_neg h]
theorem lk_putS {f : Str} {v : V} {fs : List (Str × V)} : (putF f v fs).lookup f = some v := by rw [lookup_putF, if_pos rfl]
theorem len_putF (f : Str) (v : V) : ∀ fs : List (Str × V), (putF f v fs).length ≤ fs.length + 1
  | [] => Nat.le_refl _
  | (g, x) :: r => by
    have ih := len_putF f v r
    unfold putF
    split
    · simp
    · simp only [List.length_cons]; omega
/-! for x in a list or a tuple -/
def iRowK (K : PySem.W.Frag) (tl : TE) : TI := fun σ H R => tl σ H fun x H1 => ∃ a, x = .ref a ∧ (((∃ xs, SqL K H1 a xs) ∧ R (Itl K a) H1) ∨ ((∃ xs, SqT K H1 a xs) ∧ R (Itt K a) H1))
theorem pi_rowK {X : Cx} {K : PySem.W.Frag} (hK : X.K = K) {tg l : Expr} {tl : TE} (hl : PE X l tl) : PI X tg l (iRowK K tl) := by
  subst hK
  refine ⟨fun pins s σ H R I h => ?_⟩
  refine thn (hl.run pins s σ H _ I h) fun v s1 ⟨x, H1, I1, r1, q1⟩ => ?_
  obtain ⟨a, e, q1⟩ := q1
  subst e
  cases r1
  rcases q1 with ⟨⟨xs, hq⟩, q⟩ | ⟨⟨xs, hq⟩, q⟩
  · obtain ⟨its, rv, p, hz⟩ := I1.list hq
    refine wpAny_pyIter_list p.isList ?_
    refine ⟨s1.heap.objs.size, [s1.heap.objs.size], _, _, H1, rfl, I1.kept (t' := s1.toks) fun b o e => Heap.get?_push_of_some _ e, turn_list a _, ⟨_, Heap.get?_push_size _ rfl, rfl, rfl⟩, fun b hb => ?_, q⟩
    have e : b = s1.heap.objs.size := by simpa using hb
    subst e
    exact I1.fpOk (Nat.le_refl _) (I1.hok.fresh (Nat.le_refl _))
  · obtain ⟨its, rv, p, hz⟩ := I1.tuple hq
    refine wpAny_pyIter_tuple (show s1.heap.IsTuple a its.toArray from p) ?_
    refine ⟨s1.heap.objs.size, [s1.heap.objs.size], _, _, H1, rfl, I1.kept (t' := s1.toks) fun b o e => Heap.get?_push_of_some _ e, turn_tuple a _, ⟨_, Heap.get?_push_size _ rfl, rfl, rfl⟩, fun b hb => ?_, q⟩
    have e : b = s1.heap.objs.size := by simpa using hb
    subst e
    exact I1.fpOk (Nat.le_refl _) (I1.hok.fresh (Nat.le_refl _))
/-- {k: v for k, v in rows} -/
theorem dc_rows {K : PySem.W.Frag} {J : It} {us : List V} {es : List Row} {Gd : Hp → Prop} {i1 i2 : Nat} {vs : List Nat} {σ : L2.St} {H : Hp} {D : Addr} {Qd : Hp → Prop} (w : Walk J us.length Gd (fun i H x H' => H' = H ∧ us[i]? = some x)) (hD : H D = none) (hus : EsT H us es) (nd : (es.map (·.1)).Nodup) (hn : us.length ≤ 1000)
    (hG : ∀ H', Ex H H' → Gd H') (hw : ∀ x y, wipe (((wipe σ vs).set i1 (some x)).set i2 (some y)) vs = wipe σ vs) (h1 : ∀ x y, (((wipe σ vs).set i1 (some x)).set i2 (some y))[i1]? = some (some x)) (h2 : ∀ x y, (((wipe σ vs).set i1 (some x)).set i2 (some y))[i2]? = some (some y))
    (hq : ∀ H', Ex H H' → H' D = some (.dK (kvOf es)) → Qd H') :
    ∃ W : Nat → Nat → Hp → Prop, (∃ m, W 0 m (upd H D (.dK []))) ∧ ∀ i m H, W i m H →
      (J.stop i H ∧ Qd H) ∨ (J.go i H ∧ ∃ Nx : Hp → Prop, (∀ H', Nx H' → ∃ m', m' < m ∧ W (i + 1) m' H') ∧ ∀ x H', J.yld i H x H' → gTup K 2 (gCons (gName i1) (gCons (gName i2) gNil)) x (wipe σ vs) H' fun σ2 H2 => wipe σ2 vs = wipe σ vs ∧ tYes σ2 H2 fun b H3 =>
        if b = true then tVar i1 σ2 H3 fun y H4 => tVar i2 σ2 H4 fun z H5 => ∃ kvs k, y = kV k ∧ H5 D = some (.dK kvs) ∧ kvs.length < sizeLine ∧ Nx (upd H5 D (.dK (putK kvs k z))) else Nx H3) := by
  refine ⟨fun i m H' => m = us.length - i ∧ i ≤ us.length ∧ Ex H H' ∧ H' D = some (.dK (kvOf (es.take i))), ⟨us.length, by simp, Nat.zero_le _, Ex.new hD, by rw [List.take_zero]; exact upd_same⟩, ?_⟩
  rintro i m H1 ⟨rfl, hi, e1, d1⟩
  by_cases lt : i < us.length
  · refine .inr ⟨w.goes i H1 lt (hG H1 e1), fun H' => Ex H H' ∧ H' D = some (.dK (kvOf (es.take (i + 1)))), fun H' p => ⟨us.length - (i + 1), by omega, rfl, lt, p⟩, fun x H' y => ?_⟩
    obtain ⟨rfl, hx⟩ := w.yields i H1 x H' lt (hG H1 e1) y
    obtain ⟨b, e, rfl, he, hb⟩ := hus.at_ hx
    refine ⟨b, _, rfl, st_of (e1 _ _ hb), rfl, g_two ⟨hw _ _, ?_⟩⟩
    refine et_yes H' (Ex.refl _) _ fun H3 e3 => ?_
    rw [if_pos rfl]
    refine ⟨_, h1 _ _, _, h2 _ _, kvOf (es.take i), .inr (T e.1), rfl, e3 _ _ d1, ?_, Ex.mut (e1.trans e3) hD, ?_⟩
    · rw [kv_len, List.length_take]
      exact sz_lt (by omega)
    · rw [upd_same, kv_put, putK_new e.2 (val_none (nd_at nd he)), take_snoc he]
  · have e : i = us.length := by omega
    subst e
    rw [List.take_of_length_le (by rw [hus.length]; omega)] at d1
    exact .inl ⟨w.stops H1 (hG H1 e1), hq H1 e1 d1⟩
theorem EsT.of1 {x C dx : Addr} {fs : List (Str × V)} {H H' : Hp} (o : Of1 x H H') (hx : H x = some (.ins C dx fs)) : ∀ {us : List V} {es : List Row}, EsT H us es → EsT H' us es
  | _, _, .nil => .nil
  | _, _, .cons h t => .cons (o _ _ (fun z => by rw [z, hx] at h; cases h) h) (t.of1 o hx)
theorem RowA.of1 {x C dx : Addr} {fs : List (Str × V)} {H H' : Hp} {l : Addr} {us : List V} (o : Of1 x H H') (hx : H x = some (.ins C dx fs)) (h : RowA H l us) : RowA H' l us :=
  h.imp (fun h => o _ _ (fun z => by rw [z, hx] at h; cases h) h) (fun h => o _ _ (fun z => by rw [z, hx] at h; cases h) h)
/-! tables -/
structure TX (K : PySem.W.Frag) (CT : Addr) : Prop where
  ic : C8.InsC K CT
  nE : NoAttr K CT "entries"
  nN : NoAttr K CT "_nexts"
  ks : PySem.W.kitOne K (.ref CT) (.type "str") = some false
/-- a table of the rows es -/
def Tb (CT : Addr) (H : Hp) (x : Addr) (es : List Row) : Prop := ∃ dx fs te nd us' es', H x = some (.ins CT dx fs) ∧ fs.lookup ("entries" : Str) = some (.ref te) ∧ fs.lookup ("_nexts" : Str) = some (.ref nd) ∧ fs.lookup ("onward" : Str) = none ∧
  H te = some (.tup us') ∧ EsT H us' es' ∧ SrR es' es ∧ H nd = some (.dK (kvOf es))
theorem Tb.mono {CT : Addr} {H H' : Hp} {x : Addr} {es : List Row} (e : Ex H H') (h : Tb CT H x es) : Tb CT H' x es := by
  obtain ⟨dx, fs, te, nd, us', es', h1, h2, h3, h4, h5, h6, h7, h8⟩ := h
  exact ⟨dx, fs, te, nd, us', es', e _ _ h1, h2, h3, h4, e _ _ h5, h6.mono e, h7, e _ _ h8⟩
end Wk

set_option Elab.async false
set_option linter.all false
set_option maxRecDepth 100000
set_option maxHeartbeats 4000000
namespace Wk
open PySem PySem.Spec PyProof.Rows L2 Evl
/-! tests with draws -/
def EvTP (p g c : Addr) (G : Hp) (t : TT) (σ : L2.St) : Prop := ∀ H, Pq G H p g c → ∀ Q : Bool → Hp → Prop, (∀ H' b, Gq p g c G H G H' → Q b H') → t σ H Q
section
variable {p g c : Addr} {G : Hp} {σ : L2.St} {te : TE} {t u : TT}
theorem etp_eq {i : Nat} {z : Int} {k : Int} {E : XK} (hp : σ[i]? = some (some (.ref p))) (hz : Ev te σ G (.int z)) (h0 : 0 < z) (h1 : z ≤ 1000000000) : EvTP p g c G (tTest (tOp rEq (tCall spDrw [] E (tCons (tVar i) (tCons te tNil))) (tC (.int k)))) σ := fun H hP Q q => by
  refine ep_drw hp hz h0 h1 H hP _ fun H' v g1 hv => ?_
  obtain ⟨j, rfl, _⟩ := hv
  exact ⟨rfl, _, rfl, q H' _ g1⟩
theorem etp_or {a : Bool} {H : Hp} {Q : Bool → Hp → Prop} (hP : Pq G H p g c) (h1 : EvT t σ G a) (h2 : a = false → EvTP p g c G u σ) (k : ∀ H' b, Gq p g c G H G H' → (b = false → a = false) → Q b H') : tOr t u σ H Q := by
  refine h1 H hP.ex _ fun H1 e1 => ?_
  have g1 := Gq.ext hP e1
  cases a with
  | true =>
    rw [if_pos rfl]
    exact k H1 true g1 (fun z => by cases z)
  | false =>
    rw [if_neg (by decide)]
    exact h2 rfl H1 g1.pl _ fun H2 b g2 => k H2 b (g1.trans g2) fun _ => rfl
end
end Wk

set_option Elab.async false
set_option linter.all false
set_option maxRecDepth 100000
set_option maxHeartbeats 4000000
namespace Wk
open PySem PySem.Spec PyProof.Rows L2 Evl
/-! an own error with one field of any name -/
def spXF (C : Addr) (n : Str) : Sp := fun vs H Q _ => ∃ (a : Addr) (y : V), vs = [.ref a, y] ∧ H a = some (exo a C none) ∧ ∀ dx, H dx = none → dx ≠ a → Q .non (upd (upd H dx (exd dx [(n, y)])) a (exo a C (some dx)))
theorem mk_errF {C : Addr} {n : Str} {te : TE} {σ : L2.St} {H : Hp} {y : V} {W : XK} (h : Ev te σ H y) (k : ∀ d H', H d = none → Ex H H' → H' d = some (.xd [(n, y)]) → W (.ref C) (some d) H') : tMkO C (spXF C n) [] (tCons te tNil) σ H W := by
  refine h H (Ex.refl H) _ fun H1 e => ⟨by show 1 ≤ 1000; decide, fun a ha => ?_⟩
  refine ⟨a, y, rfl, upd_same, fun dx hd hne => ⟨rfl, dx, [(n, y)], upd_same, by rw [upd_ne hne, upd_same], ?_, ?_⟩⟩
  · rw [upd_ne hne] at hd
    exact hd
  · have hd1 : H1 dx = none := by rw [upd_ne hne] at hd; exact hd
    refine k dx _ (fresh_back e hd1) (fun b o hb => ?_) upd_same
    have hb1 := e b o hb
    have nb : b ≠ dx := ne_of_none hb1 hd1
    have na : b ≠ a := ne_of_none hb1 ha
    rw [upd_ne nb, del_ne na, upd_ne na, upd_ne nb, upd_ne na]
    exact hb1
structure ErrF (P : Program) (w : World) (K : PySem.W.Frag) (mg : Str → Option Value) (base : Heap) (x : Str) (C : Addr) (n : Str) : Prop where
  g : mg x = some (.ref C)
  oex : OexC K C
  xf : XfC K C
  no : PySem.W.findIn K (.ref C) n = some none
  te : PySem.W.exmOne K (.ref C) (.ref C) = some true
  ini : ∃ (fI : Addr) (fd : FuncData), PySem.W.findIn K (.ref C) "__init__" = some (some (.ref fI)) ∧ PySem.W.typeIn K (.ref fI) = some (.type "function") ∧ FnOk P w K mg base CX0 1 fI fd ["self", n] (spXF C n) ∧ Binds K fd ["self", n] []
theorem pmk_errF {X : Cx} {x n : Str} {C : Addr} {e : Expr} {ta : TA} {p pos : Pos} (T : ErrF X.prog X.w X.K X.mg X.base x C n) (hr : Room 2 X.A) (hg : Gl X x) (ha : PA X [e] ta)
    (hdb : (x == ("__debug__" : Str)) = false := by decide) (he : starEach [e] X.env = (false, eval e X.env) :: starEach [] X.env := by rfl) (hpl : (backTo pos (starEach [] X.env)).any (·.1) = false := by rfl) : PMk X (.Call (.Name x p) [e] [] pos) (tMkO C (spXF C n) [] ta) := by
  obtain ⟨fI, fd, h1, h2, h3, h4⟩ := T.ini
  exact pmk_oex T.oex h1 h2 h3 hr h4 .nil pass0 hg T.g ha hdb he hpl
section
variable {P : Program} {w : World} {K : PySem.W.Frag} {mg : Str → Option Value} {base : Heap} {f : Addr} {fd : FuncData}
abbrev sXT : Stmt := inClass (top 3) 0
theorem scXT : FnScope ["self", "index"] ["self", "index"] (defScope sXT) := ⟨rfl, rfl, rfl, by decide +kernel, rfl, by decide +kernel, by decide +kernel⟩
theorem ok_xt {C : Addr} (T : OexC K C) (no : PySem.W.findIn K (.ref C) "index" = some none) (F : FunD K "__init__" "BadTable.__init__" (defArgs sXT) (defBody sXT) (defScope sXT) [] [] f fd) : FnOk P w K mg base CX0 1 f fd ["self", "index"] (spXF C "index") := by
  refine F.ok scXT (fun vs H Q E h => ?_) (fun cdv A outer s H vs Q E hr h => ?_)
  · obtain ⟨a, y, rfl, _⟩ := h
    rfl
  · obtain ⟨a, y, rfl, ha, k⟩ := h
    exact ⟨_, pss_one (ps_ost (pv 0) (pv 1)), y, rfl, .ref a, rfl, a, C, rfl, T, no, .inl ⟨ha, k⟩⟩
end
/-! isinstance of a caught error with a field -/
def rIsF (K : PySem.W.Frag) (D a dx : Addr) : List V → Hp → VK → Prop := fun xs H Q => ∃ (c : V) (cv : Value) (b : Bool) (fs : List (Str × V)), xs = [.ref a, c] ∧ ClsV c cv ∧ PySem.W.kitOne K (.ref D) cv = some b ∧ H dx = some (.xd fs) ∧ Q (.bl b) H
def rIsFT (K : PySem.W.Frag) (D a dx : Addr) : List V → Hp → VK → Prop := fun xs H Q => ∃ (tp : Addr) (cs : List V) (us : List Value) (b : Bool) (fs : List (Str × V)), xs = [.ref a, .ref tp] ∧ H tp = some (.tup cs) ∧ Paired ClsV cs us ∧ PySem.W.kitAny K (.ref D) us = some b ∧ H dx = some (.xd fs) ∧ Q (.bl b) H
theorem excC_cls {K : PySem.W.Frag} {D : Addr} (C : ExcC K D) : (PySem.W.clsIn K D).isSome = true := by
  obtain ⟨cd, hc, _⟩ := PySem.W.any_some C.hd
  rw [hc]
  rfl
theorem inst_of {X : Cx} {pins : List (Addr × Obj)} {σ : L2.St} {H : Hp} {s : Shared} {a D dx : Addr} {oe : Obj} {pn : List (Addr × Obj)} {fs : List (Str × V)} (I : Inv (X.suite a ((a, oe) :: pn)) pins σ H s) (hz : Zc (.ref D) (some dx) oe) (hf : ∃ vs, oe.data = .fields vs) (ea : H dx = some (.xd fs)) :
    ∃ od, PySem.W.InstAt s.heap a oe D (some od) := by
  obtain ⟨ha, _⟩ := I.pin (a, oe) (List.mem_append_left _ List.mem_cons_self)
  obtain ⟨vs, hd⟩ := hf
  have hx : ObjOk X.prog X.w H s.heap dx (.xd fs) := I.hok dx _ ea
  obtain ⟨mA, hns, hr⟩ := hx
  obtain ⟨od, ho, hl⟩ := lookIn_ns hns
  exact ⟨od, ha, hz.1, by unfold PySem.W.notCls; rw [hd] <;> rfl, by rw [hz.2]; exact ho⟩
theorem call_isF {X : Cx} {K : PySem.W.Frag} {a D dx : Addr} {oe : Obj} {pn : List (Addr × Obj)} (hK : X.K = K) (C : ExcC K D) (hz : Zc (.ref D) (some dx) oe) (hf : ∃ vs, oe.data = .fields vs) : CallR (X.suite a ((a, oe) :: pn)) (.builtin "isinstance") (rIsF K D a dx) := by
  subst hK
  intro pins s σ H xs us Q I r h
  obtain ⟨c, cv, b, fs, rfl, hcv, e, ea, q⟩ := h
  obtain ⟨u1, u2, rfl, r1, r2⟩ := vals2 r
  obtain rfl : u1 = Value.ref a := r1
  have e2 := hcv.eq r2
  subst e2
  obtain ⟨od, J⟩ := inst_of I hz hf ea
  exact PySem.W.kia_one (PySem.W.kitx_exc (excC_cls C) C.hg C.hk C.hs C.ha C.hn C.ht C.hm) I.kIn J e (fun z => nomatch z) fun tk => ⟨.bl b, H, I.kept (t' := tk) fun _ _ z => z, rfl, q⟩
theorem call_isFT {X : Cx} {K : PySem.W.Frag} {a D dx : Addr} {oe : Obj} {pn : List (Addr × Obj)} (hK : X.K = K) (C : ExcC K D) (hz : Zc (.ref D) (some dx) oe) (hf : ∃ vs, oe.data = .fields vs) : CallR (X.suite a ((a, oe) :: pn)) (.builtin "isinstance") (rIsFT K D a dx) := by
  subst hK
  intro pins s σ H xs us Q I r h
  obtain ⟨tp, cs, ws, b, fs, rfl, hT, k, e, ea, q⟩ := h
  obtain ⟨u1, u2, rfl, r1, r2⟩ := vals2 r
  obtain rfl : u1 = Value.ref a := r1
  cases (show u2 = Value.ref tp from r2)
  obtain ⟨od, J⟩ := inst_of I hz hf ea
  obtain ⟨_, its, rv, o, h1, h2, n, h3⟩ := (show ObjOk X.prog X.w H s.heap tp (.tup cs) from I.hok tp _ hT)
  have e3 := ClsV.all k rv
  subst e3
  obtain ⟨oc, od2, dt, sl⟩ := o
  simp only at h2 h3
  subst h2 h3
  exact PySem.W.kia_tup (PySem.W.kitx_exc (excC_cls C) C.hg C.hk C.hs C.ha C.hn C.ht C.hm) I.kIn J h1 e (fun z => nomatch z) fun tk => ⟨.bl b, H, I.kept (t' := tk) fun _ _ z => z, rfl, q⟩
end Wk

set_option Elab.async false
set_option linter.all false
set_option maxRecDepth 100000
set_option maxHeartbeats 4000000
namespace Wk
open PySem PySem.Spec PyProof.Rows L2 Evl
/-! what isinstance tells of a value, whatever is laid -/
def IsK (K : PySem.W.Frag) (H : Hp) (v : V) (n : String) (b : Bool) : Prop := ∀ H', Ex H H' → ∃ t, TyX K H' v t ∧ PySem.W.kitOne K t (.type n) = some b
def IsKr (K : PySem.W.Frag) (H : Hp) (v : V) (b : Bool) : Prop := ∀ H', Ex H H' → ∃ t, TyX K H' v t ∧ PySem.W.kitAny K t [.type "list", .type "tuple"] = some b
theorem IsK.mono {K : PySem.W.Frag} {H H' : Hp} {v : V} {n : String} {b : Bool} (e : Ex H H') (h : IsK K H v n b) : IsK K H' v n b := fun H2 e2 => h H2 (e.trans e2)
theorem IsKr.mono {K : PySem.W.Frag} {H H' : Hp} {v : V} {b : Bool} (e : Ex H H') (h : IsKr K H v b) : IsKr K H' v b := fun H2 e2 => h H2 (e.trans e2)
theorem isk_dq {K : PySem.W.Frag} {H : Hp} {v : V} {d : PyData} {n : String} {b : Bool} (h : Dq H v d) (hk : kitB (tyN d) n = some b) : IsK K H v n b := fun H' e => ⟨_, (h.mono e).ty, kit_ty hk⟩
theorem isk_tup {K : PySem.W.Frag} {H : Hp} {a : Addr} {xs : List V} {n : String} {b : Bool} (h : H a = some (.tup xs)) (hk : kitB "tuple" n = some b) : IsK K H (.ref a) n b := fun H' e => ⟨_, .base (.tup (e _ _ h)), kit_ty hk⟩
theorem isk_lst {K : PySem.W.Frag} {H : Hp} {a : Addr} {xs : List V} {n : String} {b : Bool} (h : H a = some (.lst xs)) (hk : kitB "list" n = some b) : IsK K H (.ref a) n b := fun H' e => ⟨_, .base (.lst (e _ _ h)), kit_ty hk⟩
theorem isk_dK {K : PySem.W.Frag} {H : Hp} {a : Addr} {kvs : List (L2.Key × V)} {n : String} {b : Bool} (h : H a = some (.dK kvs)) (hk : kitB "dict" n = some b) : IsK K H (.ref a) n b := fun H' e => ⟨_, .base (.dK (e _ _ h)), kit_ty hk⟩
theorem any2 {K : PySem.W.Frag} {t : Value} {b c : Bool} (h1 : PySem.W.kitOne K t (.type "list") = some b) (h2 : PySem.W.kitOne K t (.type "tuple") = some c) : PySem.W.kitAny K t [.type "list", .type "tuple"] = some (b || c) :=
  kitAny_cons h1 (fun hb => kitAny_cons h2 (fun hc => by rw [hb, hc]; exact kitAny_nil) (fun hc => by rw [hc]; simp)) (fun hb => by rw [hb]; rfl)
theorem iskr_dq {K : PySem.W.Frag} {H : Hp} {v : V} {d : PyData} (h : Dq H v d) : IsKr K H v (isLi d || isTu d) := fun H' e => ⟨_, (h.mono e).ty, any2 (kit_ty (kit_lst d)) (kit_ty (kit_tup d))⟩
theorem iskr_row {K : PySem.W.Frag} {H : Hp} {a : Addr} {xs : List V} (h : RowA H a xs) : IsKr K H (.ref a) true := fun H' e => by
  rcases h with h | h
  · exact ⟨_, .base (.lst (e _ _ h)), any2 (b := true) (c := false) (kit_ty (show kitB "list" "list" = some true by decide +kernel)) (kit_ty (show kitB "list" "tuple" = some false by decide +kernel))⟩
  · exact ⟨_, .base (.tup (e _ _ h)), any2 (b := false) (c := true) (kit_ty (show kitB "tuple" "list" = some false by decide +kernel)) (kit_ty (show kitB "tuple" "tuple" = some true by decide +kernel))⟩
theorem iskr_dK {K : PySem.W.Frag} {H : Hp} {a : Addr} {kvs : List (L2.Key × V)} (h : H a = some (.dK kvs)) : IsKr K H (.ref a) false := fun H' e => ⟨_, .base (.dK (e _ _ h)), any2 (b := false) (c := false) (kit_ty (show kitB "dict" "list" = some false by decide +kernel)) (kit_ty (show kitB "dict" "tuple" = some false by decide +kernel))⟩
section
variable {K : PySem.W.Frag} {σ : L2.St} {H : Hp} {ta : TE}
theorem ev_isk {v : V} {n : String} {b : Bool} (h : Ev ta σ H v) (hk : IsK K H v n b) : Ev (tCB (rIsi K) (tCons ta (tCons (tC (.ty n)) tNil))) σ H (.bl b) := fun H1 e Q q =>
  h H1 e _ fun H2 e2 => by
    obtain ⟨t, ht, hb⟩ := hk H2 (e.trans e2)
    exact ⟨v, .ty n, t, .type n, b, rfl, .ty n, ht, hb, q H2 e2⟩
theorem ev_iskr {v : V} {b : Bool} (h : Ev ta σ H v) (hk : IsKr K H v b) : Ev (tCB (rIsiT K) (tCons ta (tCons (tTup (tCons (tC (.ty "list")) (tCons (tC (.ty "tuple")) tNil))) tNil))) σ H (.bl b) := fun H1 e Q q =>
  h H1 e _ fun H2 e2 => ⟨by show 2 ≤ sizeLine; decide, fun p hp => by
    obtain ⟨t, ht, hb⟩ := hk _ ((e.trans e2).trans (Ex.new hp))
    exact ⟨v, p, [.ty "list", .ty "tuple"], t, [.type "list", .type "tuple"], b, rfl, upd_same, .cons (.ty "list") (.cons (.ty "tuple") .nil), ht, hb, q _ (e2.trans (Ex.new hp))⟩⟩
end
/-! items of a row: right ones and bad ones -/
def hereB (z : Str) : Bool := inV (.str z) [.str "here", .str "drop"]
/-- no way -/
inductive BadW (K : PySem.W.Frag) (H : Hp) : V → Prop
  | str {z : Str} : hereB z = false → BadW K H (.str z)
  | int {i : Int} : ¬ (0 ≤ i ∧ i ≤ 7) → BadW K H (.int i)
  | bl (b : Bool) : BadW K H (.bl b)
  | other {v : V} : IsK K H v "str" false → IsK K H v "int" false → BadW K H v
def BadT (K : PySem.W.Frag) (H : Hp) (v : V) : Prop := (∃ l, v = .str (T l) ∧ l.length ≤ 100 ∧ rngB l = false) ∨ NSt K H v
/-- values that are themselves, compared -/
def okV : V → Bool
  | .non => true
  | .bl _ => true
  | .int _ => true
  | .str _ => true
  | .ref _ => true
  | _ => false
inductive BadI (K : PySem.W.Frag) (H : Hp) : V → Prop
  | no {v : V} : okV v = true → IsK K H v "tuple" false → BadI K H v
  | len {b : Addr} {xs : List V} : H b = some (.tup xs) → xs.length ≠ 2 → xs.length ≤ 100 → BadI K H (.ref b)
  | rng {b : Addr} {x y : V} : H b = some (.tup [x, y]) → BadT K H x → BadI K H (.ref b)
  | way {b : Addr} {l : List Nat} {y : V} : H b = some (.tup [.str (T l), y]) → IsB l → l.length ≤ 10 → BadW K H y → BadI K H (.ref b)
theorem BadW.mono {K : PySem.W.Frag} {H H' : Hp} {v : V} (e : Ex H H') (h : BadW K H v) : BadW K H' v := by
  cases h with
  | str a => exact .str a
  | int a => exact .int a
  | bl b => exact .bl b
  | other a b => exact .other (a.mono e) (b.mono e)
theorem BadT.mono {K : PySem.W.Frag} {H H' : Hp} {v : V} (e : Ex H H') (h : BadT K H v) : BadT K H' v := h.imp id (NSt.mono e)
theorem BadI.mono {K : PySem.W.Frag} {H H' : Hp} {v : V} (e : Ex H H') (h : BadI K H v) : BadI K H' v := by
  cases h with
  | no b a => exact .no b (a.mono e)
  | len a b c => exact .len (e _ _ a) b c
  | rng a b => exact .rng (e _ _ a) (b.mono e)
  | way a b c d => exact .way (e _ _ a) b c (d.mono e)
def GoodI (H : Hp) (v : V) (e : Row) : Prop := ∃ b, v = .ref b ∧ H b = some (.tup [.str (T e.1), e.2]) ∧ IsB e.1 ∧ e.1.length ≤ 10 ∧ NxV e.2
def ItO (K : PySem.W.Frag) (H : Hp) (v : V) : Option Row → Prop
  | some e => GoodI H v e
  | none => BadI K H v
theorem ItO.mono {K : PySem.W.Frag} {H H' : Hp} {v : V} (e : Ex H H') : ∀ {o : Option Row}, ItO K H v o → ItO K H' v o
  | some _, ⟨b, h1, h2, h3⟩ => ⟨b, h1, e _ _ h2, h3⟩
  | none, h => BadI.mono e h
theorem ItO.okV {K : PySem.W.Frag} {H : Hp} {v : V} : ∀ {o : Option Row}, ItO K H v o → okV v = true
  | some _, ⟨b, h1, _⟩ => by rw [h1]; rfl
  | none, h => by
    have h : BadI K H v := h
    cases h with
    | no b a => exact b
    | len a b c => rfl
    | rng a b => rfl
    | way a b c d => rfl
inductive ItT (K : PySem.W.Frag) (H : Hp) : List V → List (Option Row) → Prop
  | nil : ItT K H [] []
  | cons {v : V} {vs : List V} {o : Option Row} {os : List (Option Row)} : ItO K H v o → ItT K H vs os → ItT K H (v :: vs) (o :: os)
theorem ItT.mono {K : PySem.W.Frag} {H H' : Hp} (e : Ex H H') : ∀ {us : List V} {os : List (Option Row)}, ItT K H us os → ItT K H' us os
  | _, _, .nil => .nil
  | _, _, .cons h t => .cons (h.mono e) (t.mono e)
theorem ItT.length {K : PySem.W.Frag} {H : Hp} : ∀ {us : List V} {os : List (Option Row)}, ItT K H us os → us.length = os.length
  | _, _, .nil => rfl
  | _, _, .cons h t => by simp [t.length]
theorem ItT.at_ {K : PySem.W.Frag} {H : Hp} : ∀ {us : List V} {os : List (Option Row)} {i : Nat} {u : V}, ItT K H us os → us[i]? = some u → ∃ o, os[i]? = some o ∧ ItO K H u o
  | _, _, i, u, .nil, h => by cases h
  | _, _, 0, u, .cons (o := o) hb t, h => ⟨o, rfl, by rw [← Option.some.inj h]; exact hb⟩
  | _, _, i + 1, u, .cons hb t, h => t.at_ (show _ = some u from h)
theorem ItT.app {K : PySem.W.Frag} {H : Hp} : ∀ {us vs : List V} {os ps : List (Option Row)}, ItT K H us os → ItT K H vs ps → ItT K H (us ++ vs) (os ++ ps)
  | _, _, _, _, .nil, k => k
  | _, _, _, _, .cons h t, k => .cons h (t.app k)
theorem ItT.take {K : PySem.W.Frag} {H : Hp} : ∀ {us : List V} {os : List (Option Row)} (n : Nat), ItT K H us os → ItT K H (us.take n) (os.take n)
  | _, _, n, .nil => by rw [List.take_nil, List.take_nil]; exact .nil
  | _, _, 0, .cons h t => .nil
  | _, _, n + 1, .cons h t => .cons h (t.take n)
theorem ItT.set {K : PySem.W.Frag} {H : Hp} {v : V} {o : Option Row} (hv : ItO K H v o) : ∀ {us : List V} {os : List (Option Row)} (n : Nat), ItT K H us os → ItT K H (us.set n v) (os.set n o)
  | _, _, n, .nil => .nil
  | _, _, 0, .cons h t => .cons hv t
  | _, _, n + 1, .cons h t => .cons h (t.set hv n)
theorem ItT.of_est {K : PySem.W.Frag} {H : Hp} : ∀ {us : List V} {es : List Row}, EsT H us es → (∀ e ∈ es, IsB e.1 ∧ e.1.length ≤ 10 ∧ NxV e.2) → ItT K H us (es.map some)
  | _, _, .nil, _ => .nil
  | _, _, .cons h t, k => .cons ⟨_, rfl, h, k _ List.mem_cons_self⟩ (of_est t fun e he => k e (List.mem_cons_of_mem _ he))
theorem ItT.est {K : PySem.W.Frag} {H : Hp} : ∀ {us : List V} {es : List Row}, ItT K H us (es.map some) → EsT H us es ∧ ∀ e ∈ es, IsB e.1 ∧ e.1.length ≤ 10 ∧ NxV e.2
  | [], [], _ => ⟨.nil, fun _ h => by cases h⟩
  | [], _ :: _, h => by cases h
  | _ :: _, [], h => by cases h
  | u :: us, e :: es, .cons ⟨b, h1, h2, h3⟩ t => by
    obtain ⟨k1, k2⟩ := t.est
    refine ⟨by rw [h1]; exact .cons h2 k1, fun x hx => ?_⟩
    rcases List.mem_cons.mp hx with rfl | hx
    · exact h3
    · exact k2 x hx
/-! where the first fault is -/
def fAt : List (List Nat) → Nat → List (Option Row) → Option Nat
  | _, _, [] => none
  | _, i, none :: _ => some i
  | ks, i, some e :: r => if e.1 ∈ ks then some i else fAt (e.1 :: ks) (i + 1) r
def dueF (its : List (Option Row)) : Option Int := if 24 < its.length then some (-1) else (fAt [] 0 its).map fun n => (n : Int)
theorem fAt_none : ∀ {its : List (Option Row)} {ks : List (List Nat)} {i : Nat}, fAt ks i its = none → ∃ es : List Row, its = es.map some ∧ (es.map (·.1)).Nodup ∧ ∀ e ∈ es, e.1 ∉ ks
  | [], ks, i, _ => ⟨[], rfl, List.nodup_nil, fun _ h => by cases h⟩
  | none :: r, ks, i, h => by cases h
  | some e :: r, ks, i, h => by
    unfold fAt at h
    split at h
    · cases h
    · rename_i hk
      obtain ⟨es, h1, h2, h3⟩ := fAt_none h
      refine ⟨e :: es, by rw [h1]; rfl, ?_, fun x hx => ?_⟩
      · rw [List.map_cons, List.nodup_cons]
        refine ⟨fun hm => ?_, h2⟩
        obtain ⟨x, hx, hxe⟩ := List.mem_map.mp hm
        exact h3 x hx (by rw [hxe]; exact List.mem_cons_self)
      · rcases List.mem_cons.mp hx with rfl | hx
        · exact hk
        · exact fun z => h3 x hx (List.mem_cons_of_mem _ z)
theorem dueF_none {its : List (Option Row)} (h : dueF its = none) : ∃ es : List Row, its = es.map some ∧ (es.map (·.1)).Nodup ∧ es.length ≤ 24 := by
  unfold dueF at h
  split at h
  · cases h
  · rename_i hl
    have h2 : fAt [] 0 its = none := by
      cases hx : fAt [] 0 its with
      | none => rfl
      | some i => rw [hx] at h; cases h
    obtain ⟨es, h1, h3, _⟩ := fAt_none h2
    refine ⟨es, h1, h3, ?_⟩
    rw [h1, List.length_map] at hl
    omega
/-- a thing that is asked to be a row, and its fault -/
def RowF (K : PySem.W.Frag) (H : Hp) (v : V) (fo : Option Int) : Prop := (∃ l us its, v = .ref l ∧ RowA H l us ∧ ItT K H us its ∧ us.length ≤ 2000 ∧ fo = dueF its) ∨ (IsKr K H v false ∧ fo = some (-1))
theorem RowF.mono {K : PySem.W.Frag} {H H' : Hp} {v : V} {fo : Option Int} (e : Ex H H') (h : RowF K H v fo) : RowF K H' v fo := by
  rcases h with ⟨l, us, its, h1, h2, h3, h4⟩ | ⟨h1, h2⟩
  · exact .inl ⟨l, us, its, h1, h2.mono e, h3.mono e, h4⟩
  · exact .inr ⟨h1.mono e, h2⟩
section
variable {P : Program} {w : World} {K : PySem.W.Frag} {mg : Str → Option Value} {base : Heap} {f : Addr} {fd : FuncData}
/-! is_integer, is_between, is_router of any way -/
def WayI (K : PySem.W.Frag) (H : Hp) (v : V) (o : Option Int) : Prop := (∃ i, v = .int i ∧ o = some i) ∨ ((∃ b, v = .bl b) ∨ IsK K H v "int" false) ∧ o = none
theorem WayI.mono {H H' : Hp} {v : V} {o : Option Int} (e : Ex H H') (h : WayI K H v o) : WayI K H' v o := h.imp id fun ⟨a, b⟩ => ⟨a.imp id (IsK.mono e), b⟩
abbrev spInt2 (K : PySem.W.Frag) : Sp := spP fun H vs z => ∃ v o, vs = [v] ∧ WayI K H v o ∧ z = .bl o.isSome
theorem ok_int2 (B : Bl mg) (F : FnP K "is_integer" sIsInt f fd) : FnOk P w K mg base CX0 1 f fd ["thing"] (spInt2 K) := by
  refine F.ok scIsInt (fun vs H Q E h => ?_) (fun cdv A outer s H vs Q E hr h => ?_)
  · obtain ⟨z, ⟨v, d, rfl, _⟩, _⟩ := h
    rfl
  · obtain ⟨z, ⟨v, o, rfl, hv, rfl⟩, k⟩ := h
    refine ⟨_, pss_one (ps_ret (pe_and (pe_callB call_isi (by rfl) B.isi boot_isinstance (pa_cons (pv 0) (pa_cons (pe_bltn (v := .ty "int") (by rfl) B.int PyProof.Rows.boot_int rfl) pa_nil)))
      (pe_one (pe_not (pe_callB call_isi (by rfl) B.isi boot_isinstance (pa_cons (pv 0) (pa_cons (pe_bltn (v := .ty "bool") (by rfl) B.bool PyProof.Rows.boot_bool rfl) pa_nil))))))), ?_⟩
    have v0 : ∀ {H1 : Hp}, Ev (tVar 0) (start ["thing"] [v]) H1 v := ev_var rfl
    rcases hv with ⟨i, rfl, rfl⟩ | ⟨⟨b, rfl⟩ | hn, rfl⟩
    · exact s_ret (v := .bl (true && !false)) (ev_andV (ev_isk (K := K) v0 (isk_dq (.int i) (show kitB "int" "int" = some true by decide +kernel))) fun _ => ev_notV (ev_isk (K := K) v0 (isk_dq (.int i) (show kitB "int" "bool" = some false by decide +kernel)))) k
    · exact s_ret (v := .bl (true && !true)) (ev_andV (ev_isk (K := K) v0 (isk_dq (.bl b) (show kitB "bool" "int" = some true by decide +kernel))) fun _ => ev_notV (ev_isk (K := K) v0 (isk_dq (.bl b) (show kitB "bool" "bool" = some true by decide +kernel)))) k
    · exact s_ret (v := .bl (false && false)) (ev_andV (ev_isk (K := K) v0 hn) fun z => (by cases z)) k
def inR (a b : Int) : Option Int → Bool
  | some i => decide (a ≤ i) && decide (i ≤ b)
  | none => false
abbrev spBet2 (K : PySem.W.Frag) : Sp := spP fun H vs z => ∃ (a b : Int) (v : V) (o : Option Int), vs = [.int a, .int b, v] ∧ WayI K H v o ∧ z = .bl (inR a b o)
theorem ok_bet2 (C : Cal P w K mg base "is_integer" ["thing"] 1 (spInt2 K)) (F : FnP K "is_between" sBetween f fd) : FnOk P w K mg base CX0 2 f fd ["least", "most", "thing"] (spBet2 K) := by
  refine F.ok scBetween (fun vs H Q E h => ?_) (fun cdv A outer s H vs Q E hr h => ?_)
  · obtain ⟨z, ⟨a, b, v, d, rfl, _⟩, _⟩ := h
    rfl
  · obtain ⟨z, ⟨a, b, v, o, rfl, hv, rfl⟩, k⟩ := h
    refine ⟨_, pss_one (ps_ret (pe_and (pe_cal C hr (by rfl) (pa_cons (pv 2) pa_nil)) (pe_one (pe_chain op_le op_le (pv 0) (pv 2) (pv 1))))), ?_⟩
    have v0 : ∀ {H1 : Hp}, Ev (tVar 0) (start ["least", "most", "thing"] [.int a, .int b, v]) H1 (.int a) := ev_var rfl
    have v1 : ∀ {H1 : Hp}, Ev (tVar 1) (start ["least", "most", "thing"] [.int a, .int b, v]) H1 (.int b) := ev_var rfl
    have v2 : ∀ {H1 : Hp}, Ev (tVar 2) (start ["least", "most", "thing"] [.int a, .int b, v]) H1 v := ev_var rfl
    have c1 : Ev (tCall (spInt2 K) [] E0 (tCons (tVar 2) tNil)) (start ["least", "most", "thing"] [.int a, .int b, v]) H (.bl o.isSome) := ev_call (ea_cons v2 ea_nil) (spP_v fun H1 e => ⟨v, o, rfl, hv.mono e, rfl⟩)
    rcases hv with ⟨i, rfl, rfl⟩ | ⟨_, rfl⟩
    · exact s_ret (v := .bl (true && (decide (a ≤ i) && decide (i ≤ b)))) (ev_andV c1 fun _ => ev_chain v0 v2 v1 rv_I0 rv_I0) k
    · exact s_ret (v := .bl (false && false)) (ev_andV c1 fun z => (by cases z)) k
abbrev spRou2 (K : PySem.W.Frag) : Sp := spP fun H vs z => ∃ (n : Int) (v : V) (o : Option Int), vs = [.int n, v] ∧ WayI K H v o ∧ z = .bl (inR 0 (n - 1) o)
theorem ok_rou2 (C : Cal P w K mg base "is_between" ["least", "most", "thing"] 2 (spBet2 K)) (F : FnP K "is_router" sRouter f fd) : FnOk P w K mg base CX0 3 f fd ["size", "thing"] (spRou2 K) := by
  refine F.ok scRouter (fun vs H Q E h => ?_) (fun cdv A outer s H vs Q E hr h => ?_)
  · obtain ⟨z, ⟨n, v, d, rfl, _⟩, _⟩ := h
    rfl
  · obtain ⟨z, ⟨n, v, o, rfl, hv, rfl⟩, k⟩ := h
    refine ⟨_, pss_one (ps_ret (pe_cal C hr (by rfl) (pa_cons pe_int (pa_cons (pe_op op_sub (pv 0) pe_int) (pa_cons (pv 1) pa_nil))))), ?_⟩
    exact s_ret (ev_call (ea_cons ev_c (ea_cons (ev_op (ev_var rfl) ev_c rv_I0) (ea_cons (ev_var rfl) ea_nil))) (spP_v fun H1 e => ⟨0, n - 1, v, o, rfl, hv.mono e, rfl⟩)) k
/-! is_row, is_tuple_of, is_end -/
abbrev spRow3 (K : PySem.W.Frag) : Sp := spP fun H vs z => ∃ (v : V) (b : Bool), vs = [v] ∧ IsKr K H v b ∧ z = .bl b
abbrev sIsRow : Stmt := top 9
theorem scIsRow : FnScope ["thing"] ["thing"] (defScope sIsRow) := ⟨rfl, rfl, rfl, by decide +kernel, rfl, by decide +kernel, by decide +kernel⟩
theorem ok_row3 (B : Bl mg) (F : FnP K "is_row" sIsRow f fd) : FnOk P w K mg base CX0 1 f fd ["thing"] (spRow3 K) := by
  refine F.ok scIsRow (fun vs H Q E h => ?_) (fun cdv A outer s H vs Q E hr h => ?_)
  · obtain ⟨z, ⟨v, d, rfl, _⟩, _⟩ := h
    rfl
  · obtain ⟨z, ⟨v, b, rfl, hv, rfl⟩, k⟩ := h
    exact ⟨_, pss_one (ps_ret (pe_callB call_isiT (by rfl) B.isi boot_isinstance (pa_cons (pv 0) (pa_cons (pe_tup (pa_cons (pe_bltn (v := .ty "list") (by rfl) B.list PyProof.Rows.boot_list rfl) (pa_cons (pe_bltn (v := .ty "tuple") (by rfl) B.tuple PyProof.Rows.boot_tuple rfl) pa_nil))) pa_nil)))),
      s_ret (ev_iskr (ev_var rfl) hv) k⟩
abbrev sTupOf : Stmt := top 10
theorem scTupOf : FnScope ["many", "thing"] ["many", "thing"] (defScope sTupOf) := ⟨rfl, rfl, rfl, by decide +kernel, rfl, by decide +kernel, by decide +kernel⟩
abbrev spTupOf3 (K : PySem.W.Frag) : Sp := spP fun H vs z => ∃ (m : Int) (v : V), vs = [.int m, v] ∧ ((∃ b xs, v = .ref b ∧ H b = some (.tup xs) ∧ z = .bl (decide (V.int (xs.length : Int) = V.int m))) ∨ (IsK K H v "tuple" false ∧ z = .bl false))
theorem ok_tupOf3 (B : Bl mg) (F : FnP K "is_tuple_of" sTupOf f fd) : FnOk P w K mg base CX0 1 f fd ["many", "thing"] (spTupOf3 K) := by
  refine F.ok scTupOf (fun vs H Q E h => ?_) (fun cdv A outer s H vs Q E hr h => ?_)
  · obtain ⟨z, ⟨m, v, rfl, _⟩, _⟩ := h
    rfl
  · obtain ⟨z, ⟨m, v, rfl, hv⟩, k⟩ := h
    refine ⟨_, pss_one (ps_ret (pe_and (pe_callB call_isi (by rfl) B.isi boot_isinstance (pa_cons (pv 1) (pa_cons (pe_bltn (v := .ty "tuple") (by rfl) B.tuple PyProof.Rows.boot_tuple rfl) pa_nil)))
      (pe_one (pe_cmpR op_eq (pe_callB call_len_seq (by rfl) B.len PySem.boot_len (pa_cons (pv 1) pa_nil)) (pv 0) (nomark _))))), ?_⟩
    have v0 : ∀ {H1 : Hp}, Ev (tVar 0) (start ["many", "thing"] [.int m, v]) H1 (.int m) := ev_var rfl
    have v1 : ∀ {H1 : Hp}, Ev (tVar 1) (start ["many", "thing"] [.int m, v]) H1 v := ev_var rfl
    rcases hv with ⟨b, xs, rfl, hb, rfl⟩ | ⟨hn, rfl⟩
    · exact s_ret (v := .bl (true && decide (V.int (xs.length : Int) = V.int m))) (ev_andV (ev_isk (K := K) v1 (isk_tup hb (show kitB "tuple" "tuple" = some true by decide +kernel))) fun _ => ev_op (r := rEq) (ev_lenT (K := K) v1 (st_of hb)) v0 (rv_eq rfl)) k
    · exact s_ret (v := .bl (false && false)) (ev_andV (ev_isk (K := K) v1 hn) fun z => (by cases z)) k
abbrev spEnd3 (K : PySem.W.Frag) : Sp := spP fun H vs z => ∃ v : V, vs = [v] ∧ ((∃ x : Str, v = .str x ∧ z = .bl (hereB x)) ∨ (NSt K H v ∧ z = .bl false))
abbrev sEnd : Stmt := top 22
theorem scEnd : FnScope ["thing"] ["thing"] (defScope sEnd) := ⟨rfl, rfl, rfl, by decide +kernel, rfl, by decide +kernel, by decide +kernel⟩
theorem ok_end3 (B : Bl mg) {t1 t2 : Tok} (hM1 : mg "HERE" = some (.str "here" t1)) (hM2 : mg "DROP" = some (.str "drop" t2)) (F : FnP K "is_end" sEnd f fd) : FnOk P w K mg base CX0 1 f fd ["thing"] (spEnd3 K) := by
  refine F.ok scEnd (fun vs H Q E h => ?_) (fun cdv A outer s H vs Q E hr h => ?_)
  · obtain ⟨z, ⟨v, rfl, _⟩, _⟩ := h
    rfl
  · obtain ⟨z, ⟨v, rfl, hv⟩, k⟩ := h
    refine ⟨_, pss_one (ps_ret (pe_and (pe_callB call_isi (by rfl) B.isi boot_isinstance (pa_cons (pv 0) (pa_cons (pe_bltn (v := .ty "str") (by rfl) B.str PyProof.Rows.boot_str rfl) pa_nil)))
      (pe_one (pe_cmpR (op_in_seqK (K := K) rfl) (pv 0) (pe_tup (pa_cons (pe_glob (v := .str "here") (by rfl) hM1 ⟨_, rfl⟩) (pa_cons (pe_glob (v := .str "drop") (by rfl) hM2 ⟨_, rfl⟩) pa_nil))) rfl)))), ?_⟩
    have v0 : ∀ {H1 : Hp}, Ev (tVar 0) (start ["thing"] [v]) H1 v := ev_var rfl
    rcases hv with ⟨x, rfl, rfl⟩ | ⟨hn, rfl⟩
    · exact s_ret (v := .bl (true && hereB x)) (ev_andV (ev_isiS (K := K) v0) fun _ => ev_inS (K := K) v0 (es_tup (xs := [.str "here", .str "drop"]) (ea_cons ev_c (ea_cons ev_c ea_nil)) (by show 2 ≤ 100000; decide)) rfl rfl) k
    · exact s_ret (v := .bl (false && false)) (ev_andV (ev_isiN (K := K) v0 hn) fun z => (by cases z)) k
end
end Wk

set_option Elab.async false
set_option linter.all false
set_option maxRecDepth 100000
set_option maxHeartbeats 4000000
namespace Wk
open PySem PySem.Spec PyProof.Rows L2 Evl
/-! rows as data that compare -/
theorem strOk_T {l : List Nat} (h : IsB l) : PyData.strOk (T l) = true := by
  unfold PyData.strOk
  rw [← Array.all_toList]
  show l.all _ = true
  rw [List.all_eq_true]
  intro c hc
  rcases h c hc with z | z <;> (rw [z]; decide)
theorem lay_nx {v : V} (h : NxV v) : (nxD v).canLay0 = true ∧ (nxD v).depth ≤ 1 := by
  rcases h with rfl | rfl | ⟨i, _, rfl⟩
  · exact ⟨by show PyData.strOk _ = true; decide +kernel, by show (PyData.str _).depth ≤ 1; simp [PyData.depth]⟩
  · exact ⟨by show PyData.strOk _ = true; decide +kernel, by show (PyData.str _).depth ≤ 1; simp [PyData.depth]⟩
  · exact ⟨by show (PyData.int _).canLay0 = true; simp [PyData.canLay0], by show (PyData.int _).depth ≤ 1; simp [PyData.depth]⟩
theorem lay_rows : ∀ {es : List Row}, (∀ e ∈ es, IsB e.1 ∧ NxV e.2) → PyData.canLayAll0 (es.map rowD) = true ∧ PyData.depthAll (es.map rowD) ≤ 3
  | [], _ => ⟨by simp [PyData.canLayAll0], by simp [PyData.depthAll]⟩
  | e :: es, h => by
    obtain ⟨h1, h2⟩ := lay_rows (es := es) fun x hx => h x (List.mem_cons_of_mem _ hx)
    obtain ⟨hb, hn⟩ := h e List.mem_cons_self
    obtain ⟨l1, l2⟩ := lay_nx hn
    have hs := strOk_T hb
    refine ⟨?_, ?_⟩
    · rw [List.map_cons]
      simp [PyData.canLayAll0, rowD, PyData.canLay0, hs, l1, h1]
    · rw [List.map_cons]
      simp only [PyData.depthAll, rowD, PyData.depth]
      omega
theorem rows_dp {K : PySem.W.Frag} {H : Hp} {t : Addr} {us : List V} {es : List Row} (ht : H t = some (.tup us)) (hus : EsT H us es) (hes : ∀ e ∈ es, IsB e.1 ∧ NxV e.2) : Dp K H (.ref t) (.tuple (es.map rowD)) := by
  refine Dq.dp ?_ (.tup ht (hus.dq fun e he => (hes e he).2))
  simp only [PyData.canLay0]
  exact (lay_rows hes).1
theorem rows_shaped {es : List Row} (hes : ∀ e ∈ es, IsB e.1 ∧ NxV e.2) : SeqAt.shaped (.tuple (es.map rowD)) = true := by
  unfold SeqAt.shaped
  obtain ⟨h1, h2⟩ := lay_rows hes
  rw [Bool.and_eq_true]
  refine ⟨by simp only [PyData.canLay0]; exact h1, decide_eq_true ?_⟩
  simp only [PyData.depth]
  omega
theorem rows_eqv {es : List Row} (hes : ∀ e ∈ es, IsB e.1 ∧ NxV e.2) : PyData.eqv (.tuple (es.map rowD)) (.tuple (es.map rowD)) = true :=
  SeqAt.eqv_refl _ (by simp only [PyData.canLay0]; exact (lay_rows hes).1)
/-! what stays, with all that stands beside the pool -/
theorem kv_ne_pl {es : List Row} (h : ∀ e ∈ es, IsB e.1) {c g : Addr} {a s m : Int} : kvOf es ≠ plV c g a s m := fun z => by
  cases es with
  | nil => cases z
  | cons e r =>
    have z1 : (.inr (T e.1) : L2.Key) = kC := congrArg Prod.fst (List.cons.inj z).1
    have z2 : T e.1 = Str.ofString "cells" := by injection z1
    have z3 : Str.ofString "cells" = T [99, 101, 108, 108, 115] := by decide +kernel
    rw [z3] at z2
    have z4 := T_inj z2
    have := h e List.mem_cons_self 99 (by rw [z4]; simp)
    omega
section
variable {G H : Hp} {p g c : Addr}
theorem Pq.tupH (h : Pq G H p g c) {b : Addr} {xs : List V} (hb : H b = some (.tup xs)) : Hd2 H p g b = some (.tup xs) := by
  obtain ⟨cs, gs, k, s, m, h1, h2, h3, h4, h5, r⟩ := h.at_
  rw [hd2_at (fun z => by rw [z, h4] at hb; cases hb) (fun z => by rw [z, h5] at hb; cases hb)]
  exact hb
theorem EsT.hd (h : Pq G H p g c) : ∀ {us : List V} {es : List Row}, EsT H us es → EsT (Hd2 H p g) us es
  | _, _, .nil => .nil
  | _, _, .cons hb t => .cons (h.tupH hb) (t.hd h)
theorem Tb.hd {CT x : Addr} {es : List Row} (h : Pq G H p g c) (hes : ∀ e ∈ es, IsB e.1) (hT : Tb CT H x es) : Tb CT (Hd2 H p g) x es := by
  obtain ⟨dx, fs, te, nd, us', es', h1, h2, h3, h4, h5, h6, h7, h8⟩ := hT
  obtain ⟨cs, gs, k, s, m, i1, i2, i3, i4, i5, r⟩ := id h.at_
  refine ⟨dx, fs, te, nd, us', es', ?_, h2, h3, h4, h.tupH h5, h6.hd h, h7, ?_⟩
  · rw [hd2_at (fun z => by rw [z, i4] at h1; cases h1) (fun z => by rw [z, i5] at h1; cases h1)]
    exact h1
  · rw [hd2_at (fun z => by rw [z, i4] at h8; injection h8 with h8; injection h8 with h8; exact kv_ne_pl hes h8.symm) (fun z => by rw [z, i5] at h8; cases h8)]
    exact h8
end
section
variable {P : Program} {w : World} {K : PySem.W.Frag} {mg : Str → Option Value} {base : Heap} {f : Addr} {fd : FuncData} {CT CB : Addr}
/-- the entries are the sorted rows -/
theorem ask_sorted {H : Hp} {σ : L2.St} {tx tr : TE} {x L : Addr} {us : List V} {es : List Row} (X : TX K CT) (hx : Ev tx σ H (.ref x)) (hT : Tb CT H x es) (hr : Ev tr σ H (.ref L)) (hL : H L = some (.lst us)) (hus : EsT H us es) (hes : EsOk es 24) :
    Ev (tOp (rEqD K) (tFld K tx "entries") (tCB (fun xs H Q => ∃ p ys, xs = [.ref p] ∧ ((SqL K H p ys ∧ ∀ l, H l = none → Q (.ref l) (upd H l (.tup ys))) ∨ (SqT K H p ys ∧ Q (.ref p) H))) (tCons (tCB (rSortR K) (tCons tr tNil)) tNil))) σ H (.bl true) := fun H1 e Q q => by
  refine hx H1 e _ fun H2 e2 => ?_
  obtain ⟨dx, fs, te, nd, us', es', h1, h2, h3, h4, h5, h6, h7, h8⟩ := id hT
  refine ⟨x, CT, dx, fs, .ref te, rfl, (e.trans e2) _ _ h1, X.ic.cl, X.nE, h2, ?_⟩
  refine hr H2 (e.trans e2) _ fun H3 e3 => ?_
  have e03 := (e.trans e2).trans e3
  refine ⟨L, us, es, rfl, .inl (sq_of (e03 _ _ hL)), hus.mono e03, hes.nd, fun e he => flat_nx (hes.it e he).2.2, fun ys es2 p hsr hys hp => ?_⟩
  obtain rfl := hsr.uniq h7
  have e4 := Ex.new (o := .lst ys) hp
  have hpp : (upd H3 p (.lst ys)) p = some (.lst ys) := upd_same
  generalize upd H3 p (.lst ys) = H4 at *
  refine ⟨p, ys, rfl, .inl ⟨sq_of hpp, fun t ht => ?_⟩⟩
  have e5 := Ex.new (o := .tup ys) ht
  have htt : (upd H4 t (.tup ys)) t = some (.tup ys) := upd_same
  generalize upd H4 t (.tup ys) = H5 at *
  have hok : ∀ e ∈ es2, IsB e.1 ∧ NxV e.2 := fun e he => by
    have := hes.it e (hsr.2.perm.mem_iff.mp he)
    exact ⟨this.1, this.2.2⟩
  exact ⟨_, _, rows_dp ((((e03.trans e4).trans e5)) _ _ h5) (h6.mono ((e03.trans e4).trans e5)) hok, rows_dp htt (hys.mono (e4.trans e5)) hok, rows_shaped hok, rows_shaped hok, by rw [rows_eqv hok]; exact q H5 (((e2.trans e3).trans e4).trans e5)⟩
theorem ev_ixR {σ : L2.St} {H : Hp} {ta tb : TE} {a : Addr} {xs : List V} {i : Nat} {v : V} (ha : Ev ta σ H (.ref a)) (hb : Ev tb σ H (.int (i : Int))) (h : H a = some (.lst xs)) (hv : xs[i]? = some v) : Ev (tOp (rIxL K) ta tb) σ H v := ev_op ha hb (rv_ixL (sq_of h) (atI_nat hv))
end
end Wk

set_option Elab.async false
set_option linter.all false
set_option maxRecDepth 100000
set_option maxHeartbeats 2000000
namespace Wk
open PySem PySem.SeqAt
open AutoSeq1 (wpAny_loadPart')
open MeetsSeq MeetsSeq2 MeetsSeq3 SeqRoads2
section
variable {prog : Program} {w : World} {A : Around} {R : Result → Shared → Prop}
/-- at each turn the list is read anew; whether its i-th item is x -/
def InI (prog : Program) (w : World) (A : Around) (E : Value → Shared → Prop) (l : Addr) (x : Value) (e : Nat → Bool) (N : Nat) (I : Shared → Prop) : Prop :=
  ∀ s, I s → ∃ (items : Array Value) (n : Nat), s.heap.get? l = some { cls := .type "list", data := .seq items n } ∧ items.size = N ∧ ∀ (i : Nat) (h : i < items.size), wpAny (model prog w) A.in1 (eqBool items[i] x) (fun r s' => r = e i ∧ I s') E s
theorem in_loopB (l : Addr) (x : Value) (e : Nat → Bool) (N : Nat) (I : Shared → Prop) (hl : InI prog w A (fun er s' => R (.error er) s') l x e N I)
    (fin : ∀ (b : Bool) s, (b = true ↔ ∃ j, j < N ∧ e j = true) → I s → R (.ok (.ret (.bool b))) s) (k : Nat) :
    ∀ i : Nat, N - i = k → i ≤ N → (∀ j, j < i → e j = false) → ∀ s, I s →
      wpAny (model prog w) A.in1 (Builtin.«list.__contains__.loop» ⟨[.ref l, x, rawInt i], []⟩) (GQ.FinOf prog w A R) (fun er s' => R (.error er) s') s := by
  induction k with
  | zero =>
    intro i hk hi hno s h
    obtain ⟨items, n, hl1, hs1, _⟩ := hl _ h
    have hR : R (.ok (.ret (.bool false))) s := fin false s ⟨fun z => (by cases z), fun ⟨j, hj, hj2⟩ => by rw [hno j (by omega)] at hj2; cases hj2⟩ h
    obtain ⟨hp, g, d, tk, os⟩ := s
    wp_walk using wpAny_loadPart' hl1
    have hi1 : items[((i : Nat) : Int).toNat]? = none := by simp; omega
    rw [hi1]
    wp_walk
    exact hR
  | succ k ih =>
    intro i hk hi hno s h
    obtain ⟨items, n, hl1, hs1, turn⟩ := hl _ h
    have hlt : i < items.size := by omega
    have ht := turn i hlt
    obtain ⟨hp, g, d, tk, os⟩ := s
    wp_walk using wpAny_loadPart' hl1
    have hi1 : items[((i : Nat) : Int).toNat]? = some items[i] := by simp [hlt]
    have hc : ((i : Int) + 1) = ((i + 1 : Nat) : Int) := by omega
    rw [hi1]
    refine wpAny_bind (wpAny_mono ht (fun r s2 h2 => ?_) fun _ _ x => x)
    obtain ⟨hr, h2⟩ := h2
    subst hr
    cases hb : e i with
    | true =>
      have hR := fin true s2 ⟨fun _ => ⟨i, by omega, hb⟩, fun _ => rfl⟩ h2
      obtain ⟨hp2, g2, d2, tk2, os2⟩ := s2
      wp_walk
      exact hR
    | false =>
      have hrec := ih (i + 1) (by omega) (by omega) (fun j hj => by
        by_cases c : j = i
        · rw [c]; exact hb
        · exact hno j (by omega)) s2 h2
      obtain ⟨hp2, g2, d2, tk2, os2⟩ := s2
      wp_walk
      rw [hc]
      exact ⟨plainId_quiet plain_contains_loop _, codeAny_builtin entry_contains_loop (by
        rw [Around.under_plainId plain_contains_loop _]
        exact hrec)⟩
theorem list_inB (l : Addr) (x : Value) (e : Nat → Bool) (N : Nat) (I : Shared → Prop) (hl : InI prog w A (fun er s' => R (.error er) s') l x e N I)
    (fin : ∀ (b : Bool) s, (b = true ↔ ∃ j, j < N ∧ e j = true) → I s → R (.ok (.ret (.bool b))) s) {s : Shared} (h : I s) :
    wpAny (model prog w) A.in1 (Builtin.«list.__contains__» ⟨[.ref l, x], []⟩) (GQ.FinOf prog w A R) (fun er s' => R (.error er) s') s := by
  obtain ⟨items, n, hl1, hs1, _⟩ := hl _ h
  have hrec := in_loopB (A := A) (R := R) l x e N I hl fin _ 0 rfl (Nat.zero_le _) (fun j hj => by omega) s h
  obtain ⟨hp, g, d, tk, os⟩ := s
  wp_walk using wpAny_loadPart' hl1
  exact ⟨plainId_quiet plain_contains_loop _, codeAny_builtin entry_contains_loop (by
    rw [Around.under_plainId plain_contains_loop _]
    exact hrec)⟩
/-- the same of two lists -/
def EqI (prog : Program) (w : World) (A : Around) (E : Value → Shared → Prop) (l b : Addr) (e : Nat → Bool) (N : Nat) (I : Shared → Prop) : Prop :=
  ∀ s, I s → ∃ (items items2 : Array Value) (n n2 : Nat), s.heap.get? l = some { cls := .type "list", data := .seq items n } ∧ s.heap.get? b = some { cls := .type "list", data := .seq items2 n2 } ∧ items.size = N ∧ items2.size = N ∧
    ∀ (i : Nat) (h1 : i < items.size) (h2 : i < items2.size), wpAny (model prog w) A.in1 (eqBool items[i] items2[i]) (fun r s' => r = e i ∧ I s') E s
theorem eq_loopB (l b : Addr) (e : Nat → Bool) (N : Nat) (I : Shared → Prop) (hl : EqI prog w A (fun er s' => R (.error er) s') l b e N I)
    (fin : ∀ (r : Bool) s, (r = true ↔ ∀ j, j < N → e j = true) → I s → R (.ok (.ret (.bool r))) s) (k : Nat) :
    ∀ i : Nat, N - i = k → i ≤ N → (∀ j, j < i → e j = true) → ∀ s, I s →
      wpAny (model prog w) A.in1 (Builtin.«list.__eq__.loop» ⟨[.ref l, .ref b, rawInt i, rawInt 2], []⟩) (GQ.FinOf prog w A R) (fun er s' => R (.error er) s') s := by
  induction k with
  | zero =>
    intro i hk hi hyes s h
    obtain ⟨items, items2, n, n2, hl1, hb1, hs1, hs2, _⟩ := hl _ h
    have hR : R (.ok (.ret (.bool true))) s := fin true s ⟨fun _ j hj => hyes j (by omega), fun _ => rfl⟩ h
    obtain ⟨hp, g, d, tk, os⟩ := s
    wp_walk using wpAny_loadPart' hl1, wpAny_loadPart' hb1
    have hi1 : items[((i : Nat) : Int).toNat]? = none := by simp; omega
    have hi2 : items2[((i : Nat) : Int).toNat]? = none := by simp; omega
    rw [hi1, hi2]
    wp_walk using wpAny_loadPart' hl1, wpAny_loadPart' hb1
    show R (.ok (.ret (.bool (items.size == items2.size)))) _
    rw [hs1, hs2]
    simpa using hR
  | succ k ih =>
    intro i hk hi hyes s h
    obtain ⟨items, items2, n, n2, hl1, hb1, hs1, hs2, turn⟩ := hl _ h
    have hlt : i < items.size := by omega
    have hlt2 : i < items2.size := by omega
    have ht := turn i hlt hlt2
    obtain ⟨hp, g, d, tk, os⟩ := s
    wp_walk using wpAny_loadPart' hl1, wpAny_loadPart' hb1
    have hi1 : items[((i : Nat) : Int).toNat]? = some items[i] := by simp [hlt]
    have hi2 : items2[((i : Nat) : Int).toNat]? = some items2[i] := by simp [hlt2]
    have hc : ((i : Int) + 1) = ((i + 1 : Nat) : Int) := by omega
    rw [hi1, hi2]
    refine wpAny_bind (wpAny_mono ht (fun r s2 h2 => ?_) fun _ _ x => x)
    obtain ⟨hr, h2⟩ := h2
    subst hr
    cases he : e i with
    | false =>
      have hR := fin false s2 ⟨fun z => (by cases z), fun z => by rw [z i (by omega)] at he; cases he⟩ h2
      obtain ⟨items', items2', n', n2', hl1', hb1', hs1', hs2', _⟩ := hl _ h2
      obtain ⟨hp2, g2, d2, tk2, os2⟩ := s2
      wp_walk using wpAny_loadPart' hl1', wpAny_loadPart' hb1'
      have hlt' : i < items'.size := by omega
      have hlt2' : i < items2'.size := by omega
      have hi1' : items'[((i : Nat) : Int).toNat]? = some items'[i] := by simp [hlt']
      have hi2' : items2'[((i : Nat) : Int).toNat]? = some items2'[i] := by simp [hlt2']
      rw [hi1', hi2']
      wp_walk
      exact hR
    | true =>
      have hrec := ih (i + 1) (by omega) (by omega) (fun j hj => by
        by_cases c : j = i
        · rw [c]; exact he
        · exact hyes j (by omega)) s2 h2
      obtain ⟨hp2, g2, d2, tk2, os2⟩ := s2
      wp_walk
      rw [hc]
      exact ⟨plainId_quiet plain_eq_loop _, codeAny_builtin entry_eq_loop (by
        rw [Around.under_plainId plain_eq_loop _]
        exact hrec)⟩
theorem list_eqB (l b : Addr) (e : Nat → Bool) (N : Nat) (I : Shared → Prop) (hl : EqI prog w A (fun er s' => R (.error er) s') l b e N I)
    (fin : ∀ (r : Bool) s, (r = true ↔ ∀ j, j < N → e j = true) → I s → R (.ok (.ret (.bool r))) s) {s : Shared} (h : I s) :
    wpAny (model prog w) A.in1 (Builtin.«list.__eq__» ⟨[.ref l, .ref b], []⟩) (GQ.FinOf prog w A R) (fun er s' => R (.error er) s') s := by
  obtain ⟨items, items2, n, n2, hl1, hb1, hs1, hs2, _⟩ := hl _ h
  have hrec := eq_loopB (A := A) (R := R) l b e N I hl fin _ 0 rfl (Nat.zero_le _) (fun j hj => by omega) s h
  obtain ⟨hp, g, d, tk, os⟩ := s
  have f3 := AutoSeq1.sub_list_list
  have hne : ¬ (items.size != items2.size) = true := by simp [hs1, hs2]
  wp_walk using wpAny_loadPart' hl1, wpAny_loadPart' hb1
  exact ⟨plainId_quiet plain_eq_loop _, codeAny_builtin entry_eq_loop (by
    rw [Around.under_plainId plain_eq_loop _]
    exact hrec)⟩
end
section
variable {prog : Program} {w : World} {A : Around} {E : Value → Shared → Prop} {s : Shared}
theorem notIn_listB {l : Addr} {x : Value} {e : Nat → Bool} {N : Nat} {Q : Value → Shared → Prop} (I : Shared → Prop) (hl : InI prog w A E l x e N I)
    (fin : ∀ (b : Bool) s, (b = true ↔ ∃ j, j < N ∧ e j = true) → I s → Q (.bool (!b)) s) (h : I s) : wpAny (model prog w) A (compareOp .NotIn x (.ref l)) Q E s := by
  obtain ⟨items, n, hl1, hs1, _⟩ := hl _ h
  show wpAny _ A (do return .bool (!(← contains (.ref l) x))) Q E s
  refine wpAny_bind (wpAny_contains_slot ⟨_, hl1, rfl⟩ F.slot_list_contains (wpAny_mono (GQ.call_here F.slot_list_contains ⟨_, hl1, rfl⟩ F.entry_list_contains (F.args_list_contains_2 _ _)
    (list_inB (R := wants (fun v s' => ∃ b, v = .bool b ∧ Q (.bool (!b)) s') E) l x e N I hl (fun b s' hb hI => ⟨b, rfl, fin b s' hb hI⟩) h)) (fun v s' hv => ?_) fun _ _ e => e))
  obtain ⟨b, rfl, hq⟩ := hv
  exact wpAny_truthy_bool (wpAny_pure hq)
theorem rc_listB {l b : Addr} {e : Nat → Bool} {N : Nat} {Q : Value → Shared → Prop} (hu : A.units < cLine) (I : Shared → Prop) (hl : EqI prog w A E l b e N I)
    (fin : ∀ (r : Bool) s, (r = true ↔ ∀ j, j < N → e j = true) → I s → Q (.bool r) s) (h : I s) : wpAny (model prog w) A (richCompare .Eq (.ref l) (.ref b)) Q E s := by
  obtain ⟨items, items2, n, n2, hl1, hb1, _, _, _⟩ := hl _ h
  refine wpAny_richCompare_same_room (op := .Eq) ⟨_, hl1, rfl⟩ ⟨_, hb1, rfl⟩ F.slot_list_eq (GQ.call_here F.slot_list_eq ⟨_, hl1, rfl⟩ F.entry_list_eq (F.args_list_eq_2 _ _) ?_) hu
  exact list_eqB (R := wants (fun v s' => v ≠ .notImplemented ∧ Q v s') E) l b e N I hl (fun r s' hr q => ⟨(fun x => nomatch x), fin r s' hr q⟩) h
end
end Wk

set_option Elab.async false
set_option linter.all false
set_option maxRecDepth 100000
set_option maxHeartbeats 2000000
namespace Wk
open L2 PySem PySem.Spec PyProof.Rows
/-! an own == that tells True or False -/
abbrev EqvB := V → V → Bool → Hp → Prop
def MonB (D : EqvB) : Prop := ∀ x y z H H', Ext H H' → D x y z H → D x y z H'
def RcB (X : Cx) (n : Nat) (D : EqvB) : Prop :=
  ∀ (A : Around) (pins : List (Addr × Obj)) (s : Shared) (σ : L2.St) (H : Hp) (x y : V) (u v : Value) (z : Bool), Sub X n A → Inv X pins σ H s → RelV x u → RelV y v → D x y z H →
    wpAny (model X.prog X.w) A (richCompare .Eq u v) (fun r s' => r = .bool z ∧ ∃ H', Inv X pins σ H' s' ∧ Ext H H') X.xe s
def EqB (X : Cx) (n : Nat) (D : EqvB) : Prop :=
  ∀ (A : Around) (pins : List (Addr × Obj)) (s : Shared) (σ : L2.St) (H : Hp) (x y : V) (u v : Value) (z : Bool), Sub X n A → Inv X pins σ H s → RelV x u → RelV y v → D x y z H →
    wpAny (model X.prog X.w) A (eqBool u v) (fun r s' => r = z ∧ ∃ H', Inv X pins σ H' s' ∧ Ext H H') X.xe s
def DInsB (C : Addr) (R : Addr → Addr → Bool → Hp → Prop) : EqvB := fun x y z H => ∃ a b dx dy fs gs, x = .ref a ∧ y = .ref b ∧ H a = some (.ins C dx fs) ∧ H b = some (.ins C dy gs) ∧ R a b z H
def spEqB (R : Addr → Addr → Bool → Hp → Prop) : Sp := fun vs H Q _ => ∃ a b z, vs = [.ref a, .ref b] ∧ R a b z H ∧ ∀ H', Ext H H' → Q (.bl z) H'
section
variable {X : Cx} {n : Nat} {D : EqvB}
theorem rcB_ins {CX : CXT} {C f : Addr} {fd : FuncData} {ps : List Str} {R : Addr → Addr → Bool → Hp → Prop} {E : XK} (F : FnOk X.prog X.w X.K X.mg X.base CX n f fd ps (spEqB R))
    (hs : PySem.W.findIn X.K (.ref C) "__eq__" = some (some (.ref f))) (hf : PySem.W.isFn X.K (.ref f) = true) (hb : Binds X.K fd ps []) (hx : Passes CX X E) : RcB X n (DInsB C R) := by
  intro A pins s σ H x y u v z sb I rx ry d
  obtain ⟨a, b, dx, dy, fs, gs, rfl, rfl, ha, hb', hr⟩ := d
  cases rx
  cases ry
  obtain ⟨mA, J, _⟩ := ins_get I.hok ha
  obtain ⟨mB, J', _⟩ := ins_get I.hok hb'
  obtain ⟨od, J, _⟩ := J.look
  obtain ⟨od', J', _⟩ := J'.look
  obtain ⟨m, hF⟩ := I.fr
  refine PySem.W.cmp_K (op := .Eq) (tb := .ref C) sb.room.units0 hF I.ok.mod.kin J J'.type (by simp [PySem.W.notFirst]) hs hf ?_
  have hsp : spEqB R [.ref a, .ref b] H (fun v H' => v = .bl z ∧ Ext H H') E := ⟨a, b, z, rfl, hr, fun H' e => ⟨rfl, e⟩⟩
  have e0 : Env0 X.prog X.w X.K X.mg X.base A X.stack s H := by
    have e := I.env0
    exact ⟨by rw [sb.fr]; exact e.frames, e.mod, e.bs, e.bsz, e.funs, e.frf, e.hok, e.bare⟩
  have hl := F.len _ _ _ _ hsp
  have r2 : Vals [V.ref a, V.ref b] [Value.ref a, Value.ref b] := .cons rfl (.cons rfl .nil)
  refine wpAny_call (codeAny_mono (F.run A X.stack s H ⟨[.ref a, .ref b], []⟩ [.ref a, .ref b] [.ref a, .ref b] _ E sb.room e0 (by
    have := hb s [.ref a, .ref b] I.kIn (by simpa using hl)
    simpa using this) r2 hsp) fun r s' hq => ?_)
  cases r with
  | error e => exact hx pins σ H s e s' I hq
  | ok fl =>
    cases fl with
    | ret w =>
      obtain ⟨zz, H', I', rz, ez, ex⟩ := I.after hq
      subst ez
      cases rz
      exact ⟨rfl, H', I', ex⟩
    | next => exact False.elim hq
    | brk => exact False.elim hq
    | cont => exact False.elim hq
theorem RcB.eqB (h : RcB X n D) (hr : ∀ x y z H, D x y z H → ∃ a b, x = .ref a ∧ y = .ref b) (hs : ∀ a z H, D (.ref a) (.ref a) z H → z = true) : EqB X n D := by
  intro A pins s σ H x y u v z sb I rx ry d
  obtain ⟨a, b, rfl, rfl⟩ := hr _ _ _ _ d
  cases rx
  cases ry
  by_cases hab : a = b
  · subst hab
    rw [hs _ _ _ d]
    exact SeqAt.EqAt.same (A := A) (s := s) (.ref a) X.prog X.w X.xe _ ⟨rfl, H, I, Ext.rfl'⟩
  · refine GQ.eqBool_refG hab (wpAny_mono (h A pins s σ H (.ref a) (.ref b) _ _ z sb I rfl rfl d) (fun r s' q => ?_) fun _ _ x => x)
    obtain ⟨hr', q⟩ := q
    exact ⟨z, hr', rfl, q⟩
/-- x == y -/
def rEqB (D : EqvB) : R2 := fun x y H Q => ∃ z, D x y z H ∧ ∀ H', Ext H H' → Q (.bl z) H'
theorem op_eqB (h : RcB X n D) (hr : Room n X.A) : OpR X (compareOp .Eq) (rEqB D) := by
  intro pins s σ H x y v u Q I rx ry hq
  obtain ⟨z, d, q⟩ := hq
  show wpAny (model X.prog X.w) X.A (richCompare .Eq v u) (EP X pins σ Q) X.xe s
  refine wpAny_mono (h X.A pins s σ H x y v u z ⟨hr, rfl⟩ I rx ry d) (fun r s' zz => ?_) fun _ _ x => x
  obtain ⟨hr', H', I', e⟩ := zz
  subst hr'
  exact ⟨.bl z, H', I', rfl, q H' e⟩
/-- x not in [..] -/
def rNinB (D : EqvB) : R2 := fun x y H Q => ∃ l ys, ∃ e : Nat → Bool, y = .ref l ∧ H l = some (.lst ys) ∧ (∀ i yi, ys[i]? = some yi → D yi x (e i) H) ∧ ∀ (b : Bool) H', (b = true ↔ ∃ j, j < ys.length ∧ e j = true) → Ext H H' → Q (.bl (!b)) H'
theorem op_notInB (hD : MonB D) (h : EqB X n D) (hr : Room (n + 1) X.A) : OpR X (compareOp .NotIn) (rNinB D) := by
  intro pins s σ H x y v u Q I rx ry hq
  obtain ⟨l, ys, e, rfl, hl, he, q⟩ := hq
  cases ry
  have sb : Sub X (n + 1) X.A := ⟨hr, rfl⟩
  refine notIn_listB (N := ys.length) (e := e) (fun s' => LoopI X pins σ H s') (fun s' t => ?_) (fun b s' hb t => ?_) ⟨H, I, Ext.rfl'⟩
  · obtain ⟨H1, I1, e1⟩ := t
    obtain ⟨z, its, k, r, ei⟩ := I1.hok l _ (e1 _ _ hl)
    refine ⟨its.toArray, k, ei, by rw [List.size_toArray, ← r.length], fun i hi => ?_⟩
    have hi' : i < its.length := by simpa using hi
    have k1 : i < ys.length := by rw [r.length]; exact hi'
    obtain ⟨w, hw, rw'⟩ := r.get (List.getElem?_eq_getElem k1)
    have g1 : its[i]? = some its.toArray[i] := by rw [List.getElem?_eq_getElem hi'] <;> simp
    rw [g1] at hw
    rw [Option.some.inj hw]
    refine wpAny_mono (h _ pins s' σ H1 _ _ w v (e i) sb.in1 I1 rw' rx (hD _ _ _ _ _ e1 (he i _ (List.getElem?_eq_getElem k1)))) (fun r s2 q2 => ?_) fun _ _ x => x
    obtain ⟨hr', H2, I2, e2⟩ := q2
    exact ⟨hr', H2, I2, e1.trans e2⟩
  · obtain ⟨H1, I1, e1⟩ := t
    exact ⟨.bl (!b), H1, I1, rfl, q b H1 hb e1⟩
/-- [..] == [..] -/
def rEqLB (D : EqvB) : R2 := fun x y H Q => ∃ a b xs ys, ∃ e : Nat → Bool, x = .ref a ∧ y = .ref b ∧ H a = some (.lst xs) ∧ H b = some (.lst ys) ∧ xs.length = ys.length ∧ (∀ i xi yi, xs[i]? = some xi → ys[i]? = some yi → D xi yi (e i) H) ∧
  ∀ (r : Bool) H', (r = true ↔ ∀ j, j < xs.length → e j = true) → Ext H H' → Q (.bl r) H'
theorem op_eqLB (hD : MonB D) (h : EqB X n D) (hr : Room (n + 1) X.A) : OpR X (compareOp .Eq) (rEqLB D) := by
  intro pins s σ H x y v u Q I rx ry hq
  obtain ⟨a, b, xs, ys, e, rfl, rfl, ha, hb, hl, he, q⟩ := hq
  cases rx
  cases ry
  have sb : Sub X (n + 1) X.A := ⟨hr, rfl⟩
  show wpAny (model X.prog X.w) X.A (richCompare .Eq (.ref a) (.ref b)) (EP X pins σ Q) X.xe s
  refine rc_listB (N := xs.length) (e := e) hr.units0 (fun s' => LoopI X pins σ H s') (fun s' t => ?_) (fun r s' hb t => ?_) ⟨H, I, Ext.rfl'⟩
  · obtain ⟨H1, I1, e1⟩ := t
    obtain ⟨z, its, k, r, ei⟩ := I1.hok a _ (e1 _ _ ha)
    obtain ⟨z2, its2, k2, r2, ei2⟩ := I1.hok b _ (e1 _ _ hb)
    refine ⟨its.toArray, its2.toArray, k, k2, ei, ei2, by rw [List.size_toArray, ← r.length], by rw [List.size_toArray, ← r2.length, ← hl], fun i h1 h2 => ?_⟩
    have h1' : i < its.length := by simpa using h1
    have h2' : i < its2.length := by simpa using h2
    have k1 : i < xs.length := by rw [r.length]; exact h1'
    have k2 : i < ys.length := by rw [r2.length]; exact h2'
    obtain ⟨w, hw, rw'⟩ := r.get (List.getElem?_eq_getElem k1)
    obtain ⟨w2, hw2, rw2⟩ := r2.get (List.getElem?_eq_getElem k2)
    have g1 : its[i]? = some its.toArray[i] := by rw [List.getElem?_eq_getElem h1'] <;> simp
    have g2 : its2[i]? = some its2.toArray[i] := by rw [List.getElem?_eq_getElem h2'] <;> simp
    rw [g1] at hw
    rw [g2] at hw2
    rw [Option.some.inj hw, Option.some.inj hw2]
    refine wpAny_mono (h _ pins s' σ H1 _ _ w w2 (e i) sb.in1 I1 rw' rw2 (hD _ _ _ _ _ e1 (he i _ _ (List.getElem?_eq_getElem k1) (List.getElem?_eq_getElem k2)))) (fun r s2 q2 => ?_) fun _ _ x => x
    obtain ⟨hr', H2, I2, e2⟩ := q2
    exact ⟨hr', H2, I2, e1.trans e2⟩
  · obtain ⟨H1, I1, e1⟩ := t
    exact ⟨.bl r, H1, I1, rfl, q r H1 hb e1⟩
end
end Wk

set_option Elab.async false
set_option linter.all false
set_option maxRecDepth 100000
set_option maxHeartbeats 4000000
namespace Wk
open PySem PySem.Spec PyProof.Rows L2 Evl
section
variable {P : Program} {w : World} {K : PySem.W.Frag} {mg : Str → Option Value} {base : Heap} {f : Addr} {fd : FuncData} {CT CB : Addr}
/-! is_entry -/
abbrev spEntry3 (K : PySem.W.Frag) : Sp := spP fun H vs z => ∃ (v : V) (o : Option Row), vs = [v] ∧ ItO K H v o ∧ z = .bl o.isSome
abbrev sEntry : Stmt := top 21
theorem scEntry : FnScope ["thing"] ["thing"] (defScope sEntry) := ⟨rfl, rfl, rfl, by decide +kernel, rfl, by decide +kernel, by decide +kernel⟩
theorem here_nx {z : Str} (h : NxV (.str z)) : hereB z = true := by
  rcases h with h | h | ⟨i, _, h⟩
  · injection h with h; rw [h]; decide +kernel
  · injection h with h; rw [h]; decide +kernel
  · cases h
/-- what a second item is to is_router and is_end -/
theorem way_of {H : Hp} {y : V} {o : Option Row} (h : (∃ e : Row, o = some e ∧ NxV y) ∨ (o = none ∧ BadW K H y)) :
    ∃ (io : Option Int) (q : Bool), WayI K H y io ∧ (inR 0 7 io || q) = o.isSome ∧ (inR 0 7 io = false → (∃ x : Str, y = .str x ∧ q = hereB x) ∨ (NSt K H y ∧ q = false)) := by
  rcases h with ⟨e, rfl, h⟩ | ⟨rfl, h⟩
  · rcases id h with rfl | rfl | ⟨i, hi, rfl⟩
    · exact ⟨none, true, .inr ⟨.inr (isk_dq (.str _) (show kitB "str" "int" = some false by decide +kernel)), rfl⟩, rfl, fun _ => .inl ⟨_, rfl, (here_nx h).symm⟩⟩
    · exact ⟨none, true, .inr ⟨.inr (isk_dq (.str _) (show kitB "str" "int" = some false by decide +kernel)), rfl⟩, rfl, fun _ => .inl ⟨_, rfl, (here_nx h).symm⟩⟩
    · have e : inR 0 7 (some (i : Int)) = true := by
        show (decide ((0 : Int) ≤ i) && decide ((i : Int) ≤ 7)) = true
        rw [decide_eq_true (by omega), decide_eq_true (by omega)]
        rfl
      exact ⟨some i, true, .inl ⟨_, rfl, rfl⟩, by rw [e]; rfl, fun z => by rw [e] at z; cases z⟩
  · cases h with
    | str hz => exact ⟨none, false, .inr ⟨.inr (isk_dq (.str _) (show kitB "str" "int" = some false by decide +kernel)), rfl⟩, rfl, fun _ => .inl ⟨_, rfl, hz.symm⟩⟩
    | @int i hi =>
      have e : inR 0 7 (some i) = false := by
        show (decide ((0 : Int) ≤ i) && decide (i ≤ 7)) = false
        by_cases c : 0 ≤ i
        · rw [decide_eq_false (fun z => hi ⟨c, z⟩), Bool.and_false]
        · rw [decide_eq_false c, Bool.false_and]
      exact ⟨some i, false, .inl ⟨_, rfl, rfl⟩, by rw [e]; rfl, fun _ => .inr ⟨nst_dq (.int i) rfl, rfl⟩⟩
    | bl b => exact ⟨none, false, .inr ⟨.inl ⟨b, rfl⟩, rfl⟩, rfl, fun _ => .inr ⟨nst_dq (.bl b) rfl, rfl⟩⟩
    | other h1 h2 => exact ⟨none, false, .inr ⟨.inr h2, rfl⟩, rfl, fun _ => .inr ⟨h1, rfl⟩⟩
theorem ok_entry3 {t1 : Tok} (hM : mg "MOST_ROUTERS" = some (.int 8 t1)) (CT : Cal P w K mg base "is_tuple_of" ["many", "thing"] 1 (spTupOf3 K)) (CR : Cal P w K mg base "is_range" ["thing"] 1 (spRange K)) (CO : Cal P w K mg base "is_router" ["size", "thing"] 3 (spRou2 K))
    (CE : Cal P w K mg base "is_end" ["thing"] 1 (spEnd3 K)) (F : FnP K "is_entry" sEntry f fd) : FnOk P w K mg base CX0 4 f fd ["thing"] (spEntry3 K) := by
  refine F.ok scEntry (fun vs H Q E h => ?_) (fun cdv A outer s H vs Q E hr h => ?_)
  · obtain ⟨z, ⟨v, o, rfl, _⟩, _⟩ := h
    rfl
  · obtain ⟨z, ⟨v, o, rfl, hv, rfl⟩, k⟩ := h
    refine ⟨_, pss_cons (ps_if (PW.pt (pw_or (pt_not (pt_val (pe_cal CT hr (by rfl) (pa_cons pe_int (pa_cons (pv 0) pa_nil))))) (pw_or1 (pt_not (pt_val (pe_cal CR hr (by rfl) (pa_cons (pe_ix ix_tup (pv 0) pe_int (fun _ _ => rfl)) pa_nil))))))) (pss_one (ps_ret pe_bl)) pss_nil)
      (pss_one (ps_ret (pe_or (pe_cal CO hr (by rfl) (pa_cons (pe_glob (v := .int 8) (by rfl) hM ⟨_, rfl⟩) (pa_cons (pe_ix ix_tup (pv 0) pe_int (fun _ _ => rfl)) pa_nil))) (pe_one (pe_cal CE hr (by rfl) (pa_cons (pe_ix ix_tup (pv 0) pe_int (fun _ _ => rfl)) pa_nil)))))), ?_⟩
    have v0 : ∀ {H1 : Hp}, Ev (tVar 0) (start ["thing"] [v]) H1 v := ev_var rfl
    have ix : ∀ {H1 : Hp} {b : Addr} {x y z : V} {i : Nat}, v = .ref b → H b = some (.tup [x, y]) → [x, y][i]? = some z → Ex H H1 → Ev (tOp (rIxT K) (tVar 0) (tC (.int (i : Int)))) (start ["thing"] [v]) H1 z := fun {H1 b x y z i} hvb hb hz e1 => ev_op v0 ev_c (by rw [hvb]; exact rv_ixT (st_of (e1 _ _ hb)) (atI_nat hz))
    -- both items are asked for
    have both : ∀ (b : Addr) (x y : V), v = .ref b → H b = some (.tup [x, y]) → (∃ l, x = .str (T l) ∧ l.length ≤ 100 ∧ rngB l = true) → ((∃ e : Row, o = some e ∧ NxV y) ∨ (o = none ∧ BadW K H y)) →
        tSeq (tIfS (tOr (tNot (tB (tCall (spTupOf3 K) [] E0 (tCons (tC (.int 2)) (tCons (tVar 0) tNil))))) (tNot (tB (tCall (spRange K) [] E0 (tCons (tOp (rIxT K) (tVar 0) (tC (.int 0))) tNil))))) (tRet (tC (.bl false))) tNext)
          (tRet (tOrV (tCall (spRou2 K) [] E0 (tCons (tC (.int 8)) (tCons (tOp (rIxT K) (tVar 0) (tC (.int 1))) tNil))) (tCall (spEnd3 K) [] E0 (tCons (tOp (rIxT K) (tVar 0) (tC (.int 1))) tNil)))) { nx := fun _ H' => Q .non H', rt := Q, bk := fun _ _ => False, ct := fun _ _ => False } (start ["thing"] [v]) H := fun b x y hvb hb hx hy => by
      obtain ⟨l, rfl, hl, hr1⟩ := hx
      have c1 : Ev (tCall (spTupOf3 K) [] E0 (tCons (tC (.int 2)) (tCons (tVar 0) tNil))) (start ["thing"] [v]) H (.bl true) := ev_call (ea_cons ev_c (ea_cons v0 ea_nil)) (spP_v fun H1 e1 => ⟨2, v, rfl, .inl ⟨b, _, hvb, e1 _ _ hb, rfl⟩⟩)
      have c2 : Ev (tCall (spRange K) [] E0 (tCons (tOp (rIxT K) (tVar 0) (tC (.int 0))) tNil)) (start ["thing"] [v]) H (.bl true) := ev_call (ea_cons (ix (i := 0) hvb hb rfl (Ex.refl _)) ea_nil) (spP_v fun H1 e1 => ⟨_, rfl, .inl ⟨l, rfl, hl, by rw [hr1]⟩⟩)
      refine q_when (b := !true || !true) (et_or (et_not (et_B c1)) fun _ => et_not (et_B c2)) (fun z => by cases z) fun _ H1 e1 => ?_
      obtain ⟨io, q, h1, h2, h3⟩ := way_of (K := K) (H := H1) (hy.imp id fun z => ⟨z.1, z.2.mono e1⟩)
      have c3 : Ev (tCall (spRou2 K) [] E0 (tCons (tC (.int 8)) (tCons (tOp (rIxT K) (tVar 0) (tC (.int 1))) tNil))) (start ["thing"] [v]) H1 (.bl (inR 0 7 io)) := ev_call (ea_cons ev_c (ea_cons (ix (i := 1) hvb hb rfl e1) ea_nil)) (spP_v fun H2 e2 => ⟨8, _, io, rfl, h1.mono e2, rfl⟩)
      refine s_ret (v := .bl (inR 0 7 io || q)) (ev_orV c3 fun hz => ev_call (ea_cons (ix (i := 1) hvb hb rfl e1) ea_nil) (spP_v fun H2 e2 => ⟨y, rfl, ?_⟩)) fun H2 e2 => by rw [h2]; exact k H2 (e1.trans e2)
      rcases h3 hz with ⟨x, hx, hq⟩ | ⟨hn, hq⟩
      · exact .inl ⟨x, hx, by rw [hq]⟩
      · exact .inr ⟨hn.mono e2, by rw [hq]⟩
    cases o with
    | some e =>
      obtain ⟨b, hvb, hb, hB, hl, hn⟩ := hv
      exact both b _ _ hvb hb ⟨e.1, rfl, by omega, rng_yes hB hl⟩ (.inl ⟨e, rfl, hn⟩)
    | none =>
      have hv : BadI K H v := hv
      cases hv with
      | no _ hn =>
        have c1 : Ev (tCall (spTupOf3 K) [] E0 (tCons (tC (.int 2)) (tCons (tVar 0) tNil))) (start ["thing"] [v]) H (.bl false) := ev_call (ea_cons ev_c (ea_cons v0 ea_nil)) (spP_v fun H1 e1 => ⟨2, v, rfl, .inr ⟨hn.mono e1, rfl⟩⟩)
        exact q_when (b := !false || false) (et_or (et_not (et_B c1)) fun z => (by cases z)) (fun _ H1 e1 => k H1 e1) (fun z => by cases z)
      | @len b xs hb hl _ =>
        have c1 : Ev (tCall (spTupOf3 K) [] E0 (tCons (tC (.int 2)) (tCons (tVar 0) tNil))) (start ["thing"] [V.ref b]) H (.bl false) := ev_call (ea_cons ev_c (ea_cons v0 ea_nil)) (spP_v fun H1 e1 => ⟨2, _, rfl, .inl ⟨b, xs, rfl, e1 _ _ hb, by
          rw [decide_eq_false]
          intro z
          injection z with z
          exact hl (by omega)⟩⟩)
        exact q_when (b := !false || false) (et_or (et_not (et_B c1)) fun z => (by cases z)) (fun _ H1 e1 => k H1 e1) (fun z => by cases z)
      | @rng b x y hb hx =>
        have c1 : Ev (tCall (spTupOf3 K) [] E0 (tCons (tC (.int 2)) (tCons (tVar 0) tNil))) (start ["thing"] [V.ref b]) H (.bl true) := ev_call (ea_cons ev_c (ea_cons v0 ea_nil)) (spP_v fun H1 e1 => ⟨2, _, rfl, .inl ⟨b, _, rfl, e1 _ _ hb, rfl⟩⟩)
        have c2 : Ev (tCall (spRange K) [] E0 (tCons (tOp (rIxT K) (tVar 0) (tC (.int 0))) tNil)) (start ["thing"] [V.ref b]) H (.bl false) := ev_call (ea_cons (ix (i := 0) rfl hb rfl (Ex.refl _)) ea_nil) (spP_v fun H1 e1 => ⟨_, rfl, by
          rcases hx with ⟨l, h1, h2, h3⟩ | hn
          · exact .inl ⟨l, h1, h2, by rw [h3]⟩
          · exact .inr ⟨hn.mono e1, rfl⟩⟩)
        exact q_when (b := !true || !false) (et_or (et_not (et_B c1)) fun _ => et_not (et_B c2)) (fun _ H1 e1 => k H1 e1) (fun z => by cases z)
      | @way b l y hb hB hl hy => exact both b _ _ rfl hb ⟨l, rfl, by omega, rng_yes hB hl⟩ (.inr ⟨rfl, hy⟩)
/-! refuse_wrong_entries -/
def spRWE3 (K : PySem.W.Frag) (CB : Addr) : Sp := fun vs H Q E => ∃ (v : V) (fo : Option Int), vs = [v] ∧ RowF K H v fo ∧ (fo = none → ∀ H', Ex H H' → Q .non H') ∧
  ∀ i, fo = some i → ∀ dx H', H dx = none → Ex H H' → H' dx = some (.xd [("index", .int i)]) → E (.ref CB) (some dx) H'
abbrev sRWE : Stmt := top 20
abbrev nRWE : List Str := ["entries", "ahead", "index", "item"]
theorem scRWE : FnScope nRWE ["entries"] (defScope sRWE) := ⟨rfl, rfl, rfl, by decide +kernel, rfl, by decide +kernel, by decide +kernel⟩
theorem ok_rwe3 (B : Bl mg) {t1 : Tok} (hM : mg "MOST_ENTRIES" = some (.int 24 t1)) (TEr : ErrF P w K mg base "BadTable" CB "index") (CI : Cal P w K mg base "is_row" ["thing"] 1 (spRow3 K)) (CE : Cal P w K mg base "is_entry" ["thing"] 4 (spEntry3 K)) (F : FnP K "refuse_wrong_entries" sRWE f fd) : FnOk P w K mg base (L2.CX P w) 5 f fd ["entries"] (spRWE3 K CB) := by
  refine F.ok scRWE (fun vs H Q E h => ?_) (fun cdv A outer s H vs Q E hr h => ?_)
  · obtain ⟨v, fo, rfl, _⟩ := h
    rfl
  · obtain ⟨v, fo, rfl, hv, kQ, kE⟩ := h
    have hu : (A.deeper (envOfC "refuse_wrong_entries" (defScope sRWE) s.heap.objs.size f cdv)).units + 1 < cLine := by have := hr.un; omega
    have hr2 : Room 2 _ := hr.mono (by decide)
    refine ⟨_, pss_cons (ps_if (PW.pt (pw_or (pt_not (pt_val (pe_cal CI hr (by rfl) (pa_cons (pv 0) pa_nil)))) (pw_or1 (pt_cmpR op_gt (pe_callB call_len_seq (by rfl) B.len PySem.boot_len (pa_cons (pv 0) pa_nil)) (pe_glob (v := .int 24) (by rfl) hM ⟨_, rfl⟩) (nomark _))))) (pss_one (ps_raise rfl (takes_of rfl rfl rfl rfl) (pmk_errF TEr hr2 (by rfl) (pa_cons (pe_un un_neg pe_int) pa_nil)))) pss_nil)
      (pss_cons (ps_set (i := 1) scRWE.nd rfl (Or.inl rfl) pe_dnewK)
      (pss_one (ps_for (passes_of rfl) rfl (pi_enumK (K := K) rfl (by rfl) B.enum (pa_cons (pv 0) pa_nil)) (pg_tup rfl (pgs_cons (pg_name (i := 2) scRWE.nd rfl (.inl rfl)) (pgs_cons (pg_name (i := 3) scRWE.nd rfl (.inl rfl)) pgs_nil)))
        (pss_cons (ps_if (PW.pt (pw_or (pt_not (pt_val (pe_cal CE hr (by rfl) (pa_cons (pv 3) pa_nil)))) (pw_or1 (pt_cmp (pc_din hu (pe_ix ix_tup (pv 3) pe_int (fun _ _ => rfl)) (pv 1)))))) (pss_one (ps_raise rfl (takes_of rfl rfl rfl rfl) (pmk_errF TEr hr2 (by rfl) (pa_cons (pv 2) pa_nil)))) pss_nil)
        (pss_one (ps_asg pe_bl (pg_sub (pv 1) (pe_ix ix_tup (pv 3) pe_int (fun _ _ => rfl)) (set_dict hu)))))))), ?_⟩
    have v0 : ∀ {H1 : Hp}, Ev (tVar 0) (start nRWE [v]) H1 v := ev_var rfl
    rcases hv with ⟨a, us, its, rfl, hrow, hus, hlen, rfl⟩ | ⟨hn, rfl⟩
    rotate_left
    · have c1 : Ev (tCall (spRow3 K) [] E0 (tCons (tVar 0) tNil)) (start nRWE [v]) H (.bl false) := ev_call (ea_cons v0 ea_nil) (spP_v fun H1 e1 => ⟨_, false, rfl, hn.mono e1, rfl⟩)
      exact q_when (b := !false || false) (et_or (et_not (et_B c1)) fun z => (by cases z)) (fun _ H1 e1 => mk_errF (ev_un ev_c ru_neg) fun dx H' h0 e' hx => kE (-1) rfl dx H' (fresh_back e1 h0) (e1.trans e') hx) (fun z => by cases z)
    have hul := hus.length
    have c1 : Ev (tCall (spRow3 K) [] E0 (tCons (tVar 0) tNil)) (start nRWE [V.ref a]) H (.bl true) := ev_call (ea_cons v0 ea_nil) (spP_v fun H1 e1 => ⟨_, true, rfl, (iskr_row hrow).mono e1, rfl⟩)
    have c2 : Ev (tCB (rLenS K) (tCons (tVar 0) tNil)) (start nRWE [V.ref a]) H (.int (us.length : Int)) := by
      rcases hrow with hx | hx
      · exact ev_len v0 (sq_of hx)
      · exact ev_lenT v0 (st_of hx)
    refine q_when (b := !true || decide ((24 : Int) < (us.length : Int))) (et_or (et_not (et_B c1)) fun _ => et_test (ev_op (r := rI0 fun i j => .bl (decide (j < i))) c2 ev_c rv_I0)) (fun hb H1 e1 => ?_) fun hb H1 e1 => ?_
    · have hb' : (24 : Int) < (us.length : Int) := of_decide_eq_true (by simpa using hb)
      exact mk_errF (ev_un ev_c ru_neg) fun dx H' h0 e' hx => kE (-1) (by unfold dueF; rw [if_pos (by omega)]) dx H' (fresh_back e1 h0) (e1.trans e') hx
    have hb' : ¬ (24 : Int) < (us.length : Int) := of_decide_eq_false (by simpa using hb)
    have hdue : dueF its = (fAt [] 0 its).map fun n => (n : Int) := by unfold dueF; rw [if_neg (by omega)]
    intro D hD
    have eD := Ex.new (o := .dK []) hD
    have hD1 : (upd H1 D (.dK [])) D = some (.dK []) := upd_same
    have nHD := fresh_back e1 hD
    refine g_name ?_
    dsimp only
    generalize hH2 : upd H1 D (.dK []) = H2 at *
    have e2 := e1.trans eD
    refine s_forEnR (K := K) (H := H2) (xs := us) (ev_var rfl) (hrow.mono e2) (fun i σ' H' => ∃ o1 o2 kvs ks, σ' = [some (.ref a), some (.ref D), o1, o2] ∧ Ex H H' ∧ H' D = some (.dK kvs) ∧ kvs.length ≤ i ∧ (∀ l, (valV kvs (.inr (T l))).isSome = decide (l ∈ ks)) ∧ fAt [] 0 its = fAt ks i (its.drop i)) (fun H3 e3 => ⟨_, _, [], [], rfl, e2.trans e3, e3 _ _ hD1, Nat.le_refl _, fun l => rfl, by rw [List.drop_zero]⟩) (fun i σ' H' _ hp hr o ho => ?_) (fun i y T0 σ' H' hy hp hT0 => ?_) (fun σ' H' hp => ?_)
    · obtain ⟨_, _, _, _, _, e3, _⟩ := hp
      rcases hrow with hx | hx
      · rw [e2 _ _ hx] at ho; rw [← ho]; exact e3 _ _ hx
      · rw [e2 _ _ hx] at ho; rw [← ho]; exact e3 _ _ hx
    · obtain ⟨o1, o2, kvs, ks, rfl, e3, hDk, hkl, hks, hf⟩ := hp
      have eT := Ex.new (o := .tup [.int (i : Nat), y]) hT0
      have hTT : (upd H' T0 (.tup [.int (i : Nat), y])) T0 = some (.tup [.int (i : Nat), y]) := upd_same
      generalize upd H' T0 (.tup [.int (i : Nat), y]) = H4 at *
      have e4 := e3.trans eT
      obtain ⟨o, ho, hyo⟩ := hus.at_ hy
      have hil : i < its.length := (List.getElem?_eq_some_iff.mp ho).1
      rw [List.drop_eq_getElem_cons hil, Option.some.inj ((List.getElem?_eq_getElem hil).symm.trans ho)] at hf
      refine ⟨T0, _, rfl, st_of hTT, rfl, g_two ?_⟩
      change tSeq _ _ _ [some (.ref a), some (.ref D), some (.int (i : Nat)), some y] H4
      have hDk4 := eT _ _ hDk
      have d1 : Ev (tCall (spEntry3 K) [] E0 (tCons (tVar 3) tNil)) [some (.ref a), some (.ref D), some (.int (i : Nat)), some y] H4 (.bl o.isSome) := ev_call (ea_cons (ev_var rfl) ea_nil) (spP_v fun H5 e5 => ⟨y, o, rfl, hyo.mono (e4.trans e5), rfl⟩)
      cases o with
      | none =>
        exact q_when (b := !false || false) (et_or (et_not (et_B d1)) fun z => (by cases z)) (fun _ H5 e5 => mk_errF (ev_var rfl) fun dx H' h0 e' hx => kE (i : Int) (by rw [hdue, hf]; rfl) dx H' (fresh_back (e4.trans e5) h0) ((e4.trans e5).trans e') hx) (fun z => by cases z)
      | some e =>
        obtain ⟨b, rfl, hb, hB, hl, hn⟩ := hyo
        have i0 : ∀ {H1 : Hp}, Ex H H1 → Ev (tOp (rIxT K) (tVar 3) (tC (.int 0))) [some (.ref a), some (.ref D), some (.int (i : Nat)), some (.ref b)] H1 (.str (T e.1)) := fun {H1} e1 => ev_op (ev_var rfl) ev_c (rv_ixT (st_of (e1 _ _ hb)) rfl)
        have d2 : Ev (tDIn (tOp (rIxT K) (tVar 3) (tC (.int 0))) (tVar 1)) [some (.ref a), some (.ref D), some (.int (i : Nat)), some (.ref b)] H4 (.bl (decide (e.1 ∈ ks))) := fun H5 e5 Q q => i0 e4 H5 e5 _ fun H6 e6 => ⟨.ref D, rfl, D, _, rfl, .inl ⟨kvs, .inr (T e.1), .inl (e6 _ _ (e5 _ _ hDk4)), rfl, rfl⟩, by rw [hks]; exact q H6 e6⟩
        refine q_when (b := !true || decide (e.1 ∈ ks)) (et_or (et_not (et_B d1)) fun _ => et_B d2) (fun hz H5 e5 => ?_) fun hz H5 e5 => ?_
        · have hin : e.1 ∈ ks := of_decide_eq_true (by simpa using hz)
          exact mk_errF (ev_var rfl) fun dx H' h0 e' hx => kE (i : Int) (by rw [hdue, hf]; unfold fAt; rw [if_pos hin]; rfl) dx H' (fresh_back (e4.trans e5) h0) ((e4.trans e5).trans e') hx
        · have hin : e.1 ∉ ks := of_decide_eq_false (by simpa using hz)
          refine ⟨.ref D, rfl, i0 (e4.trans e5) H5 (Ex.refl _) _ fun H6 e6 => ⟨D, _, rfl, DPut.k (k := .inr (T e.1)) (e6 _ _ (e5 _ _ hDk4)) (sz_lt (by omega)), ?_⟩⟩
          refine ⟨_, _, _, e.1 :: ks, rfl, Ex.mut ((e4.trans e5).trans e6) nHD, upd_same, by have := length_putK kvs (.inr (T e.1)) (V.bl true); omega, fun l => ?_, ?_⟩
          · rw [valV_put]
            by_cases z : (.inr (T l) : L2.Key) = .inr (T e.1)
            · have z2 : l = e.1 := T_inj (by injection z)
              rw [if_pos z, z2]
              simp
            · rw [if_neg z, hks]
              have z2 : l ≠ e.1 := fun y => z (by rw [y])
              simp [z2]
          · rw [hf]
            conv => lhs; unfold fAt
            rw [if_neg hin]
    · obtain ⟨_, _, _, ks, rfl, e3, _, _, _, hf⟩ := hp
      rw [List.drop_of_length_le (by omega)] at hf
      exact kQ (by rw [hdue, hf]; rfl) H' e3
/-! Table.__init__, which may refuse -/
def spInit3 (K : PySem.W.Frag) (CT CB : Addr) : Sp := fun vs H Q E => ∃ (x dx : Addr) (v : V) (fo : Option Int), vs = [.ref x, v] ∧ H x = some (.ins CT dx []) ∧ RowF K H v fo ∧
  (fo = none → ∀ l us es, v = .ref l → RowA H l us → EsT H us es → EsOk es 24 → ∀ H', Of1 x H H' → Tb CT H' x es → Q .non H') ∧
  ∀ i, fo = some i → ∀ dy H', H dy = none → Ex H H' → H' dy = some (.xd [("index", .int i)]) → E (.ref CB) (some dy) H'
abbrev sInit : Stmt := inClass (top 19) 0
abbrev nInit : List Str := ["self", "entries", "part", "onto"]
theorem scInit : FnScope nInit ["self", "entries"] (defScope sInit) := ⟨rfl, rfl, rfl, by decide +kernel, rfl, by decide +kernel, by decide +kernel⟩
theorem ok_init3 (B : Bl mg) (hso : mg "sorted" = none) (X : TX K CT) (CW : CalX P w K mg base "refuse_wrong_entries" ["entries"] 5 (spRWE3 K CB)) (F : FnM K "__init__" "Table.__init__" sInit f fd) : FnOk P w K mg base (L2.CX P w) 6 f fd ["self", "entries"] (spInit3 K CT CB) := by
  obtain ⟨fR, fdR, FR, gR, kR, bR⟩ := CW.ex
  refine F.ok scInit (fun vs H Q E h => ?_) (fun cdv A outer s H vs Q E hr h => ?_)
  · obtain ⟨x, dx, v, fo, rfl, _⟩ := h
    rfl
  · obtain ⟨x, dx, v, fo, rfl, hx, hv, kQ, kE⟩ := h
    refine ⟨_, pss_cons (ps_expr (pe_call FR hr (by rfl) gR kR bR .nil (passes_call (takes_of rfl rfl rfl rfl) (fun _ _ _ _ h => h)) (pa_cons (pv 1) pa_nil)))
      (pss_cons (ps_fld (pv 0) (pe_callTy (call_tupleK (K := K) rfl) (by rfl) B.tuple PyProof.Rows.boot_tuple (pa_cons (pe_callB (cr_sortedR (K := K) rfl) (by rfl) hso PyProof.Rows.boot_sorted (pa_cons (pv 1) pa_nil)) pa_nil)) rfl)
      (pss_one (ps_fld (pv 0) (pe_dc (own := [("part", 2), ("onto", 3)]) (g := gTup K 2 (gCons (gName 2) (gCons (gName 3) gNil))) (tt := tYes) (tk := tVar 2) (tv := tVar 3) rfl scInit.nd (pi_rowK (K := K) rfl (pv 1)) (blkOk_by (N := nInit) (sc := defScope sInit) (by decide +kernel))
        (fun _ _ _ _ _ => pg_tup rfl (pgs_cons (pg_name (i := 2) scInit.nd rfl (.inl rfl)) (pgs_cons (pg_name (i := 3) scInit.nd rfl (.inl rfl)) pgs_nil))) (fun _ _ _ _ _ => pts_nil) (fun _ _ _ _ _ => pv 2) (fun _ _ _ _ _ => pv 3)) rfl))), ?_⟩
    refine ⟨v, rfl, v, fo, rfl, hv, fun hfo H1 e1 => ?_, fun i hi dy H' h0 e' hy => kE i hi dy H' h0 e' hy⟩
    rcases hv with ⟨l, us, its, rfl, hrow, hits, hlen, hd⟩ | ⟨_, hd⟩
    rotate_left
    · rw [hfo] at hd; cases hd
    rw [hfo] at hd
    obtain ⟨es, rfl, hnd, hel⟩ := dueF_none hd.symm
    obtain ⟨hus, hok⟩ := hits.est
    have hes : EsOk es 24 := ⟨hnd, hel, hok⟩
    have k := kQ hfo l us es rfl hrow hus hes
    have hul := hus.length
    have hrow1 := hrow.mono e1
    have hus1 := hus.mono e1
    have hx1 := e1 _ _ hx
    refine ⟨.ref l, rfl, l, us, es, rfl, hrow1.imp sq_of st_of, hus1, hes.nd, fun e he => flat_nx (hes.it e he).2.2, fun ys es' p hsr hys hp => ?_⟩
    have e2 := Ex.new (o := .lst ys) hp
    have hpp : (upd H1 p (.lst ys)) p = some (.lst ys) := upd_same
    generalize upd H1 p (.lst ys) = H2 at *
    refine ⟨p, ys, rfl, .inl ⟨sq_of hpp, fun t ht => ?_⟩⟩
    have e3 := Ex.new (o := .tup ys) ht
    have htt : (upd H2 t (.tup ys)) t = some (.tup ys) := upd_same
    generalize upd H2 t (.tup ys) = H3 at *
    have hx3 := e3 _ _ (e2 _ _ hx1)
    refine ⟨.ref x, rfl, x, CT, dx, [], rfl, hx3, X.ic.cl, X.nE, by decide, ?_⟩
    have ln1 : (putF "entries" (.ref t) ([] : List (Str × V))).length ≤ 1 := len_putF _ _ _
    have lkE : (putF "entries" (.ref t) ([] : List (Str × V))).lookup ("entries" : Str) = some (.ref t) := lk_putS
    have lkO : (putF "entries" (.ref t) ([] : List (Str × V))).lookup ("onward" : Str) = none := by rw [lk_putF (by decide +kernel)]; rfl
    generalize putF "entries" (.ref t) ([] : List (Str × V)) = fs1 at *
    have o4 := Of1.upd x H3 (.ins CT dx fs1)
    have hx4 : (upd H3 x (.ins CT dx fs1)) x = some (.ins CT dx fs1) := upd_same
    have hus4 := (hus1.mono (e2.trans e3)).of1 o4 hx3
    have hys4 := (hys.mono (e2.trans e3)).of1 o4 hx3
    have hrow4 := (hrow1.mono (e2.trans e3)).of1 o4 hx3
    have ht4 := o4 t _ (fun z => by rw [z, hx3] at htt; cases htt) htt
    have o04 : Of1 x H (upd H3 x (.ins CT dx fs1)) := (Of1.ex ((e1.trans e2).trans e3)).trans o4
    generalize upd H3 x (.ins CT dx fs1) = H4 at *
    have fin : ∀ D, H4 D = none → ∀ H5, Ex H4 H5 → H5 D = some (.dK (kvOf es)) → (sFld K (tVar 0) (fun σ H Q => Q (.ref D) H) "_nexts") { nx := fun _ H' => Q .non H', rt := Q, bk := fun _ _ => False, ct := fun _ _ => False } [some (.ref x), some (.ref l), none, none] H5 := fun D hD H5 e5 hD5 => by
      have hx5 := e5 _ _ hx4
      refine ⟨.ref x, rfl, x, CT, dx, fs1, rfl, hx5, X.ic.cl, X.nN, Nat.lt_of_le_of_lt ln1 (by decide), ?_⟩
      have o5 := Of1.upd x H5 (.ins CT dx (putF "_nexts" (.ref D) fs1))
      refine k _ ((o04.trans (Of1.ex e5)).trans o5) ⟨dx, _, t, D, ys, es', upd_same, ?_, lk_putS, ?_, ?_, (hys4.mono e5).of1 o5 hx5, hsr, ?_⟩
      · rw [lk_putF (by decide +kernel)]; exact lkE
      · rw [lk_putF (by decide +kernel)]; exact lkO
      · exact o5 t _ (fun z => by have := e5 _ _ ht4; rw [z, hx5] at this; cases this) (e5 _ _ ht4)
      · exact o5 D _ (fun z => by rw [z, hx5] at hD5; cases hD5) hD5
    rcases hrow4 with hl4 | hl4
    · refine ⟨.ref l, rfl, l, rfl, .inl ⟨⟨us, sq_of hl4⟩, fun D hD => ?_⟩⟩
      exact dc_rows (K := K) (walk_list (K := K) (a := l) (xs := us)) hD hus4 hes.nd (by omega) (fun H' e => sq_of (e _ _ hl4)) (fun _ _ => rfl) (fun _ _ => rfl) (fun _ _ => rfl) fun H5 e5 hD5 => fin D hD H5 e5 hD5
    · refine ⟨.ref l, rfl, l, rfl, .inr ⟨⟨us, st_of hl4⟩, fun D hD => ?_⟩⟩
      exact dc_rows (K := K) (walk_tup (K := K) (a := l) (xs := us)) hD hus4 hes.nd (by omega) (fun H' e => st_of (e _ _ hl4)) (fun _ _ => rfl) (fun _ _ => rfl) (fun _ _ => rfl) fun H5 e5 hD5 => fin D hD H5 e5 hD5
end
end Wk

set_option Elab.async false
set_option linter.all false
set_option maxRecDepth 100000
set_option maxHeartbeats 4000000
namespace Wk
open PySem PySem.Spec PyProof.Rows L2 Evl
/-! rows told apart -/
theorem eqv_nx {a b : V} (ha : NxV a) (hb : NxV b) : PyData.eqv (nxD a) (nxD b) = decide (a = b) := by
  have ss : ∀ x y : Str, PyData.eqv (.str x) (.str y) = decide (V.str x = V.str y) := fun x y => by
    have e : decide (V.str x = V.str y) = decide (x = y) := decide_eq_decide.mpr ⟨fun z => by injection z, fun z => by rw [z]⟩
    rw [e]
    simp [PyData.eqv]
    by_cases z : x = y <;> simp [z]
  have ii : ∀ x y : Int, PyData.eqv (.int x) (.int y) = decide (V.int x = V.int y) := fun x y => by
    have e : decide (V.int x = V.int y) = decide (x = y) := decide_eq_decide.mpr ⟨fun z => by injection z, fun z => by rw [z]⟩
    rw [e]
    simp [PyData.eqv]
    by_cases z : x = y <;> simp [z]
  have si : ∀ (x : Str) (y : Int), PyData.eqv (.str x) (.int y) = decide (V.str x = V.int y) := fun x y => by
    rw [decide_eq_false (fun z => by cases z)]
    simp [PyData.eqv]
  have is : ∀ (x : Int) (y : Str), PyData.eqv (.int x) (.str y) = decide (V.int x = V.str y) := fun x y => by
    rw [decide_eq_false (fun z => by cases z)]
    simp [PyData.eqv]
  rcases ha with rfl | rfl | ⟨i, _, rfl⟩ <;> rcases hb with rfl | rfl | ⟨j, _, rfl⟩ <;> first | exact ss _ _ | exact ii _ _ | exact si _ _ | exact is _ _
theorem eqv_rowD {a b : Row} (ha : NxV a.2) (hb : NxV b.2) : PyData.eqv (rowD a) (rowD b) = decide (a = b) := by
  obtain ⟨a1, a2⟩ := a
  obtain ⟨b1, b2⟩ := b
  unfold rowD
  simp only [PyData.eqv, PyData.eqvAll, eqv_nx ha hb]
  by_cases h1 : a1 = b1
  · by_cases h2 : a2 = b2
    · simp [h1, h2]
    · simp [h1, h2]
  · have : T a1 ≠ T b1 := fun z => h1 (T_inj z)
    have e : (T a1 == T b1) = false := beq_eq_false_iff_ne.mpr this
    simp [h1, e]
def okR (es : List Row) : Prop := ∀ e ∈ es, IsB e.1 ∧ NxV e.2
theorem eqv_rowL : ∀ {a b : List Row}, okR a → okR b → PyData.eqvAll (a.map rowD) (b.map rowD) = decide (a = b)
  | [], [], _, _ => by simp [PyData.eqvAll]
  | [], _ :: _, _, _ => by simp [PyData.eqvAll]
  | _ :: _, [], _, _ => by simp [PyData.eqvAll]
  | x :: a, y :: b, ha, hb => by
    have ih := eqv_rowL (a := a) (b := b) (fun e he => ha e (List.mem_cons_of_mem _ he)) (fun e he => hb e (List.mem_cons_of_mem _ he))
    simp only [List.map_cons, PyData.eqvAll, eqv_rowD (ha x List.mem_cons_self).2 (hb y List.mem_cons_self).2, ih]
    by_cases h : x = y
    · subst h; simp
    · simp [h]
theorem eqv_rowT {a b : List Row} (ha : okR a) (hb : okR b) : PyData.eqv (.tuple (a.map rowD)) (.tuple (b.map rowD)) = decide (a = b) := by
  simp only [PyData.eqv]
  exact eqv_rowL ha hb
theorem call_isCK {X : Cx} {K : PySem.W.Frag} {C : Addr} (hK : X.K = K) (c : C8.InsC K C) : CallR X (.builtin "isinstance") (fun xs H Q => ∃ a dx fs, xs = [.ref a, .ref C] ∧ H a = some (.ins C dx fs) ∧ Q (.bl true) H) := by
  subst hK
  exact C8.call_isC c
theorem okR_perm {a b : List Row} (h : SrR a b) (hb : okR b) : okR a := fun e he => hb e (h.2.perm.mem_iff.mp he)
/-- two tables, by what they hold -/
def RT (CT : Addr) (a b : Addr) (z : Bool) (H : Hp) : Prop := ∃ e1 e2 s1 s2, Tb CT H a e1 ∧ Tb CT H b e2 ∧ okR e1 ∧ okR e2 ∧ SrR s1 e1 ∧ SrR s2 e2 ∧ z = decide (s1 = s2)
section
variable {P : Program} {w : World} {K : PySem.W.Frag} {mg : Str → Option Value} {base : Heap} {f : Addr} {fd : FuncData} {CT CB CW CO : Addr}
abbrev sEq : Stmt := inClass (top 19) 1
theorem scEq : FnScope ["self", "other"] ["self", "other"] (defScope sEq) := ⟨rfl, rfl, rfl, by decide +kernel, rfl, by decide +kernel, by decide +kernel⟩
theorem ok_eq (B : Bl mg) (X : TX K CT) (g : mg "Table" = some (.ref CT)) (F : FnM K "__eq__" "Table.__eq__" sEq f fd) : FnOk P w K mg base CX0 1 f fd ["self", "other"] (spEqB (RT CT)) := by
  refine F.ok scEq (fun vs H Q E h => ?_) (fun cdv A outer s H vs Q E hr h => ?_)
  · obtain ⟨a, b, z, rfl, _⟩ := h
    rfl
  · obtain ⟨a, b, z, rfl, ⟨e1, e2, s1, s2, h1, h2, o1, o2, r1, r2, rfl⟩, k⟩ := h
    have hu : (A.deeper (envOfC "Table.__eq__" (defScope sEq) s.heap.objs.size f cdv)).units + 64 < cLine := by have := hr.un; omega
    refine ⟨_, pss_one (ps_ret (pe_and (pe_callB (call_isCK (K := K) rfl X.ic) (by rfl) B.isi boot_isinstance (pa_cons (pv 1) (pa_cons (pe_glob (v := .ref CT) (by rfl) g rfl) pa_nil)))
      (pe_one (pe_cmpR (op_eqD hu) (pe_fld (pv 0) rfl) (pe_fld (pv 1) rfl) (nomark _))))), ?_⟩
    obtain ⟨dx, fs, te, nd, us, es, i1, i2, i3, i4, i5, i6, i7, i8⟩ := h1
    obtain ⟨dy, gs, tf, ne, vs, fs', j1, j2, j3, j4, j5, j6, j7, j8⟩ := h2
    obtain rfl := r1.uniq i7
    obtain rfl := r2.uniq j7
    have ok1 := okR_perm r1 o1
    have ok2 := okR_perm r2 o2
    have c1 : Ev (tCB (fun xs H Q => ∃ a dx fs, xs = [.ref a, .ref CT] ∧ H a = some (.ins CT dx fs) ∧ Q (.bl true) H) (tCons (tVar 1) (tCons (tC (.ref CT)) tNil))) (start ["self", "other"] [V.ref a, .ref b]) H (.bl true) := fun H1 e Q1 q1 => ⟨.ref b, rfl, b, dy, gs, rfl, e _ _ j1, q1 H1 (Ex.refl _)⟩
    have c2 : Ev (tOp (rEqD K) (tFld K (tVar 0) "entries") (tFld K (tVar 1) "entries")) (start ["self", "other"] [V.ref a, .ref b]) H (.bl (decide (s1 = s2))) := fun H1 e Q1 q1 => by
      refine ⟨.ref a, rfl, a, CT, dx, fs, .ref te, rfl, e _ _ i1, X.ic.cl, X.nE, i2, .ref b, rfl, b, CT, dy, gs, .ref tf, rfl, e _ _ j1, X.ic.cl, X.nE, j2, ?_⟩
      exact ⟨_, _, rows_dp (e _ _ i5) (i6.mono e) ok1, rows_dp (e _ _ j5) (j6.mono e) ok2, rows_shaped ok1, rows_shaped ok2, by rw [eqv_rowT ok1 ok2]; exact q1 H1 (Ex.refl _)⟩
    exact s_ret (v := .bl (true && decide (s1 = s2))) (ev_andV c1 fun _ => c2) k
def DT (CT : Addr) : EqvB := DInsB CT (RT CT)
theorem dt_of {H : Hp} {a b : Addr} {e1 e2 s1 s2 : List Row} (h1 : Tb CT H a e1) (h2 : Tb CT H b e2) (o1 : okR e1) (o2 : okR e2) (r1 : SrR s1 e1) (r2 : SrR s2 e2) : DT CT (.ref a) (.ref b) (decide (s1 = s2)) H := by
  obtain ⟨dx, fs, te, nd, us, es, i1, _⟩ := id h1
  obtain ⟨dy, gs, tf, ne, vs, fs', j1, _⟩ := id h2
  exact ⟨a, b, dx, dy, fs, gs, rfl, rfl, i1, j1, e1, e2, s1, s2, h1, h2, o1, o2, r1, r2, rfl⟩
structure MqT (P : Program) (w : World) (K : PySem.W.Frag) (mg : Str → Option Value) (base : Heap) (CT : Addr) : Prop where
  ex : ∃ (fE : Addr) (fd : FuncData), Meth K CT "__eq__" fE ∧ FnOk P w K mg base CX0 1 fE fd ["self", "other"] (spEqB (RT CT)) ∧ Binds K fd ["self", "other"] []
theorem rc_DT {X : Cx} (M : MqT X.prog X.w X.K X.mg X.base CT) : RcB X 1 (DT CT) := by
  obtain ⟨fE, fd, me, Fn, b⟩ := M.ex
  exact rcB_ins (E := E0) Fn me.at_ me.fn b pass0
/-! _law_is_entry -/
theorem hereB_eq (z : Str) : hereB z = (decide (V.str z = V.str "here") || decide (V.str z = V.str "drop")) := by
  have b : ∀ a : Str, (a == z) = decide (V.str z = V.str a) := fun a => by
    by_cases y : a = z
    · rw [y]; simp
    · rw [decide_eq_false (fun x => y (by injection x with x; exact x.symm))]
      exact beq_eq_false_iff_ne.mpr y
  show (((Str.ofString "here") == z) || (((Str.ofString "drop") == z) || false)) = _
  rw [b, b, Bool.or_false]
theorem s_forS {K : PySem.W.Frag} {σ : L2.St} {H : Hp} {D : Ends} {tl : TE} {j : Nat} {tu : TS} {l : List Nat} (h : Ev tl σ H (.str (T l))) (Pv : Nat → L2.St → Hp → Prop) (h0 : ∀ H1, Ex H H1 → Pv 0 σ H1)
    (hs : ∀ i c σ' H', l[i]? = some c → Pv i σ' H' → tu { D with nx := Pv (i + 1), ct := Pv (i + 1), bk := D.nx } (σ'.set j (some (.str (T [c])))) H') (hd : ∀ σ' H', Pv l.length σ' H' → D.nx σ' H') : tFor (iStr tl) (gName j) tu D σ H :=
  h H (Ex.refl H) _ fun H1 e => by
    refine ⟨T l, rfl, ?_⟩
    have hsz : (T l).cps.size = l.length := by simp [T]
    have w := walk_str (z := T l)
    rw [hsz] at w
    refine for_it w Pv (h0 H1 e) (fun _ _ _ _ _ => trivial) (fun i x σ' H2 H3 hi p y => ?_) hd
    obtain ⟨rfl, c, hc, rfl⟩ := y
    exact hs i c σ' _ (by simpa [T] using hc) p
abbrev spLEn (K : PySem.W.Frag) : Sp := spEntry3 K
abbrev sLEn : Stmt := top 29
abbrev nLEn : List Str := ["_law_item", "_law_sign"]
theorem scLEn : FnScope nLEn ["_law_item"] (defScope sLEn) := ⟨rfl, rfl, rfl, by decide +kernel, rfl, by decide +kernel, by decide +kernel⟩
theorem ok_lEn (B : Bl mg) (F : FnP K "_law_is_entry" sLEn f fd) : FnOk P w K mg base CX0 1 f fd ["_law_item"] (spLEn K) := by
  refine F.ok scLEn (fun vs H Q E h => ?_) (fun cdv A outer s H vs Q E hr h => ?_)
  · obtain ⟨z, ⟨v, o, rfl, _⟩, _⟩ := h
    rfl
  · obtain ⟨z, ⟨v, o, rfl, hv, rfl⟩, k⟩ := h
    refine ⟨_, pss_cons (ps_if (PW.pt (pw_or (pt_not (pt_val (pe_callB call_isi (by rfl) B.isi boot_isinstance (pa_cons (pv 0) (pa_cons (pe_bltn (v := .ty "tuple") (by rfl) B.tuple PyProof.Rows.boot_tuple rfl) pa_nil)))))
        (pw_or (pt_cmpR op_ne (pe_callB call_len_seq (by rfl) B.len PySem.boot_len (pa_cons (pv 0) pa_nil)) pe_int (nomark _))
        (pw_or (pt_not (pt_val (pe_callB call_isi (by rfl) B.isi boot_isinstance (pa_cons (pe_ix ix_tup (pv 0) pe_int (fun _ _ => rfl)) (pa_cons (pe_bltn (v := .ty "str") (by rfl) B.str PyProof.Rows.boot_str rfl) pa_nil)))))
        (pw_or1 (pt_cmpR op_gt (pe_callB call_len_str (by rfl) B.len PySem.boot_len (pa_cons (pe_ix ix_tup (pv 0) pe_int (fun _ _ => rfl)) pa_nil)) pe_int (nomark _))))))) (pss_one (ps_ret pe_bl)) pss_nil)
      (pss_cons (ps_for (passes_of rfl) rfl (pi_str (pe_ix ix_tup (pv 0) pe_int (fun _ _ => rfl))) (pg_name (i := 1) scLEn.nd rfl (Or.inl rfl))
        (pss_one (ps_if (PW.pt (pw_and (pt_cmpR op_ne (pv 1) pe_str (nomark _)) (pw_and1 (pt_cmpR op_ne (pv 1) pe_str (nomark _))))) (pss_one (ps_ret pe_bl)) pss_nil)))
      (pss_cons (ps_if (pt_val (pe_callB call_isi (by rfl) B.isi boot_isinstance (pa_cons (pe_ix ix_tup (pv 0) pe_int (fun _ _ => rfl)) (pa_cons (pe_bltn (v := .ty "str") (by rfl) B.str PyProof.Rows.boot_str rfl) pa_nil))))
        (pss_one (ps_ret (pe_or (pe_cmpR op_eq (pe_ix ix_tup (pv 0) pe_int (fun _ _ => rfl)) pe_str (nomark _)) (pe_one (pe_cmpR op_eq (pe_ix ix_tup (pv 0) pe_int (fun _ _ => rfl)) pe_str (nomark _)))))) pss_nil)
      (pss_one (ps_ret (pe_and (pe_callB call_isi (by rfl) B.isi boot_isinstance (pa_cons (pe_ix ix_tup (pv 0) pe_int (fun _ _ => rfl)) (pa_cons (pe_bltn (v := .ty "int") (by rfl) B.int PyProof.Rows.boot_int rfl) pa_nil)))
        (pe_and (pe_not (pe_callB call_isi (by rfl) B.isi boot_isinstance (pa_cons (pe_ix ix_tup (pv 0) pe_int (fun _ _ => rfl)) (pa_cons (pe_bltn (v := .ty "bool") (by rfl) B.bool PyProof.Rows.boot_bool rfl) pa_nil))))
        (pe_one (pe_chain op_le op_le pe_int (pe_ix ix_tup (pv 0) pe_int (fun _ _ => rfl)) pe_int)))))))), ?_⟩
    have v0 : ∀ {H1 : Hp} {o1 : Option V}, Ev (tVar 0) [some v, o1] H1 v := ev_var rfl
    have ix : ∀ {H1 : Hp} {b : Addr} {x y z : V} {i : Nat} {o1 : Option V}, v = .ref b → H b = some (.tup [x, y]) → [x, y][i]? = some z → Ex H H1 → Ev (tOp (rIxT K) (tVar 0) (tC (.int (i : Int)))) [some v, o1] H1 z := fun {H1 b x y z i o1} hvb hb hz e1 => ev_op v0 ev_c (by rw [hvb]; exact rv_ixT (st_of (e1 _ _ hb)) (atI_nat hz))
    have tupT : ∀ {b : Addr} {xs : List V}, v = .ref b → H b = some (.tup xs) → IsK K H v "tuple" true := fun hvb hb => by rw [hvb]; exact isk_tup hb (show kitB "tuple" "tuple" = some true by decide +kernel)
    have ln : ∀ {b : Addr} {xs : List V}, v = .ref b → H b = some (.tup xs) → EvT (tTest (tOp rNe (tCB (rLenS K) (tCons (tVar 0) tNil)) (tC (.int 2)))) [some v, none] H (!decide (V.int (xs.length : Int) = V.int 2)) := fun {b xs} hvb hb => et_test (ev_op (r := rNe) (ev_lenT (K := K) (by rw [← hvb]; exact v0) (st_of hb)) ev_c (rv_ne rfl))
    -- a tuple of a text and y
    have both : ∀ (b : Addr) (l : List Nat) (y : V), v = .ref b → H b = some (.tup [.str (T l), y]) → l.length ≤ 100 → (rngB l = false → o = none) → (rngB l = true → (∃ z, y = .str z ∧ hereB z = o.isSome) ∨ (∃ i, y = .int i ∧ inR 0 7 (some i) = o.isSome) ∨ ((∃ c, y = .bl c) ∧ o.isSome = false) ∨ (IsK K H y "str" false ∧ IsK K H y "int" false ∧ o.isSome = false)) → _ := fun b l y hvb hb hl hno hyes => by
      show tSeq (tIfS (tOr (tNot (tB (tCB (rIsi K) (tCons (tVar 0) (tCons (tC (.ty "tuple")) tNil))))) (tOr (tTest (tOp rNe (tCB (rLenS K) (tCons (tVar 0) tNil)) (tC (.int 2)))) (tOr (tNot (tB (tCB (rIsi K) (tCons (tOp (rIxT K) (tVar 0) (tC (.int 0))) (tCons (tC (.ty "str")) tNil))))) (tTest (tOp (rI0 fun i j => .bl (decide (j < i))) (tCB rLenStr (tCons (tOp (rIxT K) (tVar 0) (tC (.int 0))) tNil)) (tC (.int 10))))))) (tRet (tC (.bl false))) tNext)
        (tSeq (tFor (iStr (tOp (rIxT K) (tVar 0) (tC (.int 0)))) (gName 1) (tIfS (tAnd (tTest (tOp rNe (tVar 1) (tC (.str "0")))) (tTest (tOp rNe (tVar 1) (tC (.str "1"))))) (tRet (tC (.bl false))) tNext))
        (tSeq (tIfS (tB (tCB (rIsi K) (tCons (tOp (rIxT K) (tVar 0) (tC (.int 1))) (tCons (tC (.ty "str")) tNil)))) (tRet (tOrV (tOp rEq (tOp (rIxT K) (tVar 0) (tC (.int 1))) (tC (.str "here"))) (tOp rEq (tOp (rIxT K) (tVar 0) (tC (.int 1))) (tC (.str "drop"))))) tNext)
        (tRet (tAndV (tCB (rIsi K) (tCons (tOp (rIxT K) (tVar 0) (tC (.int 1))) (tCons (tC (.ty "int")) tNil))) (tAndV (tNotV (tCB (rIsi K) (tCons (tOp (rIxT K) (tVar 0) (tC (.int 1))) (tCons (tC (.ty "bool")) tNil)))) (tChain (rI0 fun i j => .bl (decide (i ≤ j))) (rI0 fun i j => .bl (decide (i ≤ j))) (tC (.int 0)) (tOp (rIxT K) (tVar 0) (tC (.int 1))) (tC (.int 7)))))))) { nx := fun _ H' => Q .non H', rt := Q, bk := fun _ _ => False, ct := fun _ _ => False } [some v, none] H
      have i0 : ∀ {H1 : Hp} {o1 : Option V}, Ex H H1 → Ev (tOp (rIxT K) (tVar 0) (tC (.int 0))) [some v, o1] H1 (.str (T l)) := fun e1 => ix (i := 0) hvb hb rfl e1
      have i1 : ∀ {H1 : Hp} {o1 : Option V}, Ex H H1 → Ev (tOp (rIxT K) (tVar 0) (tC (.int 1))) [some v, o1] H1 y := fun e1 => ix (i := 1) hvb hb rfl e1
      refine q_when (b := !true || (!decide (V.int (2 : Int) = V.int 2) || (!true || decide ((10 : Int) < (l.length : Int))))) (et_or (et_not (et_B (ev_isk (K := K) v0 (tupT hvb hb)))) fun _ => et_or (ln hvb hb) fun _ => et_or (et_not (et_B (ev_isiS (K := K) (i0 (Ex.refl _))))) fun _ => et_test (ev_op (r := rI0 fun i j => .bl (decide (j < i))) (ev_lenS (i0 (Ex.refl _)) (by omega)) ev_c rv_I0)) (fun hz H1 e1 => ?_) fun hz H1 e1 => ?_
      · have hz' : (10 : Int) < (l.length : Int) := of_decide_eq_true (by simpa using hz)
        have := hno (by unfold rngB; rw [decide_eq_false (by omega), Bool.false_and])
        rw [this] at k
        exact k H1 e1
      have hz' : ¬ (10 : Int) < (l.length : Int) := of_decide_eq_false (by simpa using hz)
      have t0 : (Str.ofString "0") = T [48] := by decide +kernel
      have t1 : (Str.ofString "1") = T [49] := by decide +kernel
      refine s_forS (K := K) (D := { nx := _, rt := _, bk := _, ct := _ }) (l := l) (i0 e1) (fun i σ' H' => ∃ o1, σ' = [some v, o1] ∧ Ex H H' ∧ (l.take i).all bitB = true) (fun H2 e2 => ⟨_, rfl, e1.trans e2, rfl⟩) (fun i c σ' H' hc hp => ?_) (fun σ' H' hp => ?_)
      · obtain ⟨o1, rfl, e2, hall⟩ := hp
        change tIfS _ _ _ _ [some v, some (.str (T [c]))] H'
        have ne : ∀ (s : Str) (a : Nat), s = T [a] → (!decide (V.str (T [c]) = V.str s)) = !decide (c = a) := fun s a hs => by
          rw [hs]
          congr 1
          refine decide_eq_decide.mpr ⟨fun z => ?_, fun z => by rw [z]⟩
          injection z with z
          have := T_inj z
          simpa using this
        refine s_when (b := (!decide (c = 48)) && (!decide (c = 49))) (et_and (et_is (et_test (ev_op (r := rNe) (x := .str (T [c])) (ev_var rfl) ev_c (rv_ne rfl))) (ne _ 48 t0)) fun _ => et_is (et_test (ev_op (r := rNe) (x := .str (T [c])) (ev_var rfl) ev_c (rv_ne rfl))) (ne _ 49 t1)) (fun hb1 H3 e3 => ?_) (fun hb1 H3 e3 => ?_)
        · have hcb : bitB c = false := by
            unfold bitB
            rw [Bool.and_eq_true, Bool.not_eq_true', Bool.not_eq_true'] at hb1
            rw [hb1.1, hb1.2]
            rfl
          have hrl : rngB l = false := by
            unfold rngB
            have : l.all bitB = false := by
              cases hx : l.all bitB with
              | false => rfl
              | true => rw [List.all_eq_true.mp hx c (List.mem_of_getElem? hc)] at hcb; cases hcb
            rw [this, Bool.and_false]
          have := hno hrl
          rw [this] at k
          exact k H3 (e2.trans e3)
        · refine ⟨_, rfl, e2.trans e3, ?_⟩
          have hcb : bitB c = true := by
            unfold bitB
            cases h1 : decide (c = 48) with
            | true => rfl
            | false =>
              cases h2 : decide (c = 49) with
              | true => rfl
              | false => rw [h1, h2] at hb1; cases hb1
          rw [take_snoc hc, List.all_append, hall]
          simp [hcb]
      · obtain ⟨o1, rfl, e2, hall⟩ := hp
        rw [List.take_of_length_le (Nat.le_refl _)] at hall
        have hrl : rngB l = true := by
          unfold rngB
          rw [hall, decide_eq_true (by omega)]
          rfl
        rcases hyes hrl with ⟨z, rfl, hz⟩ | ⟨i, rfl, hz⟩ | ⟨⟨c, rfl⟩, hz⟩ | ⟨h1, h2, hz⟩
        · refine q_when (b := true) (et_B (ev_isiS (K := K) (i1 e2))) (fun _ H3 e3 => ?_) (fun z => by cases z)
          refine s_ret (v := .bl (decide (V.str z = V.str "here") || decide (V.str z = V.str "drop"))) (ev_orV (ev_op (r := rEq) (i1 (e2.trans e3)) ev_c (rv_eq rfl)) fun _ => ev_op (r := rEq) (i1 (e2.trans e3)) ev_c (rv_eq rfl)) fun H4 e4 => ?_
          rw [← hereB_eq, hz]
          exact k H4 ((e2.trans e3).trans e4)
        · refine q_when (b := false) (et_B (ev_isk (K := K) (i1 e2) (isk_dq (.int i) (show kitB "int" "str" = some false by decide +kernel)))) (fun z => by cases z) fun _ H3 e3 => ?_
          refine s_ret (v := .bl (true && ((!false) && (decide (0 ≤ i) && decide (i ≤ 7))))) (ev_andV (ev_isk (K := K) (i1 (e2.trans e3)) (isk_dq (.int i) (show kitB "int" "int" = some true by decide +kernel))) fun _ => ev_andV (ev_notV (ev_isk (K := K) (i1 (e2.trans e3)) (isk_dq (.int i) (show kitB "int" "bool" = some false by decide +kernel)))) fun _ => ev_chain ev_c (i1 (e2.trans e3)) ev_c rv_I0 rv_I0) fun H4 e4 => ?_
          have e : (true && ((!false) && (decide (0 ≤ i) && decide (i ≤ 7)))) = inR 0 7 (some i) := rfl
          rw [e, hz]
          exact k H4 ((e2.trans e3).trans e4)
        · refine q_when (b := false) (et_B (ev_isk (K := K) (i1 e2) (isk_dq (.bl c) (show kitB "bool" "str" = some false by decide +kernel)))) (fun z => by cases z) fun _ H3 e3 => ?_
          rw [hz] at k
          exact s_ret (v := .bl (true && ((!true) && false))) (ev_andV (ev_isk (K := K) (i1 (e2.trans e3)) (isk_dq (.bl c) (show kitB "bool" "int" = some true by decide +kernel))) fun _ => ev_andV (ev_notV (ev_isk (K := K) (i1 (e2.trans e3)) (isk_dq (.bl c) (show kitB "bool" "bool" = some true by decide +kernel)))) fun z => (by cases z)) fun H4 e4 => k H4 ((e2.trans e3).trans e4)
        · refine q_when (b := false) (et_B (ev_isk (K := K) (i1 e2) (h1.mono e2))) (fun z => by cases z) fun _ H3 e3 => ?_
          rw [hz] at k
          exact s_ret (v := .bl (false && false)) (ev_andV (ev_isk (K := K) (i1 (e2.trans e3)) (h2.mono (e2.trans e3))) fun z => (by cases z)) fun H4 e4 => k H4 ((e2.trans e3).trans e4)
    cases o with
    | some e =>
      obtain ⟨b, hvb, hb, hB, hl, hn⟩ := hv
      refine both b e.1 e.2 hvb hb (by omega) (fun z => by rw [rng_yes hB hl] at z; cases z) fun _ => ?_
      rcases id hn with h | h | ⟨i, hi, h⟩
      · rw [h] at hn; exact .inl ⟨_, h, here_nx hn⟩
      · rw [h] at hn; exact .inl ⟨_, h, here_nx hn⟩
      · refine .inr (.inl ⟨_, h, ?_⟩)
        show (decide ((0 : Int) ≤ i) && decide ((i : Int) ≤ 7)) = true
        rw [decide_eq_true (by omega), decide_eq_true (by omega)]
        rfl
    | none =>
      have hv : BadI K H v := hv
      cases hv with
      | no _ hn => exact q_when (b := !false || true) (et_or (b := true) (et_not (et_B (ev_isk (K := K) v0 hn))) fun z => (by cases z)) (fun _ H1 e1 => k H1 e1) (fun z => by cases z)
      | @len b xs hb hl _ =>
        have hne : (!decide (V.int (xs.length : Int) = V.int 2)) = true := by
          rw [decide_eq_false]
          · rfl
          · intro z
            injection z with z
            exact hl (by omega)
        exact q_when (b := !true || (true || true)) (et_or (et_not (et_B (ev_isk (K := K) v0 (tupT rfl hb)))) fun _ => et_or (b := true) (et_is (ln rfl hb) hne) fun z => (by cases z)) (fun _ H1 e1 => k H1 e1) (fun z => by cases z)
      | @rng b x y hb hx =>
        rcases hx with ⟨l, rfl, hl, hr1⟩ | hn
        · exact both b l y rfl hb hl (fun _ => rfl) (fun z => by rw [hr1] at z; cases z)
        · exact q_when (b := !true || (!decide (V.int (2 : Int) = V.int 2) || (!false || true))) (et_or (et_not (et_B (ev_isk (K := K) v0 (tupT rfl hb)))) fun _ => et_or (ln rfl hb) fun _ => et_or (b := true) (et_not (et_B (ev_isiN (K := K) (ix (i := 0) rfl hb rfl (Ex.refl _)) hn))) fun z => (by cases z)) (fun _ H1 e1 => k H1 e1) (fun z => by cases z)
      | @way b l y hb hB hl hy =>
        refine both b l y rfl hb (by omega) (fun z => rfl) fun _ => ?_
        cases hy with
        | str hz => exact .inl ⟨_, rfl, hz⟩
        | @int i hi =>
          refine .inr (.inl ⟨_, rfl, ?_⟩)
          show (decide ((0 : Int) ≤ i) && decide (i ≤ 7)) = false
          by_cases c : 0 ≤ i
          · rw [decide_eq_false (fun z => hi ⟨c, z⟩), Bool.and_false]
          · rw [decide_eq_false c, Bool.false_and]
        | bl c => exact .inr (.inr (.inl ⟨⟨c, rfl⟩, rfl⟩))
        | other h1 h2 => exact .inr (.inr (.inr ⟨h1, h2, rfl⟩))
end
end Wk

set_option Elab.async false
set_option linter.all false
set_option maxRecDepth 100000
set_option maxHeartbeats 4000000
namespace Wk
open PySem PySem.Spec PyProof.Rows L2 Evl
def rIsFo (K : PySem.W.Frag) (D a : Addr) (cls : Value) (d : Option Addr) : List V → Hp → VK → Prop := fun xs H Q => cls = .ref D ∧ ∃ dx, d = some dx ∧ rIsF K D a dx xs H Q
def rIsFTo (K : PySem.W.Frag) (D a : Addr) (cls : Value) (d : Option Addr) : List V → Hp → VK → Prop := fun xs H Q => cls = .ref D ∧ ∃ dx, d = some dx ∧ rIsFT K D a dx xs H Q
theorem call_isFo {X : Cx} {K : PySem.W.Frag} {a D : Addr} {cls : Value} {d : Option Addr} {oe : Obj} {pn : List (Addr × Obj)} (hK : X.K = K) (C : ExcC K D) (hz : Zc cls d oe) (hf : ∃ vs, oe.data = .fields vs) : CallR (X.suite a ((a, oe) :: pn)) (.builtin "isinstance") (rIsFo K D a cls d) := by
  intro pins s σ H xs us Q I r h
  obtain ⟨rfl, dx, rfl, h⟩ := h
  exact call_isF hK C hz hf pins s σ H xs us Q I r h
theorem ix_tupK {X : Cx} {K : PySem.W.Frag} (hK : X.K = K) : IxR X (rIxT K) := by
  subst hK
  exact ix_tup
theorem inV_keys (l : List Nat) : ∀ es : List Row, inV (.str (T l)) (es.map fun e => V.str (T e.1)) = decide (l ∈ es.map (·.1))
  | [] => rfl
  | e :: es => by
    have ih := inV_keys l es
    show (eqV (.str (T e.1)) (.str (T l)) || inV (.str (T l)) (es.map fun e => V.str (T e.1))) = _
    rw [ih]
    show ((T e.1 == T l) || _) = _
    rw [List.map_cons]
    by_cases h : e.1 = l
    · rw [h]; simp
    · have : (T e.1 == T l) = false := beq_eq_false_iff_ne.mpr fun z => h (T_inj z)
      rw [this, Bool.false_or]
      refine decide_eq_decide.mpr ⟨fun z => List.mem_cons_of_mem _ z, fun z => (List.mem_cons.mp z).elim (fun y => absurd y.symm h) id⟩
theorem rng_rows (es : List Row) (f : Row → V) (d : Row) : (List.range es.length).map (fun i => f (es.getD i d)) = es.map f := by
  apply List.ext_getElem
  · simp
  · intro i h1 h2
    have h3 : i < es.length := by simpa using h1
    simp [List.getD_eq_getElem?_getD, List.getElem?_eq_getElem h3]
theorem ev_inL {K : PySem.W.Frag} {σ : L2.St} {H : Hp} {ta tb : TE} {x : V} {xs : List V} (ha : Ev ta σ H x) (hb : EvL tb σ H xs) (hx : flatV x = true) (hf : xs.all flatV = true) : Ev (tOp (rIn K false) ta tb) σ H (.bl (inV x xs)) := fun H1 e Q q =>
  ha H1 e _ fun H2 e2 => hb H2 (e.trans e2) _ fun p H3 _ e3 hp => ⟨p, xs, rfl, .inl (sq_of hp), hx, hf, q H3 (e2.trans e3)⟩
def intO : Option Int → V
  | some i => .int i
  | none => .non
/-- what isinstance tells of a BadTable -/
structure EKt (K : PySem.W.Frag) (C CW CO : Addr) : Prop where
  ex : ExcC K C
  k1 : PySem.W.kitOne K (.ref C) (.ref CW) = some true
  k2 : PySem.W.kitOne K (.ref C) (.type "ValueError") = some true
  k3 : PySem.W.kitOne K (.ref C) (.ref CO) = some false
section
variable {P : Program} {w : World} {K : PySem.W.Frag} {mg : Str → Option Value} {base : Heap} {f : Addr} {fd : FuncData} {CT CB CW CO : Addr}
/-! _law_fault -/
def spFlt (K : PySem.W.Frag) : Sp := fun vs H Q _ => ∃ (a : Addr) (us : List V) (its : List (Option Row)), vs = [.ref a] ∧ H a = some (.lst us) ∧ ItT K H us its ∧ us.length ≤ 2000 ∧ ∀ H', Ex H H' → Q (intO (dueF its)) H'
abbrev sFlt : Stmt := top 30
abbrev nFlt : List Str := ["_law_row", "_law_place", "_law_item"]
theorem scFlt : FnScope nFlt ["_law_row"] (defScope sFlt) := ⟨rfl, rfl, rfl, by decide +kernel, rfl, by decide +kernel, by decide +kernel⟩
theorem ok_flt (B : Bl mg) (C : Cal P w K mg base "_law_is_entry" ["_law_item"] 1 (spLEn K)) (F : FnP K "_law_fault" sFlt f fd) : FnOk P w K mg base CX0 2 f fd ["_law_row"] (spFlt K) := by
  refine F.ok scFlt (fun vs H Q E h => ?_) (fun cdv A outer s H vs Q E hr h => ?_)
  · obtain ⟨a, us, its, rfl, _⟩ := h
    rfl
  · obtain ⟨a, us, its, rfl, ha, hus, hlen, k⟩ := h
    refine ⟨_, pss_cons (ps_if (PW.pt (pw_or (pt_not (pt_val (pe_callB call_isiT (by rfl) B.isi boot_isinstance (pa_cons (pv 0) (pa_cons (pe_tup (pa_cons (pe_bltn (v := .ty "list") (by rfl) B.list PyProof.Rows.boot_list rfl) (pa_cons (pe_bltn (v := .ty "tuple") (by rfl) B.tuple PyProof.Rows.boot_tuple rfl) pa_nil))) pa_nil)))))
        (pw_or1 (pt_cmpR op_gt (pe_callB call_len_seq (by rfl) B.len PySem.boot_len (pa_cons (pv 0) pa_nil)) pe_int (nomark _))))) (pss_one (ps_ret (pe_un un_neg pe_int))) pss_nil)
      (pss_cons (ps_for (passes_of rfl) rfl (pi_range1 (by rfl) B.range (pa_cons (pe_callB call_len_seq (by rfl) B.len PySem.boot_len (pa_cons (pv 0) pa_nil)) pa_nil)) (pg_name (i := 1) scFlt.nd rfl (Or.inl rfl))
        (pss_one (ps_if (PW.pt (pw_or (pt_not (pt_val (pe_cal C hr (by rfl) (pa_cons (pe_ix (ix_listK (K := K) rfl) (pv 0) (pv 1) (fun _ _ => rfl)) pa_nil))))
          (pw_or1 (pt_cmpR (op_in_seqK (K := K) rfl) (pe_ix ix_tup (pe_ix (ix_listK (K := K) rfl) (pv 0) (pv 1) (fun _ _ => rfl)) pe_int (fun _ _ => rfl)) (pe_lc (own := [("_law_item", 2)]) (g := gName 2) (tt := tYes) rfl scFlt.nd (pi_list (pe_slice sl_list (pv 0) po_none (po_some (pv 1)))) (blkOk_by (N := nFlt) (sc := defScope sFlt) (by decide +kernel))
            (fun _ _ _ _ _ => pg_name (i := 2) scFlt.nd rfl (Or.inl rfl)) (fun _ _ _ _ _ => pts_nil) (fun _ _ _ _ _ => pe_ix (ix_tupK (K := K) rfl) (pv 2) pe_int (fun _ _ => rfl))) rfl)))) (pss_one (ps_ret (pv 1))) pss_nil)))
      (pss_one (ps_ret pe_non))), ?_⟩
    have hul := hus.length
    have v0 : ∀ {H1 : Hp} {o1 o2 : Option V}, Ev (tVar 0) [some (.ref a), o1, o2] H1 (.ref a) := ev_var rfl
    have ln : ∀ {H1 : Hp} {o1 o2 : Option V}, Ex H H1 → Ev (tCB (rLenS K) (tCons (tVar 0) tNil)) [some (.ref a), o1, o2] H1 (.int (us.length : Int)) := fun e => ev_len v0 (sq_of (e _ _ ha))
    refine q_when (b := !true || decide ((24 : Int) < (us.length : Int))) (et_or (et_not (et_B (ev_iskr (K := K) (v0 (o1 := none) (o2 := none)) (iskr_row (.inl ha))))) fun _ => et_test (ev_op (r := rI0 fun i j => .bl (decide (j < i))) (ln (Ex.refl _)) ev_c rv_I0)) (fun hb H1 e1 => ?_) fun hb H1 e1 => ?_
    · have hb' : (24 : Int) < (us.length : Int) := of_decide_eq_true (by simpa using hb)
      have e : dueF its = some (-1) := by unfold dueF; rw [if_pos (by omega)]
      rw [e] at k
      exact s_ret (v := .int (-1)) (ev_un ev_c ru_neg) fun H2 e2 => k H2 (e1.trans e2)
    have hb' : ¬ (24 : Int) < (us.length : Int) := of_decide_eq_false (by simpa using hb)
    have hdue : dueF its = (fAt [] 0 its).map fun n => (n : Int) := by unfold dueF; rw [if_neg (by omega)]
    refine q_forR1 (ta := tCons (tCB (rLenS K) (tCons (tVar 0) tNil)) tNil) (n := (us.length : Int)) (ea_cons (ln e1) ea_nil) (by omega) (fun i σ' H' => ∃ o1 o2, σ' = [some (.ref a), o1, o2] ∧ Ex H H' ∧ ∃ es : List Row, its.take i = es.map some ∧ fAt [] 0 its = fAt (es.map (·.1)).reverse i (its.drop i)) (fun H2 e2 => ⟨_, _, rfl, e1.trans e2, [], by rw [List.take_zero]; rfl, by rw [List.drop_zero]; rfl⟩) (fun i σ' H' hi hp => ?_) (fun σ' H' hp => ?_)
    · obtain ⟨o1, o2, rfl, e2, es, htk, hf⟩ := hp
      change tIfS _ _ _ _ [some (.ref a), some (.int (i : Int)), o2] H'
      have hil : i < us.length := by omega
      obtain ⟨o, ho, hyo⟩ := hus.at_ (List.getElem?_eq_getElem hil)
      have hui := List.getElem?_eq_getElem hil
      generalize us[i] = y at *
      have hil2 : i < its.length := by omega
      rw [List.drop_eq_getElem_cons hil2, Option.some.inj ((List.getElem?_eq_getElem hil2).symm.trans ho)] at hf
      have iy : ∀ {H1 : Hp}, Ex H H1 → Ev (tOp (rIxL K) (tVar 0) (tVar 1)) [some (.ref a), some (.int (i : Int)), o2] H1 y := fun e => ev_ixR v0 (ev_var (i := 1) rfl) (e _ _ ha) hui
      have d1 : Ev (tCall (spLEn K) [] E0 (tCons (tOp (rIxL K) (tVar 0) (tVar 1)) tNil)) [some (.ref a), some (.int (i : Int)), o2] H' (.bl o.isSome) := ev_call (ea_cons (iy e2) ea_nil) (spP_v fun H5 e5 => ⟨y, o, rfl, hyo.mono (e2.trans e5), rfl⟩)
      cases o with
      | none =>
        refine s_when (b := !false || false) (et_or (et_not (et_B d1)) fun z => (by cases z)) (fun _ H5 e5 => ?_) (fun z => by cases z)
        have e : dueF its = some (i : Int) := by rw [hdue, hf]; rfl
        rw [e] at k
        exact s_ret (v := .int (i : Int)) (ev_var rfl) fun H6 e6 => k H6 ((e2.trans e5).trans e6)
      | some e =>
        obtain ⟨b, rfl, hbt, hB, hl, hn⟩ := hyo
        have hel : es.length = i := by
          have := congrArg List.length htk
          rw [List.length_take, List.length_map] at this
          omega
        have i0 : ∀ {H1 : Hp}, Ex H H1 → Ev (tOp (rIxT K) (tOp (rIxL K) (tVar 0) (tVar 1)) (tC (.int 0))) [some (.ref a), some (.int (i : Int)), o2] H1 (.str (T e.1)) := fun {H1} e1 => ev_op (iy e1) ev_c (rv_ixT (st_of (e1 _ _ hbt)) rfl)
        have hsl : EvL (tSl (rSlL K) (tVar 0) tNoPart (tPart (tVar 1))) [some (.ref a), some (.int (i : Int)), o2] H' (us.take i) := by
          have q := el_sl (K := K) (te := tVar 0) (σ := [some (.ref a), some (.int (i : Int)), o2]) (H := H') v0 eo_none (eo_some (te := tVar 1) (i := (i : Int)) (ev_var rfl)) (sq_of (e2 _ _ ha))
          rw [cut_to _ _ (by omega)] at q
          exact q
        have hgood := (hus.take i)
        rw [htk] at hgood
        obtain ⟨hest, _⟩ := hgood.est
        have hlc := el_lcNL (K := K) (σ := [some (.ref a), some (.int (i : Int)), o2]) (H := H') (j := 2) (vs := [2]) (te := tOp (rIxT K) (tVar 2) (tC (.int 0))) (t := tYes) (fun _ => true) (fun n => V.str (T (es.getD n ([], .non)).1)) hsl (by rw [List.length_take]; omega) (fun x => rfl) (fun _ _ _ _ _ => et_yes) (fun n x H1 e1 hx _ => by
          obtain ⟨b2, r, rfl, hr1, hr2⟩ := hest.at_ hx
          have e3 : es.getD n ([], .non) = r := by rw [List.getD_eq_getElem?_getD, hr1]; rfl
          rw [e3]
          exact ev_op (ev_var rfl) ev_c (rv_ixT (st_of ((e2.trans e1) _ _ hr2)) rfl))
        have hlen2 : (us.take i).length = es.length := by rw [List.length_take]; omega
        rw [given_yesAll, hlen2, rng_rows es (fun r => V.str (T r.1))] at hlc
        have d2 := ev_inL (K := K) (i0 e2) hlc rfl (by rw [List.all_map, List.all_eq_true]; intro x _; rfl)
        rw [inV_keys] at d2
        refine s_when (b := !true || decide (e.1 ∈ es.map (fun r : Row => r.1))) (et_or (et_not (et_B d1)) fun _ => et_test d2) (fun hz H5 e5 => ?_) fun hz H5 e5 => ?_
        · have hin : e.1 ∈ es.map (·.1) := of_decide_eq_true (by simpa using hz)
          have e6 : dueF its = some (i : Int) := by rw [hdue, hf]; unfold fAt; rw [if_pos (List.mem_reverse.mpr hin)]; rfl
          rw [e6] at k
          exact s_ret (v := .int (i : Int)) (ev_var rfl) fun H6 e6 => k H6 ((e2.trans e5).trans e6)
        · have hin : e.1 ∉ es.map (·.1) := of_decide_eq_false (by simpa using hz)
          refine ⟨_, _, rfl, e2.trans e5, es ++ [e], ?_, ?_⟩
          · rw [take_snoc ho, htk, List.map_append]
            rfl
          · rw [hf]
            conv => lhs; unfold fAt
            rw [if_neg (fun z => hin (List.mem_reverse.mp z)), List.map_append, List.reverse_append]
            rfl
    · obtain ⟨o1, o2, rfl, e2, es, htk, hf⟩ := hp
      rw [List.drop_of_length_le (by omega)] at hf
      have e : dueF its = none := by rw [hdue, hf]; rfl
      rw [e] at k
      exact k H' e2
/-! _law_made -/
structure MkT3 (P : Program) (w : World) (K : PySem.W.Frag) (mg : Str → Option Value) (base : Heap) (CT CB : Addr) : Prop where
  g : mg "Table" = some (.ref CT)
  ex : ∃ (fI : Addr) (fd : FuncData), Mk K CT fI ∧ FnOk P w K mg base (L2.CX P w) 6 fI fd ["self", "entries"] (spInit3 K CT CB) ∧ Binds K fd ["self", "entries"] []
def spMade (K : PySem.W.Frag) (CT : Addr) : Sp := fun vs H Q _ => ∃ (v : V) (fo : Option Int), vs = [v] ∧ RowF K H v fo ∧
  (∀ i, fo = some i → ∀ H' t, Ex H H' → H' t = some (.tup [.str "refused", .int i, .bl true]) → Q (.ref t) H') ∧
  (fo = none → ∀ l us es, v = .ref l → RowA H l us → EsT H us es → EsOk es 24 → ∀ H' t x, Ex H H' → H x = none → H' t = some (.tup [.str "made", .ref x, .bl true]) → Tb CT H' x es → Q (.ref t) H')
abbrev sMade : Stmt := top 31
abbrev nMade : List Str := ["_law_row", "_law_table", "e", "_law_based"]
theorem scMade : FnScope nMade ["_law_row"] (defScope sMade) := ⟨rfl, rfl, rfl, by decide +kernel, rfl, by decide +kernel, by decide +kernel⟩
theorem ok_made (B : Bl mg) (hVE : mg "ValueError" = none) (M : MkT3 P w K mg base CT CB) (TEr : ErrF P w K mg base "BadTable" CB "index") (E0' : EKt K CB CW CO) (gW : mg "WishError" = some (.ref CW)) (gO : mg "BadField" = some (.ref CO)) (F : FnP K "_law_made" sMade f fd) : FnOk P w K mg base CX0 8 f fd ["_law_row"] (spMade K CT) := by
  obtain ⟨fI, fdI, mk, FI, bI⟩ := M.ex
  refine F.ok scMade (fun vs H Q E h => ?_) (fun cdv A outer s H vs Q E hr h => ?_)
  · obtain ⟨v, fo, rfl, _⟩ := h
    rfl
  · obtain ⟨v, fo, rfl, hv, kE, kQ⟩ := h
    refine ⟨_, pss_cons (ps_try_as (i := 2) rfl rfl scMade.nd rfl rfl ⟨rfl, by decide, .inl TEr.g⟩ takes0
          (fun W pn xe tk _ => pss_one (ps_set (i := 1) scMade.nd rfl (Or.inl rfl) (pe_mkAt (W := WE W) mk FI hr (by rfl) M.g bI (fun σ => passAt tk σ) (pa_cons (pv 0) pa_nil))))
          (fun a oe cls d pn hz hf => pss_cons (ps_set (i := 3) scMade.nd rfl (Or.inl rfl) (pe_and (pe_callB (call_isFo (K := K) rfl E0'.ex hz hf) (by rfl) B.isi boot_isinstance (pa_cons (pv 2) (pa_cons (pe_glob (v := .ref CW) (by rfl) gW rfl) pa_nil)))
              (pe_and (pe_callB (call_isFo (K := K) rfl E0'.ex hz hf) (by rfl) B.isi boot_isinstance (pa_cons (pv 2) (pa_cons (pe_bltn (v := .ty "ValueError") (by rfl) hVE boot_ValueError rfl) pa_nil)))
              (pe_one (pe_not (pe_callB (call_isFo (K := K) rfl E0'.ex hz hf) (by rfl) B.isi boot_isinstance (pa_cons (pv 2) (pa_cons (pe_glob (v := .ref CO) (by rfl) gO rfl) pa_nil))))))))
            (pss_one (ps_ret (pe_tup (pa_cons pe_str (pa_cons (pe_xf TEr.xf TEr.no hz hf (pv 2)) (pa_cons (pv 3) pa_nil))))))))
      (pss_one (ps_ret (pe_tup (pa_cons pe_str (pa_cons (pv 1) (pa_cons pe_bl pa_nil)))))), ?_⟩
    refine ⟨v, rfl, fun x dx nx ndx nex => ?_⟩
    have e1 : Ex H (upd (upd H dx (.own x)) x (.ins CT dx [])) := fun b o hb => by
      rw [upd_ne (ne_of_none hb nx), upd_ne (ne_of_none hb ndx)]
      exact hb
    refine ⟨x, dx, v, fo, rfl, upd_same, hv.mono e1, fun hfo l us es hvl hrow hus hes H' o1 hT => ⟨rfl, ?_⟩, fun i hi dy H2 h0 e2 hy => ?_⟩
    · refine g_name ?_
      dsimp only
      rcases hv with ⟨l', us', its, hvl', hrow', hits', hlen', hdue⟩ | ⟨_, hd⟩
      rotate_left
      · rw [hfo] at hd; cases hd
      rw [hfo] at hdue
      obtain ⟨es', rfl, hnd, hel⟩ := dueF_none hdue.symm
      obtain ⟨hus', hok'⟩ := hits'.est
      have hes' : EsOk es' 24 := ⟨hnd, hel, hok'⟩
      have hll : l = l' := by rw [hvl] at hvl'; injection hvl'
      subst hll
      have eU : Ex H H' := fun b o hb => o1 b o (fun z => by rw [z, nx] at hb; cases hb) (e1 _ _ hb)
      have huu : us = us' := by
        have r1 := hrow'.mono e1
        rcases hrow with a1 | a1 <;> rcases r1 with a2 | a2 <;> (rw [a1] at a2; cases a2) <;> rfl
      subst huu
      have hee : es = es' := by
        have q1 := hus.rows.1
        have q2 := (hus'.mono e1).rows.1
        rw [← q1, q2]
      subst hee
      refine ⟨.ref x, rfl, by show 3 ≤ sizeLine; decide, fun t ht => ?_⟩
      have e3 := Ex.new (o := .tup [V.str "made", .ref x, .bl true]) ht
      exact kQ hfo l us es hvl hrow' hus' hes' _ t x (eU.trans e3) nx upd_same (hT.mono e3)
    · refine ⟨true, TEr.te, fun _ a ha => ?_, fun z => Bool.noConfusion z⟩
      have e02 := e1.trans e2
      refine q_asg (v := .bl (true && (true && !false))) (ev_andV (fun H3 e3 Q3 q3 => ⟨.ref a, rfl, rfl, dy, rfl, .ref CW, .ref CW, true, _, rfl, .own CW, E0'.k1, e3 _ _ hy, q3 H3 (Ex.refl _)⟩) fun _ => ev_andV (fun H3 e3 Q3 q3 => ⟨.ref a, rfl, rfl, dy, rfl, .ty "ValueError", .type "ValueError", true, _, rfl, .ty "ValueError", E0'.k2, e3 _ _ hy, q3 H3 (Ex.refl _)⟩) fun _ => ev_notV (fun H3 e3 Q3 q3 => ⟨.ref a, rfl, rfl, dy, rfl, .ref CO, .ref CO, false, _, rfl, .own CO, E0'.k3, e3 _ _ hy, q3 H3 (Ex.refl _)⟩)) fun H3 e3 => ?_
      refine ⟨.ref a, rfl, rfl, rfl, dy, _, .int i, rfl, e3 _ _ hy, rfl, .bl true, rfl, by show 3 ≤ sizeLine; decide, fun t ht => ?_⟩
      exact kE i hi _ t ((e02.trans e3).trans (Ex.new ht)) upd_same
/-! _law_refused -/
def spRfd : Sp := fun vs H Q _ => ∃ (t : Addr) (i : Int), vs = [.ref t, .int i] ∧ H t = some (.tup [.str "refused", .int i, .bl true]) ∧ ∀ H', Ex H H' → Q (.bl true) H'
abbrev sRfd : Stmt := top 32
abbrev nRfd : List Str := ["_law_told", "_law_place"]
theorem scRfd : FnScope nRfd nRfd (defScope sRfd) := ⟨rfl, rfl, rfl, by decide +kernel, rfl, by decide +kernel, by decide +kernel⟩
theorem ok_rfd (B : Bl mg) (F : FnP K "_law_refused" sRfd f fd) : FnOk P w K mg base CX0 1 f fd nRfd spRfd := by
  refine F.ok scRfd (fun vs H Q E h => ?_) (fun cdv A outer s H vs Q E hr h => ?_)
  · obtain ⟨t, i, rfl, _⟩ := h
    rfl
  · obtain ⟨t, i, rfl, ht, k⟩ := h
    refine ⟨_, pss_cons (ps_if (PW.pt (pw_or (pt_cmpR op_ne (pe_ix ix_tup (pv 0) pe_int (fun _ _ => rfl)) pe_str (nomark _)) (pw_or (pt_not (pt_val (pe_ix ix_tup (pv 0) pe_int (fun _ _ => rfl))))
        (pw_or1 (pt_val (pe_callB call_isi (by rfl) B.isi boot_isinstance (pa_cons (pe_ix ix_tup (pv 0) pe_int (fun _ _ => rfl)) (pa_cons (pe_bltn (v := .ty "bool") (by rfl) B.bool PyProof.Rows.boot_bool rfl) pa_nil)))))))) (pss_one (ps_ret pe_bl)) pss_nil)
      (pss_one (ps_ret (pe_and (pe_callB call_isi (by rfl) B.isi boot_isinstance (pa_cons (pe_ix ix_tup (pv 0) pe_int (fun _ _ => rfl)) (pa_cons (pe_bltn (v := .ty "int") (by rfl) B.int PyProof.Rows.boot_int rfl) pa_nil)))
        (pe_one (pe_cmpR op_eq (pe_ix ix_tup (pv 0) pe_int (fun _ _ => rfl)) (pv 1) (nomark _)))))), ?_⟩
    have ix : ∀ {H1 : Hp} {n : Nat} {z : V}, [V.str "refused", .int i, .bl true][n]? = some z → Ex H H1 → Ev (tOp (rIxT K) (tVar 0) (tC (.int (n : Int)))) (start nRfd [V.ref t, .int i]) H1 z := fun {H1 n z} hz e1 => ev_op (ev_var rfl) ev_c (rv_ixT (st_of (e1 _ _ ht)) (atI_nat hz))
    refine q_when (b := (!decide (V.str "refused" = V.str "refused")) || (!true || false)) (et_or (et_test (ev_op (r := rNe) (ix (n := 0) rfl (Ex.refl _)) ev_c (rv_ne rfl))) fun _ => et_or (et_not (et_B (ix (n := 2) rfl (Ex.refl _)))) fun _ => et_B (ev_isk (K := K) (ix (n := 1) rfl (Ex.refl _)) (isk_dq (.int i) (show kitB "int" "bool" = some false by decide +kernel)))) (fun hz H1 e1 => ?_) fun _ H1 e1 => ?_
    · rw [decide_eq_true rfl] at hz
      cases hz
    · refine s_ret (v := .bl (true && decide (V.int i = V.int i))) (ev_andV (ev_isk (K := K) (ix (n := 1) rfl e1) (isk_dq (.int i) (show kitB "int" "int" = some true by decide +kernel))) fun _ => ev_op (r := rEq) (ix (n := 1) rfl e1) (ev_var rfl) (rv_eq rfl)) fun H2 e2 => ?_
      rw [decide_eq_true rfl]
      exact k H2 (e1.trans e2)
/-! _law_holds -/
def spHld (CT : Addr) : Sp := fun vs H Q _ => ∃ (x l : Addr) (us : List V) (es : List Row), vs = [.ref x, .ref l] ∧ Tb CT H x es ∧ H l = some (.lst us) ∧ EsT H us es ∧ EsOk es 24 ∧ ∀ H', Ex H H' → Q (.bl true) H'
abbrev sHld : Stmt := top 33
abbrev nHld : List Str := ["_law_table", "_law_row", "_law_item"]
theorem scHld : FnScope nHld ["_law_table", "_law_row"] (defScope sHld) := ⟨rfl, rfl, rfl, by decide +kernel, rfl, by decide +kernel, by decide +kernel⟩
theorem ok_hld (B : Bl mg) (hso : mg "sorted" = none) (X : TX K CT) (g : mg "Table" = some (.ref CT)) (C : Cal P w K mg base "_law_is_entry" ["_law_item"] 1 (spLEn K)) (F : FnP K "_law_holds" sHld f fd) : FnOk P w K mg base CX0 2 f fd ["_law_table", "_law_row"] (spHld CT) := by
  refine F.ok scHld (fun vs H Q E h => ?_) (fun cdv A outer s H vs Q E hr h => ?_)
  · obtain ⟨x, l, us, es, rfl, _⟩ := h
    rfl
  · obtain ⟨x, l, us, es, rfl, hT, hl, hus, hes, k⟩ := h
    have hu : (A.deeper (envOfC "_law_holds" (defScope sHld) s.heap.objs.size f cdv)).units + 64 < cLine := by have := hr.un; omega
    refine ⟨_, pss_cons (ps_if (PW.pt (pw_or (pt_not (pt_val (pe_callB (call_isCK (K := K) rfl X.ic) (by rfl) B.isi boot_isinstance (pa_cons (pv 0) (pa_cons (pe_glob (v := .ref CT) (by rfl) g rfl) pa_nil)))))
        (pw_or1 (pt_not (pt_val (pe_callB call_isi (by rfl) B.isi boot_isinstance (pa_cons (pe_fld (pv 0) rfl) (pa_cons (pe_bltn (v := .ty "tuple") (by rfl) B.tuple PyProof.Rows.boot_tuple rfl) pa_nil)))))))) (pss_one (ps_ret pe_bl)) pss_nil)
      (pss_cons (ps_for (passes_of rfl) rfl (pi_tup (pe_fld (pv 0) rfl)) (pg_name (i := 2) scHld.nd rfl (Or.inl rfl))
        (pss_one (ps_if (pt_not (pt_val (pe_cal C hr (by rfl) (pa_cons (pv 2) pa_nil)))) (pss_one (ps_ret pe_bl)) pss_nil)))
      (pss_one (ps_ret (pe_cmpR (op_eqD hu) (pe_fld (pv 0) rfl) (pe_callTy (call_tupleK (K := K) rfl) (by rfl) B.tuple PyProof.Rows.boot_tuple (pa_cons (pe_callB (cr_sortedR (K := K) rfl) (by rfl) hso PyProof.Rows.boot_sorted (pa_cons (pv 1) pa_nil)) pa_nil)) (nomark _))))), ?_⟩
    obtain ⟨dx, fs, te, nd, us', es', h1, h2, h3, h4, h5, h6, h7, h8⟩ := id hT
    have fE : ∀ {H1 : Hp} {o2 : Option V}, Ex H H1 → Ev (tFld K (tVar 0) "entries") [some (.ref x), some (.ref l), o2] H1 (.ref te) := fun {H1 o2} e1 H2 e2 Q2 q => ⟨.ref x, rfl, x, CT, dx, _, _, rfl, e2 _ _ (e1 _ _ h1), X.ic.cl, X.nE, h2, q H2 (Ex.refl H2)⟩
    have c1 : Ev (tCB (fun xs H Q => ∃ a dx fs, xs = [.ref a, .ref CT] ∧ H a = some (.ins CT dx fs) ∧ Q (.bl true) H) (tCons (tVar 0) (tCons (tC (.ref CT)) tNil))) [some (.ref x), some (.ref l), none] H (.bl true) := fun H1 e Q1 q1 => ⟨.ref x, rfl, x, dx, fs, rfl, e _ _ h1, q1 H1 (Ex.refl _)⟩
    refine q_when (b := !true || !true) (et_or (et_not (et_B c1)) fun _ => et_not (et_B (ev_isk (K := K) (fE (Ex.refl _)) (isk_tup h5 (show kitB "tuple" "tuple" = some true by decide +kernel))))) (fun z => by cases z) fun _ H1 e1 => ?_
    have hok : ∀ e ∈ es', IsB e.1 ∧ e.1.length ≤ 10 ∧ NxV e.2 := fun e he => hes.it e (h7.2.perm.mem_iff.mp he)
    have hits := ItT.of_est (K := K) h6 hok
    refine q_forT (K := K) (fE e1) (st_of (e1 _ _ h5)) (fun i σ' H' => ∃ o2, σ' = [some (.ref x), some (.ref l), o2] ∧ Ex H H') (fun H2 e2 => ⟨_, rfl, e1.trans e2⟩) (fun i σ' H' _ hp => ?_) (fun i y σ' H' hy hp => ?_) (fun σ' H' hp => ?_)
    · obtain ⟨_, _, e2⟩ := hp
      exact st_of (e2 _ _ h5)
    · obtain ⟨o2, rfl, e2⟩ := hp
      refine g_name ?_
      change tIfS _ _ _ _ [some (.ref x), some (.ref l), some y] H'
      obtain ⟨o, ho, hyo⟩ := hits.at_ hy
      have hos : o.isSome = true := by
        rw [List.getElem?_map] at ho
        cases hx : es'[i]? with
        | none => rw [hx] at ho; cases ho
        | some r => rw [hx] at ho; rw [← Option.some.inj ho]; rfl
      have d1 : Ev (tCall (spLEn K) [] E0 (tCons (tVar 2) tNil)) [some (.ref x), some (.ref l), some y] H' (.bl o.isSome) := ev_call (ea_cons (ev_var rfl) ea_nil) (spP_v fun H5 e5 => ⟨y, o, rfl, hyo.mono (e2.trans e5), rfl⟩)
      rw [hos] at d1
      exact s_when (b := !true) (et_not (et_B d1)) (fun z => by cases z) fun _ H5 e5 => ⟨_, rfl, e2.trans e5⟩
    · obtain ⟨o2, rfl, e2⟩ := hp
      have z := ask_sorted (K := K) (CT := CT) (H := H') (σ := [some (.ref x), some (.ref l), o2]) (tx := tVar 0) (tr := tVar 1) X (ev_var rfl) (hT.mono e2) (ev_var rfl) (e2 _ _ hl) (hus.mono e2) hes
      exact s_ret z fun H3 e3 => k H3 (e2.trans e3)
end
end Wk

set_option Elab.async false
set_option linter.all false
set_option maxRecDepth 100000
set_option maxHeartbeats 4000000
namespace Wk
open PySem PySem.Spec PyProof.Rows L2 Evl
/-! sorted rows with unlike texts -/
theorem srt_uniq : ∀ {a b : List Row}, SrtO.Srtd ltR a → SrtO.Srtd ltR b → a.Perm b → (a.map (·.1)).Nodup → a = b
  | [], b, _, _, h, _ => (List.Perm.eq_nil h.symm).symm
  | x :: a, [], _, _, h, _ => absurd h.length_eq (by simp)
  | x :: a, y :: b, ha, hb, h, nd => by
    have e : x = y := by
      by_cases c : x = y
      · exact c
      · exfalso
        have hx : x ∈ b := by
          rcases List.mem_cons.mp (h.mem_iff.mp (List.mem_cons_self (a := x) (l := a))) with z | z
          · exact absurd z c
          · exact z
        have hy : y ∈ a := by
          rcases List.mem_cons.mp (h.mem_iff.mpr (List.mem_cons_self (a := y) (l := b))) with z | z
          · exact absurd z.symm c
          · exact z
        have h1 : ¬ y.1 < x.1 := of_decide_eq_false (SrtO.srtd_head ha y hy)
        have h2 : ¬ x.1 < y.1 := of_decide_eq_false (SrtO.srtd_head hb x hx)
        have h3 : x.1 = y.1 := List.le_antisymm (List.not_lt.mp h1) (List.not_lt.mp h2)
        rw [List.map_cons, List.nodup_cons] at nd
        exact nd.1 (by rw [h3]; exact List.mem_map.mpr ⟨y, hy, rfl⟩)
    subst e
    rw [List.map_cons, List.nodup_cons] at nd
    rw [srt_uniq (List.pairwise_cons.mp ha).2 (List.pairwise_cons.mp hb).2 h.cons_inv nd.2]
theorem srt_perm {s1 s2 e1 e2 : List Row} (r1 : SrR s1 e1) (r2 : SrR s2 e2) (nd : (e1.map (·.1)).Nodup) : (s1 = s2) ↔ e2.Perm e1 := by
  constructor
  · intro h
    subst h
    exact r2.2.perm.symm.trans r1.2.perm
  · intro h
    refine srt_uniq r1.1 r2.1 (r1.2.perm.trans (h.symm.trans r2.2.perm.symm)) ?_
    exact (r1.2.perm.map (·.1)).nodup_iff.mpr nd
theorem fAt_good : ∀ {es : List Row} {ks : List (List Nat)} {i : Nat}, (es.map (·.1)).Nodup → (∀ e ∈ es, e.1 ∉ ks) → fAt ks i (es.map some) = none
  | [], _, _, _, _ => rfl
  | e :: es, ks, i, nd, h => by
    rw [List.map_cons, List.nodup_cons] at nd
    show (if e.1 ∈ ks then some i else fAt (e.1 :: ks) (i + 1) (es.map some)) = none
    rw [if_neg (h e List.mem_cons_self)]
    refine fAt_good nd.2 fun x hx hm => ?_
    rcases List.mem_cons.mp hm with z | z
    · exact nd.1 (by rw [← z]; exact List.mem_map.mpr ⟨x, hx, rfl⟩)
    · exact h x (List.mem_cons_of_mem _ hx) z
theorem dueF_good {es : List Row} (h : EsOk es 24) : dueF (es.map some) = none := by
  unfold dueF
  rw [List.length_map, if_neg (by have := h.len; omega), fAt_good h.nd (fun _ _ z => by cases z)]
  rfl
theorem row_same {H : Hp} {l l' : Addr} {us us' : List V} {es es' : List Row} (hv : V.ref l = V.ref l') (h1 : RowA H l us) (h2 : RowA H l' us') (e1 : EsT H us es) (e2 : EsT H us' es') : us = us' ∧ es = es' := by
  have hll : l = l' := by injection hv
  subst hll
  have huu : us = us' := by
    rcases h1 with a1 | a1 <;> rcases h2 with a2 | a2 <;> (rw [a1] at a2; cases a2) <;> rfl
  subst huu
  exact ⟨rfl, e1.rows.1.symm.trans e2.rows.1⟩
theorem EsOk.of_perm {a b : List Row} {m : Nat} (h : EsOk a m) (p : b.Perm a) : EsOk b m := ⟨(p.map (·.1)).nodup_iff.mpr h.nd, by rw [p.length_eq]; exact h.len, fun e he => h.it e (p.mem_iff.mp he)⟩
theorem EsOk.okR {a : List Row} {m : Nat} (h : EsOk a m) : okR a := fun e he => ⟨(h.it e he).1, (h.it e he).2.2⟩
theorem EsT.rev {H : Hp} {us : List V} {es : List Row} (h : EsT H us es) : EsT H us.reverse es.reverse := by
  obtain ⟨h1, h2⟩ := h.rows
  rw [← h1, ← List.map_reverse]
  exact est_of fun u hu => h2 u (List.mem_reverse.mp hu)
theorem EsT.app {H : Hp} : ∀ {us vs : List V} {es fs : List Row}, EsT H us es → EsT H vs fs → EsT H (us ++ vs) (es ++ fs)
  | _, _, _, _, .nil, k => k
  | _, _, _, _, .cons h t, k => .cons h (t.app k)
theorem EsT.takeT {H : Hp} : ∀ {us : List V} {es : List Row} (n : Nat), EsT H us es → EsT H (us.take n) (es.take n)
  | _, _, n, .nil => by rw [List.take_nil, List.take_nil]; exact .nil
  | _, _, 0, .cons h t => .nil
  | _, _, n + 1, .cons h t => .cons h (t.takeT n)
theorem EsT.dropT {H : Hp} : ∀ {us : List V} {es : List Row} (n : Nat), EsT H us es → EsT H (us.drop n) (es.drop n)
  | _, _, n, .nil => by rw [List.drop_nil, List.drop_nil]; exact .nil
  | _, _, 0, .cons h t => .cons h t
  | _, _, n + 1, .cons h t => t.dropT n
/-! a list that is written does not touch tables and rows -/
theorem EsT.of1L {x : Addr} {gs : List V} {H H' : Hp} (o : Of1 x H H') (hx : H x = some (.lst gs)) : ∀ {us : List V} {es : List Row}, EsT H us es → EsT H' us es
  | _, _, .nil => .nil
  | _, _, .cons h t => .cons (o _ _ (fun z => by rw [z, hx] at h; cases h) h) (t.of1L o hx)
theorem Tb.of1L {CT x y : Addr} {gs : List V} {H H' : Hp} {es : List Row} (o : Of1 x H H') (hx : H x = some (.lst gs)) (h : Tb CT H y es) : Tb CT H' y es := by
  obtain ⟨dx, fs, te, nd, us', es', h1, h2, h3, h4, h5, h6, h7, h8⟩ := h
  exact ⟨dx, fs, te, nd, us', es', o _ _ (fun z => by rw [z, hx] at h1; cases h1) h1, h2, h3, h4, o _ _ (fun z => by rw [z, hx] at h5; cases h5) h5, h6.of1L o hx, h7, o _ _ (fun z => by rw [z, hx] at h8; cases h8) h8⟩
/-- a list less of what stays -/
def lessG (G : Hp) (x : Addr) : Hp := fun b => if b = x then none else G b
theorem Pq.lessG {G H : Hp} {p g c x : Addr} (h : Pq G H p g c) (hc : c ≠ x) : Pq (lessG G x) H p g c := by
  obtain ⟨cs, gs, k, s, m, h1, r⟩ := h.at_
  refine ⟨fun b o hb => ?_, ?_, ?_, h.ne, cs, gs, k, s, m, ?_, r⟩
  · unfold Wk.lessG at hb
    split at hb
    · cases hb
    · exact h.ex _ _ hb
  · unfold Wk.lessG
    split
    · rfl
    · exact h.gp
  · unfold Wk.lessG
    split
    · rfl
    · exact h.gg
  · unfold Wk.lessG
    rw [if_neg hc]
    exact h1
section
variable {P : Program} {w : World} {K : PySem.W.Frag} {mg : Str → Option Value} {base : Heap} {f : Addr} {fd : FuncData} {CT CB CW CO : Addr}
abbrev WF : WX := fun _ _ _ _ => False
abbrev tTab (K : PySem.W.Frag) (CT CB : Addr) (t : TE) : TE := tMkAt CT (spInit3 K CT CB) (WE WF) (tCons t tNil)
/-- a table made of a right row: what stood stays -/
theorem mk_tab3 {W : XK} {H : Hp} {Q : Addr → Hp → Prop} {l : Addr} {us : List V} {es : List Row} (hrow : RowA H l us) (hus : EsT H us es) (hes : EsOk es 24) (k : ∀ x H', Ex H H' → H x = none → Tb CT H' x es → Q x H') :
    ∀ x dx, H x = none → H dx = none → dx ≠ x → spInit3 K CT CB [.ref x, .ref l] (upd (upd H dx (.own x)) x (.ins CT dx [])) (fun v H2 => v = .non ∧ Q x H2) W := fun x dx hx hdx hne => by
  have e1 : Ex H (upd (upd H dx (.own x)) x (.ins CT dx [])) := (Ex.new hdx).trans (Ex.new (by rw [upd_ne (Ne.symm hne)]; exact hx))
  have hlu := hus.length
  have hel := hes.len
  refine ⟨x, dx, .ref l, none, rfl, upd_same, .inl ⟨l, us, es.map some, rfl, hrow.mono e1, (ItT.of_est hus hes.it).mono e1, by omega, (dueF_good hes).symm⟩, fun _ l' us' es' hv hrow' hus' hes' H' o hT => ⟨rfl, ?_⟩, fun i hi => by cases hi⟩
  obtain ⟨rfl, rfl⟩ := row_same hv (hrow.mono e1) hrow' (hus.mono e1) hus'
  exact k x H' (fun b u hb => o b u (fun z => by rw [z, hx] at hb; cases hb) (e1 _ _ hb)) hx hT
/-- table == Table(l) -/
theorem ev_eqTab {H : Hp} {σ : L2.St} {ta tb : TE} {x : Addr} {es e2 : List Row} {bb : Bool} (ha : Ev ta σ H (.ref x)) (hT : Tb CT H x es) (o1 : EsOk es 24) (o2 : EsOk e2 24) (hb : ∀ s1 s2, SrR s1 es → SrR s2 e2 → decide (s1 = s2) = bb)
    (hr : ∀ H1, Ex H H1 → ∀ Q : VK, (∀ l us H2, Ex H1 H2 → RowA H2 l us → EsT H2 us e2 → Q (.ref l) H2) → tb σ H1 Q) : Ev (tOp (rEqB (DT CT)) ta (tTab K CT CB tb)) σ H (.bl bb) := fun H1 e Q q => by
  refine ha H1 e _ fun H2 e2' => hr H2 (e.trans e2') _ fun l us H3 e3 hrow hus => mk_tab3 (K := K) (CB := CB) hrow hus o2 fun x2 H4 e4 _ hT2 => ?_
  have e04 := ((e.trans e2').trans e3).trans e4
  obtain ⟨dx, fs, te, nd, u1, s1, h1, h2, h3, h4, h5, h6, h7, h8⟩ := id hT
  obtain ⟨dy, gs, tf, ne, u2, s2, j1, j2, j3, j4, j5, j6, j7, j8⟩ := id hT2
  refine ⟨_, dt_of (hT.mono e04) hT2 o1.okR o2.okR h7 j7, fun H5 e5 => ?_⟩
  rw [hb s1 s2 h7 j7]
  exact q H5 (((e2'.trans e3).trans e4).trans e5)
/-- Table(l) == table -/
theorem ev_eqTab' {H : Hp} {σ : L2.St} {ta tb : TE} {x : Addr} {es e2 : List Row} {bb : Bool} (ha : Ev ta σ H (.ref x)) (hT : Tb CT H x es) (o1 : EsOk es 24) (o2 : EsOk e2 24) (hb : ∀ s1 s2, SrR s1 es → SrR s2 e2 → decide (s2 = s1) = bb)
    (hr : ∀ H1, Ex H H1 → ∀ Q : VK, (∀ l us H2, Ex H1 H2 → RowA H2 l us → EsT H2 us e2 → Q (.ref l) H2) → tb σ H1 Q) : Ev (tOp (rEqB (DT CT)) (tTab K CT CB tb) ta) σ H (.bl bb) := fun H1 e Q q => by
  refine hr H1 e _ fun l us H3 e3 hrow hus => mk_tab3 (K := K) (CB := CB) hrow hus o2 fun x2 H4 e4 _ hT2 => ?_
  refine ha H4 ((e.trans e3).trans e4) _ fun H5 e5 => ?_
  have e05 := ((e.trans e3).trans e4).trans e5
  have hT2' := hT2.mono e5
  obtain ⟨dx, fs, te, nd, u1, s1, h1, h2, h3, h4, h5, h6, h7, h8⟩ := id hT
  obtain ⟨dy, gs, tf, ne, u2, s2, j1, j2, j3, j4, j5, j6, j7, j8⟩ := id hT2
  refine ⟨_, dt_of hT2' (hT.mono e05) o2.okR o1.okR j7 h7, fun H6 e6 => ?_⟩
  rw [hb s1 s2 h7 j7]
  exact q H6 (((e3.trans e4).trans e5).trans e6)
/-! _law_good_row -/
def spGR (K : PySem.W.Frag) (CT : Addr) : Sp := fun vs H Q _ => ∃ (G : Hp) (p g c x l gl : Addr) (us : List V) (es : List Row), vs = [.ref p, .ref x, .ref l, .ref gl] ∧ Pq G H p g c ∧ Tb CT H x es ∧ H l = some (.lst us) ∧ EsT H us es ∧ EsOk es 24 ∧
  ((∃ gs, H gl = some (.lst gs) ∧ gs.length ≤ 1000 ∧ gl ≠ l ∧ gl ≠ c ∧ gl ≠ g) ∨ (∃ gs, H gl = some (.tup gs))) ∧ l ≠ g ∧ ∀ H', Q (.bl true) H'
abbrev sGR : Stmt := top 34
abbrev nGR : List Str := ["_law_pool_here", "_law_table", "_law_row", "_law_given", "_law_turned", "_law_place", "_law_there", "_law_other", "_law_changed"]
theorem scGR : FnScope nGR ["_law_pool_here", "_law_table", "_law_row", "_law_given"] (defScope sGR) := ⟨rfl, rfl, rfl, by decide +kernel, rfl, by decide +kernel, by decide +kernel⟩
theorem ok_gr (B : Bl mg) (X : TX K CT) (M : MkT3 P w K mg base CT CB) (MQ : MqT P w K mg base CT) (CD : Cal P w K mg base "_law_draw" ["_law_pool_here", "_law_many"] 1 spDrw) (CH : Cal P w K mg base "_law_holds" ["_law_table", "_law_row"] 2 (spHld CT)) (F : FnP K "_law_good_row" sGR f fd) : FnOk P w K mg base CX0 8 f fd ["_law_pool_here", "_law_table", "_law_row", "_law_given"] (spGR K CT) := by
  obtain ⟨fI, fdI, mk, FI, bI⟩ := M.ex
  refine F.ok scGR (fun vs H Q E h => ?_) (fun cdv A outer s H vs Q E hr h => ?_)
  · obtain ⟨G, p, g, c, x, l, gl, us, es, rfl, _⟩ := h
    rfl
  · obtain ⟨G, p, g, c, x, l, gl, us, es, rfl, hP, hT, hl, hus, hes, hgl, hlg, k⟩ := h
    have r1 : Room 1 _ := hr.mono (by decide)
    refine ⟨_, pss_cons (ps_if (pt_not (pt_val (pe_cal CH hr (by rfl) (pa_cons (pv 1) (pa_cons (pv 2) pa_nil))))) (pss_one (ps_ret pe_bl)) pss_nil)
      (pss_cut (ps_if (pt_val (pe_callB call_isi (by rfl) B.isi boot_isinstance (pa_cons (pv 3) (pa_cons (pe_bltn (v := .ty "list") (by rfl) B.list PyProof.Rows.boot_list rfl) pa_nil))))
        (pss_cons (ps_expr (pe_bm PySem.F.plainAttrs_list PySem.F.slot_list_append PySem.F.type_list_append mt_append (pv 3) (pa_cons (pe_tup (pa_cons pe_str (pa_cons pe_str pa_nil))) pa_nil)))
        (pss_one (ps_expr (pe_bm0 PySem.F.plainAttrs_list PySem.F.slot_list_reverse PySem.F.type_list_reverse mt_reverse (pv 3))))) pss_nil)
      (pss_cons (ps_set (i := 4) scGR.nd rfl (Or.inl rfl) (pe_callTy (call_listK2 (K := K) rfl) (by rfl) B.list PyProof.Rows.boot_list (pa_cons (pv 2) pa_nil)))
      (pss_cons (ps_expr (pe_bm0 PySem.F.plainAttrs_list PySem.F.slot_list_reverse PySem.F.type_list_reverse mt_reverse (pv 4)))
      (pss_cons (ps_if (PW.pt (pw_or (pt_not (pt_val (pe_cal CH hr (by rfl) (pa_cons (pv 1) (pa_cons (pv 2) pa_nil))))) (pw_or (pt_not (pt_cmpR (op_eqB (rc_DT MQ) r1) (pv 1) (pe_mkAt (W := WE WF) mk FI hr (by rfl) M.g bI (fun σ => passAt takes0 σ) (pa_cons (pv 4) pa_nil)) (nomark _)))
          (pw_or1 (pt_not (pt_cmpR (op_eqB (rc_DT MQ) r1) (pe_mkAt (W := WE WF) mk FI hr (by rfl) M.g bI (fun σ => passAt takes0 σ) (pa_cons (pe_callTy (call_tupleK (K := K) rfl) (by rfl) B.tuple PyProof.Rows.boot_tuple (pa_cons (pv 4) pa_nil)) pa_nil)) (pv 1) (nomark _))))))) (pss_one (ps_ret pe_bl)) pss_nil)
      (pss_cons (ps_if (pt_cmpR op_eq (pe_callB call_len_seq (by rfl) B.len PySem.boot_len (pa_cons (pv 2) pa_nil)) pe_int (nomark _)) (pss_one (ps_ret pe_bl)) pss_nil)
      (pss_cons (ps_set (i := 5) scGR.nd rfl (Or.inl rfl) (pe_cal CD hr (by rfl) (pa_cons (pv 0) (pa_cons (pe_callB call_len_seq (by rfl) B.len PySem.boot_len (pa_cons (pv 2) pa_nil)) pa_nil))))
      (pss_cons (ps_set (i := 6) scGR.nd rfl (Or.inl rfl) (pe_ix ix_tup (pe_ix (ix_listK (K := K) rfl) (pv 2) (pv 5) (fun _ _ => rfl)) pe_int (fun _ _ => rfl)))
      (pss_cons (ps_set (i := 7) scGR.nd rfl (Or.inl rfl) pe_int)
      (pss_cut (ps_if (pt_cmpR op_eq (pv 6) pe_int (nomark _)) (pss_one (ps_set (i := 7) scGR.nd rfl (Or.inl rfl) pe_str)) pss_nil)
      (pss_cons (ps_set (i := 8) scGR.nd rfl (Or.inl rfl) (pe_op op_cat (pe_op op_cat (pe_slice sl_list (pv 2) po_none (po_some (pv 5))) (pe_lst (pa_cons (pe_tup (pa_cons (pe_ix ix_tup (pe_ix (ix_listK (K := K) rfl) (pv 2) (pv 5) (fun _ _ => rfl)) pe_int (fun _ _ => rfl)) (pa_cons (pv 7) pa_nil))) pa_nil)))
          (pe_slice sl_list (pv 2) (po_some (pe_op op_add (pv 5) pe_int)) po_none)))
      (pss_one (ps_ret (pe_and (pe_not (pe_cmpR (op_eqB (rc_DT MQ) r1) (pv 1) (pe_mkAt (W := WE WF) mk FI hr (by rfl) M.g bI (fun σ => passAt takes0 σ) (pa_cons (pv 8) pa_nil)) (nomark _)))
        (pe_one (pe_not (pe_cmpR (op_eqB (rc_DT MQ) r1) (pv 1) (pe_mkAt (W := WE WF) mk FI hr (by rfl) M.g bI (fun σ => passAt takes0 σ) (pa_cons (pe_op op_cat (pe_slice sl_list (pv 2) po_none (po_some (pv 5))) (pe_slice sl_list (pv 2) (po_some (pe_op op_add (pv 5) pe_int)) po_none)) pa_nil)) (nomark _))))))))))))))))), ?_⟩
    have hul := hus.length
    have hel := hes.len
    have c0 : Ev (tCall (spHld CT) [] E0 (tCons (tVar 1) (tCons (tVar 2) tNil))) (start nGR [V.ref p, .ref x, .ref l, .ref gl]) H (.bl true) := ev_call (ea_cons (ev_var rfl) (ea_cons (ev_var rfl) ea_nil)) (fun H1 e1 Q1 q1 E1 => ⟨x, l, us, es, rfl, hT.mono e1, e1 _ _ hl, hus.mono e1, hes, fun H2 e2 => q1 H2 e2⟩)
    refine q_when (b := !true) (et_not (et_B c0)) (fun z => by cases z) fun _ H1 e1 => ?_
    have hP := hP.ext e1
    have hT := hT.mono e1
    have hl := e1 _ _ hl
    have hus := hus.mono e1
    have hgl : (∃ gs, H1 gl = some (.lst gs) ∧ gs.length ≤ 1000 ∧ gl ≠ l ∧ gl ≠ c ∧ gl ≠ g) ∨ (∃ gs, H1 gl = some (.tup gs)) := hgl.imp (fun ⟨gs, a, b⟩ => ⟨gs, e1 _ _ a, b⟩) fun ⟨gs, a⟩ => ⟨gs, e1 _ _ a⟩
    clear c0 e1
    refine q_cut (M := fun σ2 H2 => σ2 = [some (.ref p), some (.ref x), some (.ref l), some (.ref gl), none, none, none, none, none] ∧ (∃ G2, Pq G2 H2 p g c) ∧ Tb CT H2 x es ∧ H2 l = some (.lst us) ∧ EsT H2 us es) ?_ ?_
    · rcases hgl with ⟨gs, hgs, hgn, ngl, ngc, ngg⟩ | ⟨gs, hgs⟩
      · refine s_if (b := true) (et_B (ev_isk (K := K) (v := .ref gl) (ev_var rfl) (isk_lst hgs (show kitB "list" "list" = some true by decide +kernel)))) (fun _ H2 e2 => ?_) (fun z => by cases z)
        refine q_appU (K := K) (xs := gs) (ys := [.str "0101010101", .str "here"]) (e2 _ _ hgs) (ev_var rfl) (eu_tup (ea_cons ev_c (ea_cons ev_c ea_nil)) (by show 2 ≤ 100000; decide)) (by omega) fun t H3 _ e3 _ => ?_
        refine ⟨.ref gl, rfl, .inl ⟨rfl, _, sq_of upd_same⟩, gl, gs ++ [.ref t], rfl, rfl, upd_same, ?_⟩
        have e23 := e2.trans e3
        have hgs3 := e23 _ _ hgs
        have o : Of1 gl H3 (upd (upd H3 gl (.lst (gs ++ [V.ref t]))) gl (.lst (gs ++ [V.ref t]).reverse)) := (Of1.upd gl _ _).trans (Of1.upd gl _ _)
        have hP3 := (hP.ext e23).lessG (Ne.symm ngc)
        have hgp : gl ≠ p := fun z => by
          obtain ⟨cs, gs', kk, s', m', i1, i2, i3, i4, _⟩ := hP.at_
          rw [z, i4] at hgs
          cases hgs
        have g0 : lessG G gl gl = none := by unfold lessG; rw [if_pos rfl]
        refine ⟨rfl, ⟨_, (hP3.mut g0 hgp ngg).mut g0 hgp ngg⟩, (hT.mono e23).of1L o hgs3, o _ _ (Ne.symm ngl) (e23 _ _ hl), (hus.mono e23).of1L o hgs3⟩
      · refine s_if (b := false) (et_B (ev_isk (K := K) (v := .ref gl) (ev_var rfl) (isk_tup hgs (show kitB "tuple" "list" = some false by decide +kernel)))) (fun z => by cases z) fun _ H2 e2 => ?_
        exact ⟨rfl, ⟨G, hP.ext e2⟩, hT.mono e2, e2 _ _ hl, hus.mono e2⟩
    rintro σ2 H2 ⟨rfl, ⟨G2, hP⟩, hT, hl, hus⟩
    clear hgl
    -- turned
    refine ⟨.ref l, rfl, l, us, rfl, .inl (sq_of hl), fun tl htl => ?_⟩
    refine g_name ?_
    dsimp only
    change tSeq (tDrop _) _ _ [some (.ref p), some (.ref x), some (.ref l), some (.ref gl), some (.ref tl), none, none, none, none] (upd H2 tl (.lst us))
    refine ⟨.ref tl, rfl, .inl ⟨rfl, _, sq_of upd_same⟩, tl, us, rfl, rfl, upd_same, ?_⟩
    have uu : upd (upd H2 tl (.lst us)) tl (.lst us.reverse) = upd H2 tl (.lst us.reverse) := upd_upd
    rw [uu]
    have e3 := Ex.new (o := .lst us.reverse) htl
    have htl3 : (upd H2 tl (.lst us.reverse)) tl = some (.lst us.reverse) := upd_same
    have hP3 := hP.ext e3
    have hT := hT.mono e3
    have hl := e3 _ _ hl
    have hus := hus.mono e3
    generalize upd H2 tl (.lst us.reverse) = H3 at *
    clear e3 uu htl
    have hes2 : EsOk es.reverse 24 := hes.of_perm (List.reverse_perm es)
    have c1 : Ev (tCall (spHld CT) [] E0 (tCons (tVar 1) (tCons (tVar 2) tNil))) [some (.ref p), some (.ref x), some (.ref l), some (.ref gl), some (.ref tl), none, none, none, none] H3 (.bl true) := ev_call (ea_cons (ev_var rfl) (ea_cons (ev_var rfl) ea_nil)) (fun H1 e1 Q1 q1 E1 => ⟨x, l, us, es, rfl, hT.mono e1, e1 _ _ hl, hus.mono e1, hes, fun H2 e2 => q1 H2 e2⟩)
    have c2 := ev_eqTab (K := K) (CB := CB) (H := H3) (σ := [some (.ref p), some (.ref x), some (.ref l), some (.ref gl), some (.ref tl), none, none, none, none]) (ta := tVar 1) (tb := tVar 4) (bb := true) (ev_var rfl) hT hes hes2 (fun s1 s2 r1 r2 => decide_eq_true ((srt_perm r1 r2 hes.nd).mpr (List.reverse_perm es))) (fun H4 e4 Q4 q4 => ⟨.ref tl, rfl, q4 tl _ H4 (Ex.refl _) (.inl (e4 _ _ htl3)) (hus.mono e4).rev⟩)
    have c3 := ev_eqTab' (K := K) (CB := CB) (H := H3) (σ := [some (.ref p), some (.ref x), some (.ref l), some (.ref gl), some (.ref tl), none, none, none, none]) (ta := tVar 1) (tb := tCB (fun xs H Q => ∃ p ys, xs = [.ref p] ∧ ((SqL K H p ys ∧ ∀ l, H l = none → Q (.ref l) (upd H l (.tup ys))) ∨ (SqT K H p ys ∧ Q (.ref p) H))) (tCons (tVar 4) tNil)) (bb := true) (ev_var rfl) hT hes hes2 (fun s1 s2 r1 r2 => decide_eq_true ((srt_perm r1 r2 hes.nd).mpr (List.reverse_perm es)).symm)
      (fun H4 e4 Q4 q4 => ⟨.ref tl, rfl, tl, us.reverse, rfl, .inl ⟨sq_of (e4 _ _ htl3), fun t ht => q4 t _ _ (Ex.new ht) (.inr upd_same) ((hus.mono e4).mono (Ex.new ht)).rev⟩⟩)
    refine q_when (b := !true || (!true || !true)) (et_or (et_not (et_B c1)) fun _ => et_or (et_not (et_test c2)) fun _ => et_not (et_test c3)) (fun z => by cases z) fun _ H4 e4 => ?_
    have hP := hP3.ext e4
    have hT := hT.mono e4
    have hl := e4 _ _ hl
    have hus := hus.mono e4
    clear c1 c2 c3 hP3
    refine q_when (b := decide (V.int (us.length : Int) = V.int 0)) (et_test (ev_op (r := rEq) (ev_len (K := K) (ev_var rfl) (sq_of hl)) ev_c (rv_eq rfl))) (fun _ H5 e5 => k H5) fun hz H5 e5 => ?_
    have hne : us.length ≠ 0 := fun z => (of_decide_eq_false hz) (by rw [z]; rfl)
    have hP := hP.ext e5
    have hlG := hP.hd
    have hT := (hT.mono e5).hd hP fun e he => (hes.it e he).1
    have hl5 := e5 _ _ hl
    have nlp : l ≠ p := fun z => by
      obtain ⟨cs, gs', kk, s', m', i1, i2, i3, i4, _⟩ := hP.at_
      rw [z, i4] at hl5
      cases hl5
    have hl : (Hd2 H5 p g) l = some (.lst us) := by rw [hd2_at nlp hlg]; exact hl5
    have hus := (hus.mono e5).hd hP
    generalize Hd2 H5 p g = G5 at *
    refine ep_drw (p := p) (g := g) (c := c) (G := G5) (z := (us.length : Int)) rfl (ev_len (K := K) (ev_var rfl) (sq_of hl)) (by omega) (by omega) H5 hlG _ fun H6 v g6 hv => ?_
    obtain ⟨j, rfl, hj0, hj1⟩ := hv
    obtain ⟨n, rfl⟩ : ∃ jn : Nat, j = (jn : Int) := ⟨j.toNat, by omega⟩
    have hn : n < us.length := by omega
    have hP6 := g6.pl
    have eG := hP6.ex
    refine g_name ?_
    dsimp only
    change tSeq (tAsg _ _) _ _ [some (.ref p), some (.ref x), some (.ref l), some (.ref gl), some (.ref tl), some (.int (n : Int)), none, none, none] H6
    obtain ⟨b, e, hub, hee, hbt⟩ := hus.at_ (List.getElem?_eq_getElem hn)
    have hun : us[n]? = some (.ref b) := by rw [List.getElem?_eq_getElem hn, hub]
    obtain ⟨heB, hel2, hen⟩ := hes.it e (List.mem_of_getElem? hee)
    refine q_asg (v := e.2) (ev_op (ev_ixR (K := K) (xs := us) (i := n) (ev_var rfl) (ev_var rfl) (eG _ _ hl) hun) ev_c (rv_ixT (st_of (eG _ _ hbt)) (atI_nat (j := 1) rfl))) fun H7 e7 => ?_
    refine q_c ?_
    refine q_cut (M := fun σ2 H8 => ∃ ov, σ2 = [some (.ref p), some (.ref x), some (.ref l), some (.ref gl), some (.ref tl), some (.int (n : Int)), some e.2, some ov, none] ∧ NxV ov ∧ ov ≠ e.2 ∧ Ex H6 H8) ?_ ?_
    · have hsc : scal e.2 (.int 3) = true := by
        rcases hen with z | z | ⟨i, _, z⟩ <;> (rw [z]; rfl)
      refine s_when (b := decide (e.2 = V.int 3)) (et_test (ev_op (r := rEq) (ev_var rfl) ev_c (rv_eq hsc))) (fun hb H8 e8 => ?_) fun hb H8 e8 => ?_
      · refine s_asg (v := .str "drop") ev_c fun H9 e9 => ⟨_, rfl, .inr (.inl rfl), fun z => ?_, (e7.trans e8).trans e9⟩
        rw [of_decide_eq_true hb] at z
        cases z
      · exact ⟨_, rfl, .inr (.inr ⟨3, by decide, rfl⟩), fun z => of_decide_eq_false hb z.symm, e7.trans e8⟩
    rintro σ2 H8 ⟨ov, rfl, hov, hne2, e8⟩
    have eG8 := eG.trans e8
    have sl1 : ∀ {H9 : Hp} {o8 : Option V}, Ex G5 H9 → EvL (tSl (rSlL K) (tVar 2) tNoPart (tPart (tVar 5))) [some (.ref p), some (.ref x), some (.ref l), some (.ref gl), some (.ref tl), some (.int (n : Int)), some e.2, some ov, o8] H9 (us.take n) := fun {H9 o8} e9 => by
      have q := el_sl (K := K) (te := tVar 2) (σ := [some (.ref p), some (.ref x), some (.ref l), some (.ref gl), some (.ref tl), some (.int (n : Int)), some e.2, some ov, o8]) (H := H9) (ev_var rfl) eo_none (eo_some (te := tVar 5) (i := (n : Int)) (ev_var rfl)) (sq_of (e9 _ _ hl))
      rw [cut_to _ _ (by omega)] at q
      exact q
    have sl2 : ∀ {H9 : Hp} {o8 : Option V}, Ex G5 H9 → EvL (tSl (rSlL K) (tVar 2) (tPart (tOp (rI0 fun i j => .int (i + j)) (tVar 5) (tC (.int 1)))) tNoPart) [some (.ref p), some (.ref x), some (.ref l), some (.ref gl), some (.ref tl), some (.int (n : Int)), some e.2, some ov, o8] H9 (us.drop (n + 1)) := fun {H9 o8} e9 => by
      have q := el_sl (K := K) (te := tVar 2) (σ := [some (.ref p), some (.ref x), some (.ref l), some (.ref gl), some (.ref tl), some (.int (n : Int)), some e.2, some ov, o8]) (H := H9) (ev_var rfl) (eo_some (i := ((n + 1 : Nat) : Int)) (ev_op (r := rI0 fun i j => .int (i + j)) (ta := tVar 5) (tb := tC (.int 1)) (x := .int (n : Int)) (ev_var rfl) ev_c (by rw [show V.int ((n + 1 : Nat) : Int) = V.int ((n : Int) + 1) by rw [Int.natCast_add]; rfl]; exact rv_I0))) eo_none (sq_of (e9 _ _ hl))
      rw [cut_from _ _ (by omega)] at q
      exact q
    have e0 : Ev (tOp (rIxT K) (tOp (rIxL K) (tVar 2) (tVar 5)) (tC (.int 0))) [some (.ref p), some (.ref x), some (.ref l), some (.ref gl), some (.ref tl), some (.int (n : Int)), some e.2, some ov, none] H8 (.str (T e.1)) := ev_op (ev_ixR (K := K) (xs := us) (i := n) (ev_var rfl) (ev_var rfl) (eG8 _ _ hl) hun) ev_c (rv_ixT (st_of (eG8 _ _ hbt)) (atI_nat (j := 0) rfl))
    -- changed
    refine q_asgW ?_
    refine (sl1 eG8) H8 (Ex.refl _) _ fun a1 H9 _ e9 ha1 => ?_
    refine e0 H9 e9 _ fun H10 e10 => ⟨ov, rfl, by show 2 ≤ sizeLine; decide, fun tt htt => ⟨by show 1 ≤ sizeLine; decide, fun a2 ha2 => ?_⟩⟩
    have e11 := Ex.new (o := .tup [V.str (T e.1), ov]) htt
    have htt1 : (upd H10 tt (.tup [V.str (T e.1), ov])) tt = some (.tup [V.str (T e.1), ov]) := upd_same
    generalize upd H10 tt (.tup [V.str (T e.1), ov]) = H11 at *
    have e12 := Ex.new (o := .lst [V.ref tt]) ha2
    have ha21 : (upd H11 a2 (.lst [V.ref tt])) a2 = some (.lst [V.ref tt]) := upd_same
    generalize upd H11 a2 (.lst [V.ref tt]) = H12 at *
    have e9c := (e10.trans e11).trans e12
    refine ⟨a1, a2, _, _, rfl, rfl, e9c _ _ ha1, ha21, by rw [List.length_take]; exact sz_of (by simp; omega), fun a3 ha3 => ?_⟩
    have e13 := Ex.new (o := .lst (us.take n ++ [V.ref tt])) ha3
    have ha31 : (upd H12 a3 (.lst (us.take n ++ [V.ref tt]))) a3 = some (.lst (us.take n ++ [V.ref tt])) := upd_same
    generalize upd H12 a3 (.lst (us.take n ++ [V.ref tt])) = H13 at *
    have e8d := (e9.trans e9c).trans e13
    refine (sl2 (eG8.trans e8d)) H13 (Ex.refl _) _ fun a4 H14 _ e14 ha4 => ?_
    refine ⟨a3, a4, _, _, rfl, rfl, e14 _ _ ha31, ha4, by rw [List.length_append, List.length_take, List.length_drop]; exact sz_of (by simp; omega), fun a5 ha5 => ?_⟩
    have e15 := Ex.new (o := .lst (us.take n ++ [V.ref tt] ++ us.drop (n + 1))) ha5
    have ha51 : (upd H14 a5 (.lst (us.take n ++ [V.ref tt] ++ us.drop (n + 1)))) a5 = some (.lst (us.take n ++ [V.ref tt] ++ us.drop (n + 1))) := upd_same
    generalize upd H14 a5 (.lst (us.take n ++ [V.ref tt] ++ us.drop (n + 1))) = HF at *
    have eF := ((eG8.trans e8d).trans e14).trans e15
    have httF := e15 _ _ (e14 _ _ (e13 _ _ (e12 _ _ htt1)))
    change tRet _ _ [some (.ref p), some (.ref x), some (.ref l), some (.ref gl), some (.ref tl), some (.int (n : Int)), some e.2, some ov, some (.ref a5)] HF
    have husF := hus.mono eF
    have hlF := eF _ _ hl
    have hTF := hT.mono eF
    have hE2 : EsT HF (us.take n ++ [V.ref tt] ++ us.drop (n + 1)) (es.take n ++ [(e.1, ov)] ++ es.drop (n + 1)) := ((husF.takeT n).app (.cons (e := (e.1, ov)) httF .nil)).app (husF.dropT (n + 1))
    have hE3 : ∀ {HH : Hp}, Ex HF HH → EsT HH (us.take n ++ us.drop (n + 1)) (es.take n ++ es.drop (n + 1)) := fun ee => ((husF.mono ee).takeT n).app ((husF.mono ee).dropT (n + 1))
    have hnl : n < es.length := by omega
    have hsplit : es = es.take n ++ [e] ++ es.drop (n + 1) := by
      have z : es[n] = e := Option.some.inj ((List.getElem?_eq_getElem hnl).symm.trans hee)
      rw [← z, List.append_assoc, List.singleton_append, ← List.drop_eq_getElem_cons hnl, List.take_append_drop]
    have hkeys : (es.take n ++ [(e.1, ov)] ++ es.drop (n + 1)).map (·.1) = es.map (·.1) := by
      conv => rhs; rw [hsplit]
      simp only [List.map_append, List.map_cons, List.map_nil]
    have ok2 : EsOk (es.take n ++ [(e.1, ov)] ++ es.drop (n + 1)) 24 := by
      refine ⟨by rw [hkeys]; exact hes.nd, ?_, fun y hy => ?_⟩
      · have := congrArg List.length hkeys
        rw [List.length_map, List.length_map] at this
        omega
      · rw [List.append_assoc, List.mem_append, List.mem_append] at hy
        rcases hy with hy | hy | hy
        · exact hes.it y (List.mem_of_mem_take hy)
        · rw [List.mem_singleton.mp hy]
          exact ⟨heB, hel2, hov⟩
        · exact hes.it y (List.mem_of_mem_drop hy)
    have hsub : (es.take n ++ es.drop (n + 1)).Sublist es := by
      conv => rhs; rw [hsplit]
      rw [List.append_assoc]
      exact List.Sublist.append_left (List.sublist_append_right _ _) _
    have ok3 : EsOk (es.take n ++ es.drop (n + 1)) 24 := ⟨List.Sublist.nodup (hsub.map _) hes.nd, by have := hsub.length_le; omega, fun y hy => hes.it y (hsub.subset hy)⟩
    have d1 := ev_eqTab (K := K) (CB := CB) (H := HF) (σ := [some (.ref p), some (.ref x), some (.ref l), some (.ref gl), some (.ref tl), some (.int (n : Int)), some e.2, some ov, some (.ref a5)]) (ta := tVar 1) (tb := tVar 8) (bb := false) (ev_var rfl) hTF hes ok2 (fun s1 s2 r1 r2 => decide_eq_false fun z => by
      have hp := (srt_perm r1 r2 hes.nd).mp z
      have hm : (e.1, ov) ∈ es := hp.mem_iff.mp (by simp)
      have v1 := valE_mem hes.nd hm
      have v2 := valE_mem hes.nd (List.mem_of_getElem? hee)
      rw [v2] at v1
      exact hne2 (Option.some.inj v1).symm) (fun H4 e4 Q4 q4 => ⟨.ref a5, rfl, q4 a5 _ H4 (Ex.refl _) (.inl (e4 _ _ ha51)) (hE2.mono e4)⟩)
    have d2 := ev_eqTab (K := K) (CB := CB) (H := HF) (σ := [some (.ref p), some (.ref x), some (.ref l), some (.ref gl), some (.ref tl), some (.int (n : Int)), some e.2, some ov, some (.ref a5)]) (ta := tVar 1) (tb := tOp rCat (tSl (rSlL K) (tVar 2) tNoPart (tPart (tVar 5))) (tSl (rSlL K) (tVar 2) (tPart (tOp (rI0 fun i j => .int (i + j)) (tVar 5) (tC (.int 1)))) tNoPart)) (bb := false) (ev_var rfl) hTF hes ok3 (fun s1 s2 r1 r2 => decide_eq_false fun z => by
      have hp := (srt_perm r1 r2 hes.nd).mp z
      have := hp.length_eq
      rw [List.length_append, List.length_take, List.length_drop] at this
      omega) (fun H4 e4 Q4 q4 => (sl1 (eF.trans e4)) H4 (Ex.refl _) _ fun b1 H5' _ e5' hb1 => (sl2 ((eF.trans e4).trans e5')) H5' (Ex.refl _) _ fun b2 H6' _ e6' hb2 => ⟨b1, b2, _, _, rfl, rfl, e6' _ _ hb1, hb2, by rw [List.length_take, List.length_drop]; exact sz_of (by omega), fun b3 hb3 => q4 b3 _ _ ((e5'.trans e6').trans (Ex.new hb3)) (.inl upd_same) (hE3 (((e4.trans e5').trans e6').trans (Ex.new hb3)))⟩)
    exact s_ret (v := .bl (!false && !false)) (ev_andV (ev_notV d1) fun _ => ev_notV d2) fun HZ _ => k HZ
end
end Wk

set_option Elab.async false
set_option linter.all false
set_option maxRecDepth 100000
set_option maxHeartbeats 4000000
namespace Wk
open PySem PySem.Spec PyProof.Rows L2 Evl
/-! things put together of what stands and what is new -/
def Ag (H0 H G : Hp) : Prop := ∀ a o, H0 a = none → H a = some o → G a = some o
theorem Ag.mono {H0 H H' G : Hp} (e : Ex H H') (h : Ag H0 H' G) : Ag H0 H G := fun a o h0 h1 => h a o h0 (e _ _ h1)
def XK (K : PySem.W.Frag) (G : Hp) (x : V) : Prop := (∃ l, x = .str (T l) ∧ IsB l ∧ l.length ≤ 10) ∨ BadT K G x
def YK (K : PySem.W.Frag) (G : Hp) (y : V) : Prop := NxV y ∨ BadW K G y
def JI (K : PySem.W.Frag) (H0 H : Hp) (v : V) : Prop := ∀ G, Ag H0 H G → ∃ o, ItO K G v o
def JX (K : PySem.W.Frag) (H0 H : Hp) (v : V) : Prop := ∀ G, Ag H0 H G → XK K G v
def JY (K : PySem.W.Frag) (H0 H : Hp) (v : V) : Prop := ∀ G, Ag H0 H G → YK K G v
theorem JI.mono {K : PySem.W.Frag} {H0 H H' : Hp} {v : V} (e : Ex H H') (h : JI K H0 H v) : JI K H0 H' v := fun G g => h G (g.mono e)
theorem JX.mono {K : PySem.W.Frag} {H0 H H' : Hp} {v : V} (e : Ex H H') (h : JX K H0 H v) : JX K H0 H' v := fun G g => h G (g.mono e)
theorem JY.mono {K : PySem.W.Frag} {H0 H H' : Hp} {v : V} (e : Ex H H') (h : JY K H0 H v) : JY K H0 H' v := fun G g => h G (g.mono e)
theorem ji_pair {K : PySem.W.Frag} {H0 H : Hp} {b : Addr} {x y : V} (h0 : H0 b = none) (hb : H b = some (.tup [x, y])) (hx : JX K H0 H x) (hy : JY K H0 H y) : JI K H0 H (.ref b) := fun G g => by
  have hG := g _ _ h0 hb
  rcases hx G g with ⟨l, rfl, hB, hl⟩ | hx
  · rcases hy G g with hy | hy
    · exact ⟨some (l, y), b, rfl, hG, hB, hl, hy⟩
    · exact ⟨none, .way hG hB hl hy⟩
  · exact ⟨none, .rng hG hx⟩
def EvYA (t : TA) (σ : L2.St) (H : Hp) (Y : Hp → V → Prop) (n : Nat) : Prop := ∀ H1, Ex H H1 → ∀ Q : List V → Hp → Prop, (∀ us H2, Ex H1 H2 → us.length = n → (∀ u ∈ us, Y H2 u) → Q us H2) → t σ H1 Q
def EvYo (te : TE) (σ : L2.St) (H : Hp) (Y : Hp → V → Prop) : Prop := ∀ H1, Ex H H1 → ∀ Q : VK, (∀ u H2, Ex H1 H2 → Y H2 u → Q u H2) → te σ H1 Q
section
variable {σ : L2.St} {H : Hp} {te tx ty : TE} {t : TA} {v : V} {H0 : Hp} {n : Nat} {K : PySem.W.Frag}
theorem eya_nil : EvYA tNil σ H (JI K H0) 0 := fun H1 e Q q => q [] H1 (Ex.refl _) rfl (fun _ h => by cases h)
theorem eya_cons (h : EvYo te σ H (JI K H0)) (h2 : EvYA t σ H (JI K H0) n) : EvYA (tCons te t) σ H (JI K H0) (n + 1) := fun H1 e Q q =>
  h H1 e _ fun u H2 e2 hu => h2 H2 (e.trans e2) _ fun us H3 e3 hl hus => q (u :: us) H3 (e2.trans e3) (by simp [hl]) fun x hx => (List.mem_cons.mp hx).elim (fun z => by rw [z]; exact hu.mono e3) (hus x)
theorem eyo_ev {Y : Hp → V → Prop} (h : Ev te σ H v) (hy : ∀ H1, Y H1 v) : EvYo te σ H Y := fun H1 e Q q => h H1 e _ fun H2 e2 => q v H2 e2 (hy H2)
theorem eyo_pair (hH : Ex H0 H) (hx : EvYo tx σ H (JX K H0)) (hy : EvYo ty σ H (JY K H0)) : EvYo (tTup (tCons tx (tCons ty tNil))) σ H (JI K H0) := fun H1 e Q q =>
  hx H1 e _ fun x H2 e2 jx => hy H2 (e.trans e2) _ fun y H3 e3 jy => ⟨by show 2 ≤ sizeLine; decide, fun b hb => by
    have e4 := Ex.new (o := .tup [x, y]) hb
    exact q _ _ ((e2.trans e3).trans e4) (ji_pair (fresh_back (((hH.trans e).trans e2).trans e3) hb) upd_same (jx.mono (e3.trans e4)) (jy.mono e4))⟩
theorem jx_bits {l : List Nat} (hB : IsB l) (hl : l.length ≤ 10) (H1 : Hp) : JX K H0 H1 (.str (T l)) := fun G _ => .inl ⟨l, rfl, hB, hl⟩
theorem jx_bad {l : List Nat} (hl : l.length ≤ 100) (hr : rngB l = false) (H1 : Hp) : JX K H0 H1 (.str (T l)) := fun G _ => .inr (.inl ⟨l, rfl, hl, hr⟩)
theorem jy_nx (h : NxV v) (H1 : Hp) : JY K H0 H1 v := fun G _ => .inl h
theorem jy_bad (h : ∀ G, BadW K G v) (H1 : Hp) : JY K H0 H1 v := fun G _ => .inr (h G)
theorem rng_len {l : List Nat} (h : 10 < l.length) : rngB l = false := by
  unfold rngB
  rw [decide_eq_false (by omega), Bool.false_and]
theorem rng_bad {l : List Nat} {c : Nat} (h : c ∈ l) (hc : bitB c = false) : rngB l = false := by
  unfold rngB
  have : l.all bitB = false := by
    cases z : l.all bitB with
    | false => rfl
    | true =>
      rw [List.all_eq_true.mp z c h] at hc
      cases hc
  rw [this, Bool.and_false]
theorem ev_cs {s : Str} {l : List Nat} (h : s = T l) : Ev (tC (.str s)) σ H (.str (T l)) := by
  rw [← h]
  exact ev_c
end
/-- more of what isinstance tells of a table -/
structure TK (K : PySem.W.Frag) (CT : Addr) : Prop where
  ki : PySem.W.kitOne K (.ref CT) (.type "int") = some false
  kl : PySem.W.kitOne K (.ref CT) (.type "list") = some false
  kt : PySem.W.kitOne K (.ref CT) (.type "tuple") = some false
section
variable {P : Program} {w : World} {K : PySem.W.Frag} {mg : Str → Option Value} {base : Heap} {f : Addr} {fd : FuncData} {CT CB CW CO : Addr}
theorem isk_ins {H : Hp} {a dx : Addr} {fs : List (Str × V)} {n : String} {b : Bool} (X : TX K CT) (h : H a = some (.ins CT dx fs)) (hk : PySem.W.kitOne K (.ref CT) (.type n) = some b) : IsK K H (.ref a) n b := fun H' e => ⟨_, .base (.ins (e _ _ h) X.ic.cl X.ic.ha X.ic.hn X.ic.htk X.ic.hm), hk⟩
/-! _law_odd -/
def spOdd (K : PySem.W.Frag) : Sp := fun vs H Q _ => ∃ (G : Hp) (p g c l : Addr) (us : List V) (es : List Row) (m n : Nat), vs = [.ref p, .ref l, .int (n : Int)] ∧ Pq G H p g c ∧ G l = some (.lst us) ∧ EsT G us es ∧ EsOk es m ∧ m ≤ 100 ∧ n < es.length ∧ ∀ G' H' v o, Gq p g c G H G' H' → ItO K G' v o → Q v H'
abbrev sOdd : Stmt := top 28
abbrev nOdd : List Str := ["_law_pool_here", "_law_entries_here", "_law_place", "_law_bits_here", "_law_there", "_law_odd_here"]
theorem scOdd : FnScope nOdd ["_law_pool_here", "_law_entries_here", "_law_place"] (defScope sOdd) := ⟨rfl, rfl, rfl, by decide +kernel, rfl, by decide +kernel, by decide +kernel⟩
theorem ok_odd (B : Bl mg) (X : TX K CT) (XK' : TK K CT) (M : MkT3 P w K mg base CT CB) (C : Cal P w K mg base "_law_draw" ["_law_pool_here", "_law_many"] 1 spDrw) (F : FnP K "_law_odd" sOdd f fd) : FnOk P w K mg base CX0 8 f fd ["_law_pool_here", "_law_entries_here", "_law_place"] (spOdd K) := by
  obtain ⟨fI, fdI, mk, FI, bI⟩ := M.ex
  refine F.ok scOdd (fun vs H Q E h => ?_) (fun cdv A outer s H vs Q E hr h => ?_)
  · obtain ⟨G, p, g, c, l, us, es, m, n, rfl, _⟩ := h
    rfl
  · obtain ⟨G, p, g, c, l, us, es, m, n, rfl, hP, hl, hus, hes, hm, hn, k⟩ := h
    refine ⟨_, pss_cons (ps_set (i := 3) scOdd.nd rfl (Or.inl rfl) (pe_ix ix_tup (pe_ix (ix_listK (K := K) rfl) (pv 1) (pv 2) (fun _ _ => rfl)) pe_int (fun _ _ => rfl)))
      (pss_cons (ps_set (i := 4) scOdd.nd rfl (Or.inl rfl) (pe_ix ix_tup (pe_ix (ix_listK (K := K) rfl) (pv 1) (pv 2) (fun _ _ => rfl)) pe_int (fun _ _ => rfl)))
      (pss_cons (ps_set (i := 5) scOdd.nd rfl (Or.inl rfl) (pe_lst (pa_cons (pe_lst (pa_cons (pv 3) (pa_cons (pv 4) pa_nil))) (pa_cons (pe_tup (pa_cons (pv 3) pa_nil)) (pa_cons (pe_tup (pa_cons (pv 3) (pa_cons (pv 4) (pa_cons (pv 4) pa_nil))))
          (pa_cons (pe_tup (pa_cons (pe_op op_add_str (pv 3) pe_str) (pa_cons (pv 4) pa_nil))) (pa_cons (pe_tup (pa_cons (pe_op op_add_str (pe_slice sl_str (pv 3) po_none (po_some pe_int)) pe_str) (pa_cons (pv 4) pa_nil))) pa_nil)))))))
      (pss_cons (ps_set (i := 5) scOdd.nd rfl (Or.inl rfl) (pe_op op_cat (pv 5) (pe_lst (pa_cons (pe_tup (pa_cons (pe_op op_add_str (pe_slice sl_str (pv 3) po_none (po_some pe_int)) pe_str) (pa_cons (pv 4) pa_nil))) (pa_cons (pe_tup (pa_cons pe_int (pa_cons (pv 4) pa_nil))) (pa_cons (pe_tup (pa_cons pe_non (pa_cons (pv 4) pa_nil)))
          (pa_cons (pe_tup (pa_cons (pv 3) (pa_cons pe_int pa_nil))) (pa_cons (pe_tup (pa_cons (pv 3) (pa_cons (pe_un un_neg pe_int) pa_nil))) (pa_cons (pe_tup (pa_cons (pv 3) (pa_cons pe_bl pa_nil))) pa_nil)))))))))
      (pss_cons (ps_set (i := 5) scOdd.nd rfl (Or.inl rfl) (pe_op op_cat (pv 5) (pe_lst (pa_cons (pe_tup (pa_cons (pv 3) (pa_cons pe_str pa_nil))) (pa_cons (pe_tup (pa_cons (pv 3) (pa_cons pe_non pa_nil))) (pa_cons (pe_tup (pa_cons (pv 3) (pa_cons pe_str pa_nil))) (pa_cons (pe_tup (pa_cons (pv 3) (pa_cons (pe_lst (pa_cons pe_str pa_nil)) pa_nil)))
          (pa_cons (pv 3) (pa_cons pe_non (pa_cons (pe_tup (pa_cons (pe_ix ix_tup (pe_ix (ix_listK (K := K) rfl) (pv 1) pe_int (fun _ _ => rfl)) pe_int (fun _ _ => rfl)) (pa_cons (pv 4) pa_nil))) pa_nil))))))))))
      (pss_cons (ps_set (i := 5) scOdd.nd rfl (Or.inl rfl) (pe_op op_cat (pv 5) (pe_lst (pa_cons (pe_tup (pa_cons (pv 3) (pa_cons (pe_op op_pow pe_int pe_int) pa_nil))) (pa_cons (pe_tup (pa_cons (pe_lst (pa_cons (pv 3) pa_nil)) (pa_cons (pv 4) pa_nil))) (pa_cons (pe_tup (pa_cons (pv 3) (pa_cons pe_str pa_nil)))
          (pa_cons (pe_tup (pa_cons (pv 3) (pa_cons (pe_mkAt (W := WE WF) mk FI hr (by rfl) M.g bI (fun σ => passAt takes0 σ) (pa_cons (pe_lst pa_nil) pa_nil)) pa_nil))) pa_nil)))))))
      (pss_one (ps_ret (pe_ix (ix_listK (K := K) rfl) (pv 5) (pe_cal C hr (by rfl) (pa_cons (pv 0) (pa_cons pe_int pa_nil))) (fun _ _ => rfl))))))))), ?_⟩
    have hul := hus.length
    have eG := hP.ex
    obtain ⟨b, e, hub, hee, hbt⟩ := hus.at_ (List.getElem?_eq_getElem (show n < us.length by omega))
    have hun : us[n]? = some (.ref b) := by rw [List.getElem?_eq_getElem (show n < us.length by omega), hub]
    obtain ⟨b0, e0, hub0, hee0, hbt0⟩ := hus.at_ (List.getElem?_eq_getElem (show 0 < us.length by omega))
    have hun0 : us[0]? = some (.ref b0) := by rw [List.getElem?_eq_getElem (show 0 < us.length by omega), hub0]
    obtain ⟨heB, hel, hen⟩ := hes.it e (List.mem_of_getElem? hee)
    obtain ⟨h0B, h0l, _⟩ := hes.it e0 (List.mem_of_getElem? hee0)
    refine q_asg (v := .str (T e.1)) (ev_op (ev_ixR (K := K) (xs := us) (i := n) (ev_var rfl) (ev_var rfl) (eG _ _ hl) hun) ev_c (rv_ixT (st_of (eG _ _ hbt)) (atI_nat (j := 0) rfl))) fun HA eA => ?_
    refine q_asg (v := e.2) (ev_op (ev_ixR (K := K) (xs := us) (i := n) (ev_var rfl) (ev_var rfl) ((eG.trans eA) _ _ hl) hun) ev_c (rv_ixT (st_of ((eG.trans eA) _ _ hbt)) (atI_nat (j := 1) rfl))) fun HB eB => ?_
    have hP := hP.ext (eA.trans eB)
    have gAB := Gq.ext (g := g) (c := c) (show Pq G H p g c from by assumption) (eA.trans eB)
    have eG := hP.ex
    change tSeq (tAsg _ _) _ _ [some (.ref p), some (.ref l), some (.int (n : Int)), some (.str (T e.1)), some e.2, none] HB
    have lit : (Str.ofString "01010101010" = T [48, 49, 48, 49, 48, 49, 48, 49, 48, 49, 48]) ∧ (Str.ofString "2" = T [50]) ∧ (Str.ofString " " = T [32]) := by decide +kernel
    obtain ⟨tl11, t2, tb⟩ := lit
    have sl5 : ∀ {σ : L2.St} {H1 : Hp}, σ[3]? = some (some (.str (T e.1))) → Ev (tSl rSlS (tVar 3) tNoPart (tPart (tC (.int 5)))) σ H1 (.str (T (e.1.take 5))) := fun {σ H1} h => by
      have z := ev_slS (H := H1) (lo := none) (hi := some ((5 : Nat) : Int)) (ev_var h) eo_none (eo_some ev_c) (by omega)
      rw [cut_take] at z
      exact z
    have l5 : (e.1.take 5).length ≤ 5 := by rw [List.length_take]; omega
    have xb : ∀ {σ : L2.St} {H1 : Hp}, σ[3]? = some (some (.str (T e.1))) → EvYo (tVar 3) σ H1 (JX K HB) := fun {σ H1} h => eyo_ev (ev_var h) (jx_bits heB hel)
    have yt : ∀ {σ : L2.St} {H1 : Hp}, σ[4]? = some (some e.2) → EvYo (tVar 4) σ H1 (JY K HB) := fun {σ H1} h => eyo_ev (ev_var h) (jy_nx hen)
    -- the first five
    refine q_asgW ?_
    refine (show EvYA _ [some (.ref p), some (.ref l), some (.int (n : Int)), some (.str (T e.1)), some e.2, none] HB (JI K HB) 5 from ?A1) HB (Ex.refl _) _ fun u1 H1 e1 hl1 hu1 => ⟨by rw [hl1]; decide, fun D1 hD1 => ?_⟩
    case A1 =>
      refine eya_cons (fun H1 e1 Q q => ?_) (eya_cons (fun H1 e1 Q q => ?_) (eya_cons (fun H1 e1 Q q => ?_) (eya_cons (eyo_pair (Ex.refl _) (eyo_ev (ev_addS (ev_var rfl) (ev_cs tl11) (by simp <;> omega)) (jx_bad (by simp <;> omega) (rng_len (by simp <;> omega)))) (yt rfl)) (eya_cons (eyo_pair (Ex.refl _) (eyo_ev (ev_addS (sl5 rfl) (ev_cs t2) (by simp <;> omega)) (jx_bad (by simp <;> omega) (rng_bad (c := 50) (by simp) (by decide)))) (yt rfl)) eya_nil))))
      · exact ⟨_, rfl, _, rfl, by show 2 ≤ sizeLine; decide, fun a ha => q _ _ (Ex.new ha) fun G g => ⟨none, .no rfl (isk_lst (g _ _ (fresh_back e1 ha) upd_same) (show kitB "list" "tuple" = some false by decide +kernel))⟩⟩
      · exact ⟨_, rfl, by show 1 ≤ sizeLine; decide, fun a ha => q _ _ (Ex.new ha) fun G g => ⟨none, .len (g _ _ (fresh_back e1 ha) upd_same) (by simp) (by simp)⟩⟩
      · exact ⟨_, rfl, _, rfl, _, rfl, by show 3 ≤ sizeLine; decide, fun a ha => q _ _ (Ex.new ha) fun G g => ⟨none, .len (g _ _ (fresh_back e1 ha) upd_same) (by simp) (by simp)⟩⟩
    have f1 := Ex.new (o := .lst u1) hD1
    have hDD1 : (upd H1 D1 (.lst u1)) D1 = some (.lst u1) := upd_same
    have hu1 : ∀ u ∈ u1, JI K HB (upd H1 D1 (.lst u1)) u := fun u hu => (hu1 u hu).mono f1
    have e01 := e1.trans f1
    generalize upd H1 D1 (.lst u1) = H2 at *
    clear f1 e1 hD1
    change tSeq (tAsg _ _) _ _ [some (.ref p), some (.ref l), some (.int (n : Int)), some (.str (T e.1)), some e.2, some (.ref D1)] H2
    -- six more
    refine q_asgW ?_
    refine ⟨.ref D1, rfl, (show EvYA _ [some (.ref p), some (.ref l), some (.int (n : Int)), some (.str (T e.1)), some e.2, some (.ref D1)] H2 (JI K HB) 6 from ?A2) H2 (Ex.refl _) _ fun v1 H3 e3 hv1l hv1 => ⟨by rw [hv1l]; decide, fun D2 hD2 => ?_⟩⟩
    case A2 =>
      exact eya_cons (eyo_pair e01 (eyo_ev (ev_addS (sl5 rfl) (ev_cs tb) (by simp; omega)) (jx_bad (by simp; omega) (rng_bad (c := 32) (by simp) (by decide)))) (yt rfl))
        (eya_cons (eyo_pair e01 (eyo_ev ev_c fun _ G _ => .inr (.inr (nst_dq (.int 5) rfl))) (yt rfl)) (eya_cons (eyo_pair e01 (eyo_ev ev_c fun _ G _ => .inr (.inr (nst_dq .non rfl))) (yt rfl))
        (eya_cons (eyo_pair e01 (xb rfl) (eyo_ev ev_c (jy_bad fun _ => .int (by decide)))) (eya_cons (eyo_pair e01 (xb rfl) (eyo_ev (ev_un ev_c ru_neg) (jy_bad fun _ => .int (by decide)))) (eya_cons (eyo_pair e01 (xb rfl) (eyo_ev ev_c (jy_bad fun _ => .bl true))) eya_nil)))))
    have f2 := Ex.new (o := .lst v1) hD2
    have hDD2 : (upd H3 D2 (.lst v1)) D2 = some (.lst v1) := upd_same
    generalize upd H3 D2 (.lst v1) = H4 at *
    refine ⟨D1, D2, u1, v1, rfl, rfl, f2 _ _ (e3 _ _ hDD1), hDD2, by rw [hl1, hv1l]; decide, fun D3 hD3 => ?_⟩
    have f3 := Ex.new (o := .lst (u1 ++ v1)) hD3
    have hDD3 : (upd H4 D3 (.lst (u1 ++ v1))) D3 = some (.lst (u1 ++ v1)) := upd_same
    have hu2 : ∀ u ∈ u1 ++ v1, JI K HB (upd H4 D3 (.lst (u1 ++ v1))) u := fun u hu => (List.mem_append.mp hu).elim (fun h => (hu1 u h).mono ((e3.trans f2).trans f3)) (fun h => (hv1 u h).mono (f2.trans f3))
    have hl2 : (u1 ++ v1).length = 11 := by rw [List.length_append, hl1, hv1l]
    have e02 := ((e01.trans e3).trans f2).trans f3
    generalize upd H4 D3 (.lst (u1 ++ v1)) = H5 at *
    generalize u1 ++ v1 = u2 at *
    clear hu1 hv1 hDD1 hDD2 f2 f3 e3 e01 hD2 hD3 hl1 hv1l
    change tSeq (tAsg _ _) _ _ [some (.ref p), some (.ref l), some (.int (n : Int)), some (.str (T e.1)), some e.2, some (.ref D3)] H5
    -- seven more
    refine q_asgW ?_
    refine ⟨.ref D3, rfl, (show EvYA _ [some (.ref p), some (.ref l), some (.int (n : Int)), some (.str (T e.1)), some e.2, some (.ref D3)] H5 (JI K HB) 7 from ?A3) H5 (Ex.refl _) _ fun v2 H6 e6 hv2l hv2 => ⟨by rw [hv2l]; decide, fun D4 hD4 => ?_⟩⟩
    case A3 =>
      refine eya_cons (eyo_pair e02 (xb rfl) (eyo_ev ev_c (jy_bad fun _ => .str (by decide +kernel)))) (eya_cons (eyo_pair e02 (xb rfl) (eyo_ev ev_c (jy_bad fun _ => .other (isk_dq .non (show kitB "NoneType" "str" = some false by decide +kernel)) (isk_dq .non (show kitB "NoneType" "int" = some false by decide +kernel)))))
        (eya_cons (eyo_pair e02 (xb rfl) (eyo_ev ev_c (jy_bad fun _ => .str (by decide +kernel)))) (eya_cons (eyo_pair e02 (xb rfl) (fun H1 e1 Q q => ?_)) (eya_cons (eyo_ev (ev_var rfl) fun _ G _ => ⟨none, .no rfl (isk_dq (.str _) (show kitB "str" "tuple" = some false by decide +kernel))⟩)
        (eya_cons (eyo_ev ev_c fun _ G _ => ⟨none, .no rfl (isk_dq .non (show kitB "NoneType" "tuple" = some false by decide +kernel))⟩) (eya_cons (eyo_pair e02 (eyo_ev (ev_op (ev_ixR (K := K) (xs := us) (i := 0) (ev_var rfl) ev_c ((eG.trans e02) _ _ hl) hun0) ev_c (rv_ixT (st_of ((eG.trans e02) _ _ hbt0)) (atI_nat (j := 0) rfl))) (jx_bits h0B h0l)) (yt rfl)) eya_nil))))))
      exact ⟨by show 1 ≤ sizeLine; decide, fun a ha => q _ _ (Ex.new ha) fun G g => .inr (.other (isk_lst (g _ _ (fresh_back (e02.trans e1) ha) upd_same) (show kitB "list" "str" = some false by decide +kernel)) (isk_lst (g _ _ (fresh_back (e02.trans e1) ha) upd_same) (show kitB "list" "int" = some false by decide +kernel)))⟩
    have f4 := Ex.new (o := .lst v2) hD4
    have hDD4 : (upd H6 D4 (.lst v2)) D4 = some (.lst v2) := upd_same
    generalize upd H6 D4 (.lst v2) = H7 at *
    refine ⟨D3, D4, u2, v2, rfl, rfl, f4 _ _ (e6 _ _ hDD3), hDD4, by rw [hl2, hv2l]; decide, fun D5 hD5 => ?_⟩
    have f5 := Ex.new (o := .lst (u2 ++ v2)) hD5
    have hDD5 : (upd H7 D5 (.lst (u2 ++ v2))) D5 = some (.lst (u2 ++ v2)) := upd_same
    have hu3 : ∀ u ∈ u2 ++ v2, JI K HB (upd H7 D5 (.lst (u2 ++ v2))) u := fun u hu => (List.mem_append.mp hu).elim (fun h => (hu2 u h).mono ((e6.trans f4).trans f5)) (fun h => (hv2 u h).mono (f4.trans f5))
    have hl3 : (u2 ++ v2).length = 18 := by rw [List.length_append, hl2, hv2l]
    have e03 := ((e02.trans e6).trans f4).trans f5
    generalize upd H7 D5 (.lst (u2 ++ v2)) = H8 at *
    generalize u2 ++ v2 = u3 at *
    clear hu2 hv2 hDD3 hDD4 f4 f5 e6 e02 hD4 hD5 hl2 hv2l
    change tSeq (tAsg _ _) _ _ [some (.ref p), some (.ref l), some (.int (n : Int)), some (.str (T e.1)), some e.2, some (.ref D5)] H8
    -- four more
    refine q_asgW ?_
    refine ⟨.ref D5, rfl, (show EvYA _ [some (.ref p), some (.ref l), some (.int (n : Int)), some (.str (T e.1)), some e.2, some (.ref D5)] H8 (JI K HB) 4 from ?A4) H8 (Ex.refl _) _ fun v3 H9 e9 hv3l hv3 => ⟨by rw [hv3l]; decide, fun D6 hD6 => ?_⟩⟩
    case A4 =>
      refine eya_cons (eyo_pair e03 (xb rfl) (eyo_ev (v := .int (10 ^ (29 : Int).toNat)) (ev_op ev_c ev_c (rv_I (i := 10) (j := 29) ⟨by decide, by decide, by decide⟩)) (jy_bad fun _ => .int (by decide)))) (eya_cons (eyo_pair e03 (fun H1 e1 Q q => ?_) (yt rfl)) (eya_cons (eyo_pair e03 (xb rfl) (eyo_ev ev_c (jy_bad fun _ => .str (by decide +kernel)))) (eya_cons (eyo_pair e03 (xb rfl) (fun H1 e1 Q q => ?_)) eya_nil)))
      · exact ⟨_, rfl, by show 1 ≤ sizeLine; decide, fun a ha => q _ _ (Ex.new ha) fun G g => .inr (.inr (isk_lst (g _ _ (fresh_back (e03.trans e1) ha) upd_same) (show kitB "list" "str" = some false by decide +kernel)))⟩
      · refine ⟨by show 0 ≤ sizeLine; decide, fun a ha => ?_⟩
        refine mk_tab3 (K := K) (CB := CB) (us := []) (es := []) (.inl upd_same) .nil (EsOk.nil 24) fun x H' ex hx hT => ?_
        obtain ⟨dx, fs, te, nd, us', es', h1, _⟩ := hT
        have hx0 : HB x = none := fresh_back ((e03.trans e1).trans (Ex.new ha)) hx
        exact q _ _ ((Ex.new ha).trans ex) fun G g => .inr (.other (isk_ins X (g _ _ hx0 h1) X.ks) (isk_ins X (g _ _ hx0 h1) XK'.ki))
    have f6 := Ex.new (o := .lst v3) hD6
    have hDD6 : (upd H9 D6 (.lst v3)) D6 = some (.lst v3) := upd_same
    generalize upd H9 D6 (.lst v3) = H10 at *
    refine ⟨D5, D6, u3, v3, rfl, rfl, f6 _ _ (e9 _ _ hDD5), hDD6, by rw [hl3, hv3l]; decide, fun D7 hD7 => ?_⟩
    have f7 := Ex.new (o := .lst (u3 ++ v3)) hD7
    have hDD7 : (upd H10 D7 (.lst (u3 ++ v3))) D7 = some (.lst (u3 ++ v3)) := upd_same
    have hu4 : ∀ u ∈ u3 ++ v3, JI K HB (upd H10 D7 (.lst (u3 ++ v3))) u := fun u hu => (List.mem_append.mp hu).elim (fun h => (hu3 u h).mono ((e9.trans f6).trans f7)) (fun h => (hv3 u h).mono (f6.trans f7))
    have hl4 : (u3 ++ v3).length = 22 := by rw [List.length_append, hl3, hv3l]
    have e04 := ((e03.trans e9).trans f6).trans f7
    have hD70 : HB D7 = none := fresh_back ((e03.trans e9).trans f6) hD7
    generalize upd H10 D7 (.lst (u3 ++ v3)) = HZ at *
    generalize u3 ++ v3 = u4 at *
    have gg := Gq.grow hP e04
    have hG : Ag HB HZ (fun b => match HB b with | none => HZ b | some _ => G b) := fun a o h1 h2 => by
      dsimp only
      rw [h1]
      exact h2
    generalize (fun b => match HB b with | none => HZ b | some _ => G b) = G1 at *
    change tRet _ _ [some (.ref p), some (.ref l), some (.int (n : Int)), some (.str (T e.1)), some e.2, some (.ref D7)] HZ
    have hGD7 := hG _ _ hD70 hDD7
    refine ⟨.ref D7, rfl, ep_drw (g := g) (c := c) (G := G1) (z := 22) rfl ev_c (by decide) (by decide) HZ gg.pl _ fun HY v gY hv => ?_⟩
    obtain ⟨j, rfl, hj0, hj1⟩ := hv
    obtain ⟨jn, rfl⟩ : ∃ jn : Nat, j = (jn : Int) := ⟨j.toNat, by omega⟩
    have hjl : jn < u4.length := by omega
    refine ⟨D7, u4, (jn : Int), u4[jn], rfl, rfl, sq_of (gY.pl.ex _ _ hGD7), atI_nat (List.getElem?_eq_getElem hjl), ?_⟩
    obtain ⟨o, ho⟩ := hu4 _ (List.getElem_mem hjl) G1 hG
    exact k G1 HY _ o ((gAB.trans gg).trans gY) ho
end
end Wk

set_option Elab.async false
set_option linter.all false
set_option maxRecDepth 100000
set_option maxHeartbeats 4000000
namespace Wk
open PySem PySem.Spec PyProof.Rows L2 Evl
/-! != of lists of the same things -/
def rNeS (K : PySem.W.Frag) : R2 := fun x y H Q => ∃ a b xs, x = .ref a ∧ y = .ref b ∧ SqL K H a xs ∧ SqL K H b xs ∧ (∀ v ∈ xs, okV v = true) ∧ Q (.bl false) H
theorem same_at {A : Around} {s : Shared} {x : V} {u v : Value} (hx : okV x = true) (r1 : RelV x u) (r2 : RelV x v) : SeqAt.EqAt A s u v true := by
  cases x with
  | non => cases r1; cases r2; exact SeqAt.EqAt.same _
  | bl b => cases r1; cases r2; exact SeqAt.EqAt.same _
  | int i =>
    obtain ⟨t, rfl⟩ := r1
    obtain ⟨t', rfl⟩ := r2
    have z := SeqAt.EqAt.int_int (A := A) (s := s) i t i t'
    rw [show (i == i) = true from beq_self_eq_true i] at z
    exact z
  | str i =>
    obtain ⟨t, rfl⟩ := r1
    obtain ⟨t', rfl⟩ := r2
    have z := SeqAt.EqAt.str_str (A := A) (s := s) i t i t'
    rw [show (i == i) = true from beq_self_eq_true i] at z
    exact z
  | ref a => cases r1; cases r2; exact SeqAt.EqAt.same _
  | _ => cases hx
theorem op_neS {X : Cx} {K : PySem.W.Frag} (hK : X.K = K) (hu : X.A.units < cLine) : OpR X (compareOp .NotEq) (rNeS K) := by
  subst hK
  intro pins s σ H x y v u Q I rx ry h
  obtain ⟨a, b, xs, rfl, rfl, ha, hb, hok, q⟩ := h
  cases rx
  cases ry
  obtain ⟨its, r1, p1, _⟩ := I.list ha
  obtain ⟨its2, r2, p2, _⟩ := I.list hb
  have hl1 := r1.length
  have hl2 := r2.length
  have z := SeqAt.RcNeAt.lists (A := X.A) (s := s) (e := fun _ => true) p1.isList p2.isList (by rw [List.size_toArray, List.size_toArray]; omega) hu (fun j h1 h2 => by
    have h1' : j < its.length := by simpa using h1
    have h2' : j < its2.length := by simpa using h2
    have k1 : j < xs.length := by omega
    obtain ⟨w, hw, rw'⟩ := r1.get (List.getElem?_eq_getElem k1)
    obtain ⟨w2, hw2, rw2⟩ := r2.get (List.getElem?_eq_getElem k1)
    have g1 : its[j]? = some its.toArray[j] := by rw [List.getElem?_eq_getElem h1'] <;> simp
    have g2 : its2[j]? = some its2.toArray[j] := by rw [List.getElem?_eq_getElem h2'] <;> simp
    rw [g1] at hw
    rw [g2] at hw2
    rw [Option.some.inj hw, Option.some.inj hw2]
    exact same_at (hok _ (List.getElem_mem k1)) rw' rw2)
  have e : (!(List.range its.toArray.size).all fun _ => true) = false := by simp
  rw [e] at z
  exact z X.prog X.w X.xe _ ⟨.bl false, H, I, rfl, q⟩
theorem op_notInK {X : Cx} {K : PySem.W.Frag} (hK : X.K = K) : OpR X (compareOp .NotIn) (rIn K true) := by
  subst hK
  exact op_notIn_seq
/-! the five signs of a number below 32 -/
def b5 (k : Nat) : List Nat := [48 + k % 2, 48 + k / 2 % 2, 48 + k / 4 % 2, 48 + k / 8 % 2, 48 + k / 16 % 2]
theorem b5_inj : ∀ j < 32, ∀ k < 32, b5 j = b5 k → j = k := by decide +kernel
theorem b5_isB (k : Nat) : IsB (b5 k) := fun c hc => by
  unfold b5 at hc
  simp only [List.mem_cons, List.not_mem_nil, or_false] at hc
  rcases hc with rfl | rfl | rfl | rfl | rfl <;> omega
theorem bit_str (i : Int) (h : i = 0 ∨ i = 1) : (Str.ofString (toString i)) = T [48 + i.toNat] := by
  rcases h with rfl | rfl
  · exact t_zero
  · exact t_one
section
variable {K : PySem.W.Frag}
theorem ev_b5 {σ : L2.St} {H : Hp} {k : Nat} (hk : k < 32) (h4 : ∀ x, ((wipe σ [13]).set 13 (some x))[4]? = some (some (.int (k : Int)))) (h13 : ∀ x, ((wipe σ [13]).set 13 (some x))[13]? = some (some x)) (hw : ∀ x, wipe ((wipe σ [13]).set 13 (some x)) [13] = wipe σ [13]) :
    Ev (tM1 (fun x xs H Q => ∃ a p, ∃ ys : List Str, x = .str a ∧ xs = [.ref p] ∧ (SqL K H p (ys.map V.str) ∨ SqT K H p (ys.map V.str)) ∧ (ys.map (·.length)).sum + ys.length * a.length ≤ 16777216 ∧ Q (.str (Txt.join a ys)) H) (tC (.str ""))
      (tLc (iTup K (tTup (tCons (tC (.int 1)) (tCons (tC (.int 2)) (tCons (tC (.int 4)) (tCons (tC (.int 8)) (tCons (tC (.int 16)) tNil))))))) (gName 13) tYes
        (tCB (fun xs H Q => ∃ i : Int, xs = [.int i] ∧ i.natAbs.log2 < 1920 ∧ Q (.str (toString i)) H) (tCons (tOp (rI (fun _ j => 0 < j) fun i j => .int (i % j)) (tOp (rI CDiv fun i j => .int (i / j)) (tVar 4) (tVar 13)) (tC (.int 2))) tNil)) [13])) σ H (.str (T (b5 k))) := fun H1 e Q q => by
  refine ⟨⟨_, rfl⟩, by show 5 ≤ sizeLine; decide, fun tp htp => ?_⟩
  have e1 := Ex.new (o := .tup [V.int 1, .int 2, .int 4, .int 8, .int 16]) htp
  have htt : (upd H1 tp (.tup [V.int 1, .int 2, .int 4, .int 8, .int 16])) tp = some (.tup [V.int 1, .int 2, .int 4, .int 8, .int 16]) := upd_same
  generalize upd H1 tp (.tup [V.int 1, .int 2, .int 4, .int 8, .int 16]) = H2 at *
  have hl := el_lcT (K := K) (σ := σ) (H := H2) (a := tp) (xs := [V.int 1, .int 2, .int 4, .int 8, .int 16]) (tl := tC (.ref tp)) (j := 13) (vs := [13]) (t := tYes) (te := tCB (fun xs H Q => ∃ i : Int, xs = [.int i] ∧ i.natAbs.log2 < 1920 ∧ Q (.str (toString i)) H) (tCons (tOp (rI (fun _ j => 0 < j) fun i j => .int (i % j)) (tOp (rI CDiv fun i j => .int (i / j)) (tVar 4) (tVar 13)) (tC (.int 2))) tNil))
    (fun _ => true) (fun n => V.str (T [(b5 k).getD n 0])) ev_c (st_of htt) (by decide) hw (fun _ _ _ _ _ => et_yes) (fun n x H3 e3 hx _ => by
      have key : ∀ (d : Nat), 0 < d → d < 1000 → x = .int (d : Int) → (b5 k).getD n 0 = 48 + k / d % 2 → Ev (tCB (fun xs H Q => ∃ i : Int, xs = [.int i] ∧ i.natAbs.log2 < 1920 ∧ Q (.str (toString i)) H) (tCons (tOp (rI (fun _ j => 0 < j) fun i j => .int (i % j)) (tOp (rI CDiv fun i j => .int (i / j)) (tVar 4) (tVar 13)) (tC (.int 2))) tNil)) ((wipe σ [13]).set 13 (some x)) H3 (.str (T [(b5 k).getD n 0])) := fun d hd0 hd1 hxd hb => by
        have c1 : Ev (tOp (rI (fun _ j => 0 < j) fun i j => .int (i % j)) (tOp (rI CDiv fun i j => .int (i / j)) (tVar 4) (tVar 13)) (tC (.int 2))) ((wipe σ [13]).set 13 (some x)) H3 (.int ((k : Int) / (d : Int) % 2)) := ev_op (ev_op (ev_var (h4 x)) (by rw [hxd]; exact ev_var (h13 _)) (rv_I (C := CDiv) (i := (k : Int)) (j := (d : Int)) ⟨by omega, by omega⟩)) ev_c (rv_I (C := fun _ j => (0 : Int) < j) (by decide))
        have e2 : ((k : Int) / (d : Int) % 2) = ((k / d % 2 : Nat) : Int) := by omega
        rw [e2] at c1
        intro H4 e4 Q4 q4
        refine c1 H4 e4 _ fun H5 e5 => ⟨_, rfl, ?_, ?_⟩
        · have : (k / d % 2) = 0 ∨ (k / d % 2) = 1 := by omega
          rcases this with z | z <;> (rw [z]; decide)
        · have z := bit_str ((k / d % 2 : Nat) : Int) (by omega)
          rw [Int.toNat_natCast] at z
          rw [z, ← hb]
          exact q4 H5 e5
      match n, hx with
      | 0, hx => exact key 1 (by omega) (by omega) (Option.some.inj hx).symm (by show 48 + k % 2 = _; rw [Nat.div_one])
      | 1, hx => exact key 2 (by omega) (by omega) (Option.some.inj hx).symm rfl
      | 2, hx => exact key 4 (by omega) (by omega) (Option.some.inj hx).symm rfl
      | 3, hx => exact key 8 (by omega) (by omega) (Option.some.inj hx).symm rfl
      | 4, hx => exact key 16 (by omega) (by omega) (Option.some.inj hx).symm rfl
      | n + 5, hx => cases hx)
  refine hl H2 (Ex.refl _) (fun y H3 => ∃ a p, ∃ ys : List Str, V.str (Str.ofString "") = .str a ∧ [y] = [V.ref p] ∧ (SqL K H3 p (ys.map V.str) ∨ SqT K H3 p (ys.map V.str)) ∧ (ys.map (·.length)).sum + ys.length * a.length ≤ 16777216 ∧ Q (.str (Txt.join a ys)) H3) fun D H3 _ e3 hD => ?_
  have hDl : H3 D = some (.lst ((b5 k).map fun c => V.str (T [c]))) := hD
  refine ⟨_, D, (b5 k).map fun c => T [c], rfl, rfl, .inl (sq_of (by rw [List.map_map]; exact hDl)), ?_, ?_⟩
  · rw [sum_ones, t_empty]
    show (b5 k).length + _ * 0 ≤ _
    rw [Nat.mul_zero]
    show 5 + 0 ≤ 16777216
    decide
  · rw [t_empty, join_bits]
    exact q H3 (e1.trans e3)
end
theorem ItT.rep {K : PySem.W.Frag} {H : Hp} {us : List V} {os : List (Option Row)} (h : ItT K H us os) : ∀ n, ItT K H (List.replicate n us).flatten (List.replicate n os).flatten
  | 0 => .nil
  | n + 1 => by
    rw [List.replicate_succ, List.replicate_succ, List.flatten_cons, List.flatten_cons]
    exact h.app (h.rep n)
theorem ItT.okV {K : PySem.W.Frag} {H : Hp} : ∀ {us : List V} {os : List (Option Row)}, ItT K H us os → ∀ v ∈ us, okV v = true
  | _, _, .nil, _, h => by cases h
  | _, _, .cons h t, v, hv => (List.mem_cons.mp hv).elim (fun z => by rw [z]; exact h.okV) (t.okV v)
end Wk

set_option Elab.async false
set_option linter.all false
set_option maxRecDepth 100000
set_option maxHeartbeats 8000000
namespace Wk
open PySem PySem.Spec PyProof.Rows L2 Evl
def nxs : List V := [.str "here", .str "drop", .int 0, .int 1, .int 2, .int 3, .int 4, .int 5, .int 6, .int 7]
theorem nxs_ok : ∀ v ∈ nxs, NxV v := by
  intro v hv
  unfold nxs at hv
  simp only [List.mem_cons, List.not_mem_nil, or_false] at hv
  rcases hv with rfl | rfl | rfl | rfl | rfl | rfl | rfl | rfl | rfl | rfl
  · exact .inl rfl
  · exact .inr (.inl rfl)
  · exact .inr (.inr ⟨0, by decide, rfl⟩)
  · exact .inr (.inr ⟨1, by decide, rfl⟩)
  · exact .inr (.inr ⟨2, by decide, rfl⟩)
  · exact .inr (.inr ⟨3, by decide, rfl⟩)
  · exact .inr (.inr ⟨4, by decide, rfl⟩)
  · exact .inr (.inr ⟨5, by decide, rfl⟩)
  · exact .inr (.inr ⟨6, by decide, rfl⟩)
  · exact .inr (.inr ⟨7, by decide, rfl⟩)
theorem EsT.less {G : Hp} {x : Addr} {gs : List V} (hx : G x = some (.lst gs)) : ∀ {us : List V} {es : List Row}, EsT G us es → EsT (lessG G x) us es
  | _, _, .nil => .nil
  | _, _, .cons (b := b) h t => .cons (by unfold lessG; rw [if_neg (fun z => by rw [z, hx] at h; cases h)]; exact h) (t.less hx)
theorem ne_cells {G H : Hp} {p g c L : Addr} {us : List V} {es : List Row} (hP : Pq G H p g c) (hL : G L = some (.lst us)) (hus : EsT G us es) : c ≠ L := fun z => by
  obtain ⟨cs, gs, k, s, m, h1, h2, _⟩ := hP.at_
  rw [z, hL] at h1
  injection h1 with h1
  injection h1 with h1
  cases hus with
  | nil =>
    have := congrArg List.length h1
    rw [List.length_map] at this
    simp at this
    omega
  | cons hb t =>
    cases cs with
    | nil => simp at h2
    | cons i cs => cases h1
/-! things that are no rows -/
def EvYG (t : TA) (σ : L2.St) (H : Hp) (Y : Hp → V → Prop) (n : Nat) : Prop := ∀ H1, Ex H H1 → ∀ Q : List V → Hp → Prop, (∀ us H2, Ex H1 H2 → us.length = n → (∀ u ∈ us, Y H2 u) → Q us H2) → t σ H1 Q
def JR (K : PySem.W.Frag) (H0 H : Hp) (v : V) : Prop := ∀ G, Ag H0 H G → IsKr K G v false
theorem JR.mono {K : PySem.W.Frag} {H0 H H' : Hp} {v : V} (e : Ex H H') (h : JR K H0 H v) : JR K H0 H' v := fun G g => h G (g.mono e)
section
variable {σ : L2.St} {H : Hp} {te : TE} {t : TA} {v : V} {H0 : Hp} {n : Nat} {K : PySem.W.Frag}
theorem eyr_nil : EvYG tNil σ H (JR K H0) 0 := fun H1 e Q q => q [] H1 (Ex.refl _) rfl (fun _ h => by cases h)
theorem eyr_cons (h : EvYo te σ H (JR K H0)) (h2 : EvYG t σ H (JR K H0) n) : EvYG (tCons te t) σ H (JR K H0) (n + 1) := fun H1 e Q q =>
  h H1 e _ fun u H2 e2 hu => h2 H2 (e.trans e2) _ fun us H3 e3 hl hus => q (u :: us) H3 (e2.trans e3) (by simp [hl]) fun x hx => (List.mem_cons.mp hx).elim (fun z => by rw [z]; exact hu.mono e3) (hus x)
theorem eyr_dq {d : PyData} (hv : ∀ H1, Dq H1 v d) (hd : (isLi d || isTu d) = false) : EvYo (tC v) σ H (JR K H0) := eyo_ev ev_c fun _ G _ => by rw [← hd]; exact iskr_dq (hv G)
end
section
variable {P : Program} {w : World} {K : PySem.W.Frag} {mg : Str → Option Value} {base : Heap} {f : Addr} {fd : FuncData} {CT CB : Addr}
theorem iskr_ins {H : Hp} {a dx : Addr} {fs : List (Str × V)} (X : TX K CT) (XT : TK K CT) (h : H a = some (.ins CT dx fs)) : IsKr K H (.ref a) false := fun H' e => ⟨_, .base (.ins (e _ _ h) X.ic.cl X.ic.ha X.ic.hn X.ic.htk X.ic.hm), any2 XT.kl XT.kt⟩
/-- what _law_made tells of the given row -/
def Told (CT : Addr) (H : Hp) (vs : List V) (its : List (Option Row)) (t : Addr) : Prop := (∃ i, dueF its = some i ∧ H t = some (.tup [.str "refused", .int i, .bl true])) ∨
  (dueF its = none ∧ ∃ x es, EsT H vs es ∧ EsOk es 24 ∧ H t = some (.tup [.str "made", .ref x, .bl true]) ∧ Tb CT H x es)
theorem Told.mono {H H' : Hp} {vs : List V} {its : List (Option Row)} {t : Addr} (e : Ex H H') (h : Told CT H vs its t) : Told CT H' vs its t := by
  rcases h with ⟨i, h1, h2⟩ | ⟨h1, x, es, h2, h3, h4, h5⟩
  · exact .inl ⟨i, h1, e _ _ h2⟩
  · exact .inr ⟨h1, x, es, h2.mono e, h3, e _ _ h4, h5.mono e⟩
theorem Told.hd {G H : Hp} {p g c : Addr} {vs : List V} {its : List (Option Row)} {t : Addr} (hP : Pq G H p g c) (h : Told CT H vs its t) : Told CT (Hd2 H p g) vs its t := by
  rcases h with ⟨i, h1, h2⟩ | ⟨h1, x, es, h2, h3, h4, h5⟩
  · exact .inl ⟨i, h1, hP.tupH h2⟩
  · exact .inr ⟨h1, x, es, h2.hd hP, h3, hP.tupH h4, h5.hd hP fun e he => (h3.it e he).1⟩
/-! law -/
def spLaw (K : PySem.W.Frag) : Sp := fun vs H Q _ => ∃ (a : Addr) (ns : List Int), vs = [.ref a] ∧ SqL K H a (ns.map V.int) ∧ ns.length ≤ 63 ∧ ∀ H', Q (.bl true) H'
abbrev sLaw : Stmt := top 35
abbrev nLaw : List Str := ["_law_script", "_law_pool_here", "_law_entries_here", "_law_known", "_law_k", "_law_bits_here", "_law_row", "_law_place", "_law_given", "_law_fault_here", "_law_told", "_law_strange", "_law_item", "_law_power"]
theorem scLaw : FnScope nLaw ["_law_script"] (defScope sLaw) := ⟨rfl, rfl, rfl, by decide +kernel, rfl, by decide +kernel, by decide +kernel⟩
structure Cs (P : Program) (w : World) (K : PySem.W.Frag) (mg : Str → Option Value) (base : Heap) (CT CB : Addr) : Prop where
  pool : Cal P w K mg base "_law_pool" ["_law_script"] 1 (spPool K)
  draw : Cal P w K mg base "_law_draw" ["_law_pool_here", "_law_many"] 1 spDrw
  ent : Cal P w K mg base "_law_entries" ["_law_pool_here", "_law_many", "_law_nexts"] 3 spEnt
  odd : Cal P w K mg base "_law_odd" ["_law_pool_here", "_law_entries_here", "_law_place"] 8 (spOdd K)
  flt : Cal P w K mg base "_law_fault" ["_law_row"] 2 (spFlt K)
  made : Cal P w K mg base "_law_made" ["_law_row"] 8 (spMade K CT)
  rfd : Cal P w K mg base "_law_refused" nRfd 1 spRfd
  gr : Cal P w K mg base "_law_good_row" ["_law_pool_here", "_law_table", "_law_row", "_law_given"] 8 (spGR K CT)
  mkT : MkT3 P w K mg base CT CB
abbrev Sg (a0 p L : Addr) (o3 o4 o5 o6 o7 o8 o9 o10 o11 : Option V) : L2.St := [some (.ref a0), some (.ref p), some (.ref L), o3, o4, o5, o6, o7, o8, o9, o10, o11, none, none]
theorem ok_law (B : Bl mg) (X : TX K CT) (XT : TK K CT) (S : Cs P w K mg base CT CB) (F : FnP K "law" sLaw f fd) : FnOk P w K mg base CX0 9 f fd ["_law_script"] (spLaw K) := by
  obtain ⟨fI, fdI, mk, FI, bI⟩ := S.mkT.ex
  refine F.ok scLaw (fun vs H Q E h => ?_) (fun cdv A outer s H vs Q E hr h => ?_)
  · obtain ⟨a, ns, rfl, _⟩ := h
    rfl
  · obtain ⟨a0, ns, rfl, hS, hns, k⟩ := h
    have r7 : Room 7 _ := hr.mono (by decide)
    have hu : (A.deeper (envOfC "law" (defScope sLaw) s.heap.objs.size f cdv)).units < cLine := by have := hr.un; omega
    refine ⟨_, pss_cons (ps_set (i := 1) scLaw.nd rfl (Or.inl rfl) (pe_cal S.pool hr (by rfl) (pa_cons (pv 0) pa_nil)))
      (pss_cons (ps_set (i := 2) scLaw.nd rfl (Or.inl rfl) (pe_cal S.ent hr (by rfl) (pa_cons (pv 1) (pa_cons (pe_cal S.draw hr (by rfl) (pa_cons (pv 1) (pa_cons pe_int pa_nil))) (pa_cons (pe_lst (pa_cons pe_str (pa_cons pe_str (pa_cons pe_int (pa_cons pe_int (pa_cons pe_int (pa_cons pe_int (pa_cons pe_int (pa_cons pe_int (pa_cons pe_int (pa_cons pe_int pa_nil))))))))))) pa_nil)))))
      (pss_cut (ps_if (pt_cmpR op_eq (pe_cal S.draw hr (by rfl) (pa_cons (pv 1) (pa_cons pe_int pa_nil))) pe_int (nomark _))
          (pss_cons (ps_setLc (i := 3) (own := [("_law_item", 12)]) (g := gName 12) (tt := tYes) rfl scLaw.nd rfl rfl (sw_true rfl rfl rfl (by decide +kernel)) (pi_list (pv 2)) (blkOk_by (N := nLaw) (sc := defScope sLaw) (by decide +kernel))
            (fun _ _ _ _ _ => pg_name (i := 12) scLaw.nd rfl (Or.inl rfl)) (fun _ _ _ _ _ => pts_nil) (fun _ _ _ _ _ => pe_ix (ix_tupK (K := K) rfl) (pv 12) pe_int (fun _ _ => rfl)))
          (pss_one (ps_for (passes_of rfl) rfl (pi_range1 (by rfl) B.range (pa_cons pe_int pa_nil)) (pg_name (i := 4) scLaw.nd rfl (Or.inr rfl))
            (pss_cons (ps_set (i := 5) scLaw.nd rfl (Or.inl rfl) (pe_join pe_str (pe_lc (own := [("_law_power", 13)]) (g := gName 13) (tt := tYes) rfl scLaw.nd (pi_tup (pe_tup (pa_cons pe_int (pa_cons pe_int (pa_cons pe_int (pa_cons pe_int (pa_cons pe_int pa_nil))))))) (blkOk_by (N := nLaw) (sc := defScope sLaw) (by decide +kernel))
              (fun _ _ _ _ _ => pg_name (i := 13) scLaw.nd rfl (Or.inl rfl)) (fun _ _ _ _ _ => pts_nil) (fun _ _ _ _ _ => pe_callTy call_str_int (by rfl) B.str PyProof.Rows.boot_str (pa_cons (pe_op op_mod (pe_op op_fdiv (pv 4) (pv 13)) pe_int) pa_nil)))))
            (pss_one (ps_if (PW.pt (pw_and (pt_cmpR (op_notInK (K := K) rfl) (pv 5) (pv 3) rfl) (pw_and1 (pt_cmpR op_lt (pe_callB call_len_seq (by rfl) B.len PySem.boot_len (pa_cons (pv 2) pa_nil)) pe_int (nomark _)))))
              (pss_one (ps_expr (pe_bm PySem.F.plainAttrs_list PySem.F.slot_list_append PySem.F.type_list_append mt_append (pv 2) (pa_cons (pe_tup (pa_cons (pv 5) (pa_cons (pe_cal S.draw hr (by rfl) (pa_cons (pv 1) (pa_cons pe_int pa_nil))) pa_nil))) pa_nil)))) pss_nil)))))) pss_nil)
      (pss_cons (ps_set (i := 6) scLaw.nd rfl (Or.inl rfl) (pe_callTy (call_listK2 (K := K) rfl) (by rfl) B.list PyProof.Rows.boot_list (pa_cons (pv 2) pa_nil)))
      (pss_cut (ps_for (passes_of rfl) rfl (pi_range1 (by rfl) B.range (pa_cons (pe_cal S.draw hr (by rfl) (pa_cons (pv 1) (pa_cons pe_int pa_nil))) pa_nil)) (pg_name (i := 4) scLaw.nd rfl (Or.inr rfl))
          (pss_one (ps_if (pt_cmpR op_gt (pe_callB call_len_seq (by rfl) B.len PySem.boot_len (pa_cons (pv 2) pa_nil)) pe_int (nomark _))
            (pss_cons (ps_set (i := 7) scLaw.nd rfl (Or.inl rfl) (pe_cal S.draw hr (by rfl) (pa_cons (pv 1) (pa_cons (pe_callB call_len_seq (by rfl) B.len PySem.boot_len (pa_cons (pv 2) pa_nil)) pa_nil))))
            (pss_one (ps_asg (pe_cal S.odd hr (by rfl) (pa_cons (pv 1) (pa_cons (pv 2) (pa_cons (pv 7) pa_nil)))) (pg_sub (pv 6) (pv 7) set_list)))) pss_nil)))
      (pss_cut (ps_if (pt_cmpR op_eq (pe_cal S.draw hr (by rfl) (pa_cons (pv 1) (pa_cons pe_int pa_nil))) pe_int (nomark _))
          (pss_one (ps_set (i := 6) scLaw.nd rfl (Or.inl rfl) (pe_slice sl_list (pe_op op_cat (pe_op op_rep (pv 6) pe_int) (pe_op op_rep (pe_lst (pa_cons pe_non pa_nil)) pe_int)) po_none (po_some (pe_op op_add pe_int (pe_cal S.draw hr (by rfl) (pa_cons (pv 1) (pa_cons pe_int pa_nil)))))))) pss_nil)
      (pss_cons (ps_set (i := 8) scLaw.nd rfl (Or.inl rfl) (pe_callTy (call_listK2 (K := K) rfl) (by rfl) B.list PyProof.Rows.boot_list (pa_cons (pv 6) pa_nil)))
      (pss_cut (ps_if (pt_cmpR op_eq (pe_cal S.draw hr (by rfl) (pa_cons (pv 1) (pa_cons pe_int pa_nil))) pe_int (nomark _))
          (pss_one (ps_set (i := 8) scLaw.nd rfl (Or.inl rfl) (pe_callTy (call_tupleK (K := K) rfl) (by rfl) B.tuple PyProof.Rows.boot_tuple (pa_cons (pv 6) pa_nil)))) pss_nil)
      (pss_cons (ps_set (i := 9) scLaw.nd rfl (Or.inl rfl) (pe_cal S.flt hr (by rfl) (pa_cons (pv 6) pa_nil)))
      (pss_cut (ps_set (i := 10) scLaw.nd rfl (Or.inl rfl) (pe_cal S.made hr (by rfl) (pa_cons (pv 8) pa_nil)))
      (pss_cons (ps_if (PW.pt (pw_or (pt_cmpR op_ne (pe_callB call_len_seq (by rfl) B.len PySem.boot_len (pa_cons (pv 8) pa_nil)) (pe_callB call_len_seq (by rfl) B.len PySem.boot_len (pa_cons (pv 6) pa_nil)) (nomark _))
          (pw_or1 (pt_cmpR (op_neS (K := K) rfl hu) (pe_callTy (call_listK2 (K := K) rfl) (by rfl) B.list PyProof.Rows.boot_list (pa_cons (pv 8) pa_nil)) (pv 6) (nomark _))))) (pss_one (ps_ret pe_bl)) pss_nil)
      (pss_cons (ps_set (i := 11) scLaw.nd rfl (Or.inl rfl) (pe_lst (pa_cons pe_non (pa_cons pe_int (pa_cons pe_str (pa_cons pe_str (pa_cons pe_dnewK (pa_cons (pe_disp (pps_cons pe_str pe_int pps_nil) rfl rfl (by simp) (by decide)) (pa_cons pe_bl
          (pa_cons (pe_mkAt (W := WE WF) mk FI r7 (by rfl) S.mkT.g bI (fun σ => passAt takes0 σ) (pa_cons (pe_slice sl_list (pv 2) po_none (po_some pe_int)) pa_nil)) (pa_cons pe_str (pa_cons (pe_un un_neg pe_int) pa_nil))))))))))))
      (pss_cons (ps_if (pt_not (pt_val (pe_cal S.rfd hr (by rfl) (pa_cons (pe_cal S.made hr (by rfl) (pa_cons (pe_ix (ix_listK (K := K) rfl) (pv 11) (pe_cal S.draw hr (by rfl) (pa_cons (pv 1) (pa_cons pe_int pa_nil))) (fun _ _ => rfl)) pa_nil)) (pa_cons (pe_un un_neg pe_int) pa_nil))))) (pss_one (ps_ret pe_bl)) pss_nil)
      (pss_cons (ps_if (pt_cmp (pc_notN (pv 9))) (pss_one (ps_ret (pe_cal S.rfd hr (by rfl) (pa_cons (pv 10) (pa_cons (pv 9) pa_nil))))) pss_nil)
      (pss_one (ps_ret (pe_and (pe_cmpR op_eq (pe_ix ix_tup (pv 10) pe_int (fun _ _ => rfl)) pe_str (nomark _)) (pe_one (pe_cal S.gr hr (by rfl) (pa_cons (pv 1) (pa_cons (pe_ix ix_tup (pv 10) pe_int (fun _ _ => rfl)) (pa_cons (pv 6) (pa_cons (pv 8) pa_nil)))))))))))))))))))))), ?_⟩
    refine ⟨.ref a0, rfl, a0, ns, rfl, hS, hns, fun G H1 p g c eG hP => ?_⟩
    refine g_name ?_
    dsimp only
    change tSeq (tAsg _ _) _ _ [some (.ref a0), some (.ref p), none, none, none, none, none, none, none, none, none, none, none, none] H1
    -- the entries
    refine q_asgW ?_
    refine ⟨.ref p, rfl, ep_drw (g := g) (c := c) (G := G) (z := 25) rfl ev_c (by decide) (by decide) H1 hP _ fun H2 v g2 hv => ?_⟩
    obtain ⟨j1, rfl, hj0, hj1⟩ := hv
    obtain ⟨m1, rfl⟩ : ∃ jn : Nat, j1 = (jn : Int) := ⟨j1.toNat, by omega⟩
    refine ⟨by show 10 ≤ sizeLine; decide, fun nl hnl => ?_⟩
    have gN := Gq.new (o := .lst nxs) g2.pl hnl
    refine ⟨upd G nl (.lst nxs), p, g, c, nl, m1, nxs, rfl, gN.pl, by omega, upd_same, by decide, by decide, nxs_ok, fun G2 H4 L us es g4 hL hus hes => ?_⟩
    have hes : EsOk es 24 := hes.le (by omega)
    have hP := g4.pl
    clear gN g4 g2 hnl eG
    change tCut (tIfS _ _ _) _ _ (Sg a0 p L none none none none none none none none none) H4
    -- more of them
    refine q_cut (M := fun σ2 H2 => ∃ o3 o4 o5 us es G2, σ2 = Sg a0 p L o3 o4 o5 none none none none none none ∧ Pq G2 H2 p g c ∧ G2 L = some (.lst us) ∧ EsT G2 us es ∧ EsOk es 24) ?_ ?_
    · refine etp_eq (p := p) (g := g) (c := c) (G := G2) (z := 8) rfl ev_c (by decide) (by decide) H4 hP _ fun H5 b g5 => ?_
      have hP5 := g5.pl
      cases b with
      | false =>
        rw [if_neg (by decide)]
        exact ⟨_, _, _, us, es, G2, rfl, hP5, hL, hus, hes⟩
      | true =>
        rw [if_pos rfl]
        have eG5 := hP5.ex
        have nLp : L ≠ p := fun z => by rw [z, hP5.gp] at hL; cases hL
        have nLg : L ≠ g := fun z => by rw [z, hP5.gg] at hL; cases hL
        have ncL := ne_cells hP5 hL hus
        have hlc := el_lcL (K := K) (σ := Sg a0 p L none none none none none none none none none) (H := H5) (a := L) (xs := us) (tl := tVar 2) (j := 12) (vs := [12]) (t := tYes) (te := tOp (rIxT K) (tVar 12) (tC (.int 0))) (fun _ => true) (fun n => V.str (T (es.getD n ([], .non)).1)) (ev_var rfl) (sq_of (eG5 _ _ hL)) (by rw [hus.length]; have := hes.len; omega) (fun x => rfl) (fun _ _ _ _ _ => et_yes) (fun n x H6 e6 hx _ => by
          obtain ⟨b2, r, rfl, hr1, hr2⟩ := hus.at_ hx
          have e3 : es.getD n ([], .non) = r := by rw [List.getD_eq_getElem?_getD, hr1]; rfl
          rw [e3]
          exact ev_op (ev_var rfl) ev_c (rv_ixT (st_of ((eG5.trans e6) _ _ hr2)) rfl))
        rw [given_yesAll, hus.length, rng_rows es (fun r => V.str (T r.1))] at hlc
        refine q_asgL hlc fun kl H6 nkl e6 hkl => ?_
        have hP6 := hP5.ext e6
        have hL6 := e6 _ _ (eG5 _ _ hL)
        have nkL : kl ≠ L := fun z => by rw [z, eG5 _ _ hL] at nkl; cases nkl
        have hPh := hP6.hd.lessG ncL
        have hhL : (Hd2 H6 p g) L = some (.lst us) := by rw [hd2_at nLp nLg]; exact hL6
        have husG : EsT (lessG (Hd2 H6 p g) L) us es := ((hus.mono (eG5.trans e6)).hd hP6).less hhL
        have hklG : lessG (Hd2 H6 p g) L kl = some (.lst (es.map fun e => V.str (T e.1))) := by
          unfold lessG
          rw [if_neg nkL, hd2_at (hP5.np nkl) (hP5.ng nkl)]
          exact hkl
        have hLG : lessG (Hd2 H6 p g) L L = none := by unfold lessG; rw [if_pos rfl]
        generalize lessG (Hd2 H6 p g) L = G6 at *
        refine s_forR1 (ta := tCons (tC (.int 32)) tNil) (n := 32) (ea_cons ev_c ea_nil) (by decide) (fun i σ' H' => ∃ o4 o5 us' es' G', σ' = Sg a0 p L (some (.ref kl)) o4 o5 none none none none none none ∧ Pq G' H' p g c ∧ G' L = none ∧ H' L = some (.lst us') ∧ EsT G' us' es' ∧ EsOk es' 24 ∧ G' kl = some (.lst (es.map fun e => V.str (T e.1))) ∧ ∀ e ∈ es', e.1 ∈ es.map (fun r : Row => r.1) ∨ ∃ j, j < i ∧ e.1 = b5 j)
          (fun H7 e7 => ⟨_, _, us, es, G6, rfl, hPh.ext e7, hLG, e7 _ _ hL6, husG, hes, hklG, fun e he => .inl (List.mem_map.mpr ⟨e, he, rfl⟩)⟩) (fun i σ' H' hi hp => ?_) (fun σ' H' hp => ?_)
        · obtain ⟨o4, o5, us', es', G', rfl, hP', hL0, hLH, hus', hes', hkl', hkeys⟩ := hp
          change tSeq (tAsg _ _) _ _ (Sg a0 p L (some (.ref kl)) (some (.int (i : Int))) o5 none none none none none none) H'
          have hi32 : i < 32 := by omega
          refine q_asg (v := .str (T (b5 i))) (ev_b5 (K := K) hi32 (fun _ => rfl) (fun _ => rfl) (fun _ => rfl)) fun H8 e8 => ?_
          change tIfS _ _ _ _ (Sg a0 p L (some (.ref kl)) (some (.int (i : Int))) (some (.str (T (b5 i)))) none none none none none none) H8
          have hP8 := hP'.ext e8
          have eG8 := hP8.ex
          have hul := hus'.length
          have d1 : Ev (tOp (rIn K true) (tVar 5) (tVar 3)) (Sg a0 p L (some (.ref kl)) (some (.int (i : Int))) (some (.str (T (b5 i)))) none none none none none none) H8 (.bl (!decide (b5 i ∈ es.map (fun r : Row => r.1)))) := fun H9 e9 Q9 q9 => ⟨.str (T (b5 i)), rfl, .ref kl, rfl, kl, _, rfl, .inl (sq_of ((eG8.trans e9) _ _ hkl')), rfl, (by rw [List.all_map, List.all_eq_true]; intro x _; rfl), by
            rw [inV_keys]
            exact q9 H9 (Ex.refl _)⟩
          have d2 : Ev (tCB (rLenS K) (tCons (tVar 2) tNil)) (Sg a0 p L (some (.ref kl)) (some (.int (i : Int))) (some (.str (T (b5 i)))) none none none none none none) H8 (.int (us'.length : Int)) := ev_len (ev_var rfl) (sq_of (e8 _ _ hLH))
          refine s_when (b := (!decide (b5 i ∈ es.map (fun r : Row => r.1))) && decide ((us'.length : Int) < 24)) (et_and (et_test d1) fun _ => et_test (ev_op (r := rI0 fun i j => .bl (decide (i < j))) d2 ev_c rv_I0)) (fun hb H9 e9 => ?_) (fun hb H9 e9 => ?_)
          · rw [Bool.and_eq_true, Bool.not_eq_true'] at hb
            have hb1 := of_decide_eq_false hb.1
            have hb2 := of_decide_eq_true hb.2
            have hP9 := hP8.ext e9
            have hL9 := e9 _ _ (e8 _ _ hLH)
            refine ⟨.ref L, rfl, .inl ⟨rfl, _, sq_of hL9⟩, .str (T (b5 i)), rfl, ep_drw (g := g) (c := c) (G := G') (z := 8) rfl ev_c (by decide) (by decide) H9 hP9 _ fun H10 v g10 hv => ?_⟩
            obtain ⟨j, rfl, hj0, hj1⟩ := hv
            obtain ⟨jn, rfl⟩ : ∃ jn : Nat, j = (jn : Int) := ⟨j.toNat, by omega⟩
            have hL10 := g10.off L _ nLp nLg hL9
            refine ⟨by show 2 ≤ sizeLine; decide, fun t ht => ?_⟩
            have gT := Gq.new (o := .tup [V.str (T (b5 i)), .int (jn : Int)]) g10.pl ht
            have ntL : t ≠ L := fun z => by rw [z, hL10] at ht; cases ht
            refine ⟨L, us', .ref t, rfl, rfl, by rw [upd_ne (Ne.symm ntL)]; exact hL10, sz_lt (by omega), ?_⟩
            have hLn : (upd G' t (.tup [V.str (T (b5 i)), .int (jn : Int)])) L = none := by rw [upd_ne (Ne.symm ntL)]; exact hL0
            have hnew : b5 i ∉ es'.map (·.1) := fun hm => by
              obtain ⟨e, he, hee⟩ := List.mem_map.mp hm
              rcases hkeys e he with z | ⟨j, hj, z⟩
              · rw [hee] at z; exact hb1 z
              · have := b5_inj j (by omega) i hi32 (z.symm.trans hee)
                omega
            refine ⟨_, _, us' ++ [.ref t], es' ++ [(b5 i, .int (jn : Int))], upd G' t (.tup [V.str (T (b5 i)), .int (jn : Int)]), rfl, gT.pl.mut hLn nLp nLg, hLn, upd_same, (hus'.mono gT.ex).app (.cons (e := (b5 i, .int (jn : Int))) upd_same .nil), ⟨?_, ?_, ?_⟩, gT.ex _ _ hkl', fun e he => ?_⟩
            · rw [List.map_append]
              exact nd_snoc hes'.nd hnew
            · rw [List.length_append]
              show _ + 1 ≤ _
              omega
            · intro e he
              rcases List.mem_append.mp he with he | he
              · exact hes'.it e he
              · rw [List.mem_singleton.mp he]
                exact ⟨b5_isB i, by show 5 ≤ 10; decide, .inr (.inr ⟨jn, by omega, rfl⟩)⟩
            · rcases List.mem_append.mp he with he | he
              · exact (hkeys e he).imp id fun ⟨j, h1, h2⟩ => ⟨j, by omega, h2⟩
              · rw [List.mem_singleton.mp he]
                exact .inr ⟨i, by omega, rfl⟩
          · exact ⟨_, _, us', es', G', rfl, hP8.ext e9, hL0, e9 _ _ (e8 _ _ hLH), hus', hes', hkl', fun e he => (hkeys e he).imp id fun ⟨j, h1, h2⟩ => ⟨j, by omega, h2⟩⟩
        · obtain ⟨o4, o5, us', es', G', rfl, hP', hL0, hLH, hus', hes', hkl', hkeys⟩ := hp
          exact ⟨_, _, _, us', es', Hd2 H' p g, rfl, hP'.hd, by rw [hd2_at nLp nLg]; exact hLH, hus'.mono hP'.sub, hes'⟩
    clear hP hL hus hes
    rintro σ2 H5 ⟨o3, o4, o5, us, es, G5, rfl, hP, hL, hus, hes⟩
    have hul := hus.length
    have hel := hes.len
    -- the row
    refine ⟨.ref L, rfl, L, us, rfl, .inl (sq_of (hP.ex _ _ hL)), fun rl hrl => ?_⟩
    refine g_name ?_
    dsimp only
    change tCut (tFor _ _ _) _ _ (Sg a0 p L o3 o4 o5 (some (.ref rl)) none none none none none) (upd H5 rl (.lst us))
    have nrp := hP.np hrl
    have nrg := hP.ng hrl
    have nrc : rl ≠ c := fun z => by
      obtain ⟨cs, gs, kk, s', m', i1, _⟩ := hP.at_
      rw [z, hP.ex _ _ i1] at hrl
      cases hrl
    have hrl0 := fresh_back hP.ex hrl
    have hP6 := hP.ext (Ex.new (o := .lst us) hrl)
    have hits : ItT K G5 us (es.map some) := ItT.of_est hus hes.it
    refine q_cut (M := fun σ2 H2 => ∃ o4 o7 vs its G2, σ2 = Sg a0 p L o3 o4 o5 (some (.ref rl)) o7 none none none none ∧ Pq G2 H2 p g c ∧ G2 L = some (.lst us) ∧ EsT G2 us es ∧ G2 rl = none ∧ H2 rl = some (.lst vs) ∧ ItT K G2 vs its ∧ vs.length = us.length) ?_ ?_
    · refine ep_drw (p := p) (g := g) (c := c) (G := G5) (z := 3) rfl ev_c (by decide) (by decide) _ hP6 _ fun H7 v g7 hv => ?_
      obtain ⟨j, rfl, hj0, hj1⟩ := hv
      refine ⟨j, rfl, by omega, by omega, for_it (walk_range (lo := 0) (n := j.toNat)) (fun _ σ2 H2 => ∃ o4 o7 vs its G2, σ2 = Sg a0 p L o3 o4 o5 (some (.ref rl)) o7 none none none none ∧ Pq G2 H2 p g c ∧ G2 L = some (.lst us) ∧ EsT G2 us es ∧ G2 rl = none ∧ H2 rl = some (.lst vs) ∧ ItT K G2 vs its ∧ vs.length = us.length) ⟨_, _, us, _, G5, rfl, g7.pl, hL, hus, hrl0, g7.off rl _ nrp nrg upd_same, hits, rfl⟩ (fun _ _ _ _ _ => trivial) (fun i x σ' H8 H9 hi hp y => ?_) (fun σ' H' hp => hp)⟩
      obtain ⟨o4', o7, vs, its, G', rfl, hP', hL', hus', hr0, hrv, hits', hvl⟩ := hp
      obtain ⟨rfl, rfl⟩ := y
      refine g_name ?_
      change tIfS _ _ _ _ (Sg a0 p L o3 (some (.int (0 + (i : Int)))) o5 (some (.ref rl)) o7 none none none none) _
      refine s_when (b := decide ((0 : Int) < (us.length : Int))) (et_test (ev_op (r := rI0 fun i j => .bl (decide (j < i))) (ev_len (K := K) (ev_var rfl) (sq_of (hP'.ex _ _ hL'))) ev_c rv_I0)) (fun hb H10 e10 => ?_) (fun hb H10 e10 => ⟨_, _, vs, its, G', rfl, hP'.ext e10, hL', hus', hr0, e10 _ _ hrv, hits', hvl⟩)
      have hpos := of_decide_eq_true hb
      have hP10 := hP'.ext e10
      refine ep_drw (p := p) (g := g) (c := c) (G := G') (z := (us.length : Int)) rfl (ev_len (K := K) (ev_var rfl) (sq_of hL')) hpos (by omega) H10 hP10 _ fun H11 v g11 hv => ?_
      obtain ⟨j2, rfl, hk0, hk1⟩ := hv
      obtain ⟨n, rfl⟩ : ∃ jn : Nat, j2 = (jn : Int) := ⟨j2.toNat, by omega⟩
      refine g_name ?_
      dsimp only
      change tAsg _ _ _ (Sg a0 p L o3 (some (.int (0 + (i : Int)))) o5 (some (.ref rl)) (some (.int (n : Int))) none none none none) H11
      refine ⟨.ref p, rfl, .ref L, rfl, .int (n : Int), rfl, G', p, g, c, L, us, es, 24, n, rfl, g11.pl, hL', hus', hes, by decide, by omega, fun G12 H12 v o g12 ho => ?_⟩
      have hr11 := g11.off rl _ nrp nrg (e10 _ _ hrv)
      have hr12 := g12.off rl _ nrp nrg hr11
      have hr120 := g12.nw rl hr0 (by rw [hr11]; simp)
      refine ⟨.ref rl, rfl, .int (n : Int), rfl, rl, vs, (n : Int), n, rfl, rfl, hr12, ixN_nat (by omega), ?_⟩
      exact ⟨_, _, vs.set n v, its.set n o, G12, rfl, g12.pl.mut hr120 nrp nrg, g12.ex _ _ hL', hus'.mono g12.ex, hr120, upd_same, (hits'.mono g12.ex).set ho n, by rw [List.length_set]; exact hvl⟩
    clear hP hL hus hP6 hits hrl hrl0
    rintro σ2 H7 ⟨o4', o7, vs, its, G7, rfl, hP, hL, hus, hr0, hrv, hits, hvl⟩
    -- perhaps many
    refine q_cut (M := fun σ2 H2 => ∃ rl vs its, σ2 = Sg a0 p L o3 o4' o5 (some (.ref rl)) o7 none none none none ∧ rl ≠ p ∧ rl ≠ g ∧ Pq G7 H2 p g c ∧ G7 rl = none ∧ H2 rl = some (.lst vs) ∧ ItT K G7 vs its ∧ vs.length ≤ 40) ?_ ?_
    · refine etp_eq (p := p) (g := g) (c := c) (G := G7) (z := 8) rfl ev_c (by decide) (by decide) H7 hP _ fun H8 b g8 => ?_
      have hP8 := g8.pl
      have hr8 := g8.off rl _ nrp nrg hrv
      cases b with
      | false =>
        rw [if_neg (by decide)]
        exact ⟨rl, vs, its, rfl, nrp, nrg, hP8, hr0, hr8, hits, by omega⟩
      | true =>
        rw [if_pos rfl]
        refine ⟨.ref rl, rfl, rl, 40, vs, rfl, rfl, hr8, by decide, by decide, sz_of (by show vs.length * 40 ≤ 100000; omega), fun q1 hq1 => ?_⟩
        have f1 := Ex.new (o := .lst (List.replicate (40 : Int).toNat vs).flatten) hq1
        have hq1' : (upd H8 q1 (.lst (List.replicate (40 : Int).toNat vs).flatten)) q1 = some (.lst (List.replicate (40 : Int).toNat vs).flatten) := upd_same
        generalize upd H8 q1 (.lst (List.replicate (40 : Int).toNat vs).flatten) = K1 at *
        refine ⟨by show 1 ≤ sizeLine; decide, fun q2 hq2 => ?_⟩
        have f2 := Ex.new (o := .lst [V.non]) hq2
        have hq2' : (upd K1 q2 (.lst [V.non])) q2 = some (.lst [V.non]) := upd_same
        generalize upd K1 q2 (.lst [V.non]) = K2 at *
        refine ⟨q2, 40, [V.non], rfl, rfl, hq2', by decide, by decide, by show 1 * 40 ≤ sizeLine; decide, fun q3 hq3 => ?_⟩
        have f3 := Ex.new (o := .lst (List.replicate (40 : Int).toNat [V.non]).flatten) hq3
        have hq3' : (upd K2 q3 (.lst (List.replicate (40 : Int).toNat [V.non]).flatten)) q3 = some (.lst (List.replicate (40 : Int).toNat [V.non]).flatten) := upd_same
        generalize upd K2 q3 (.lst (List.replicate (40 : Int).toNat [V.non]).flatten) = K3 at *
        have hl1 : (List.replicate (40 : Int).toNat vs).flatten.length = 40 * vs.length := by rw [List.length_flatten, List.map_replicate, List.sum_replicate_nat]; rfl
        have hl2 : (List.replicate (40 : Int).toNat [V.non]).flatten.length = 40 := by decide
        refine ⟨q1, q3, _, _, rfl, rfl, f3 _ _ (f2 _ _ hq1'), hq3', by rw [hl1, hl2]; exact sz_of (by omega), fun q4 hq4 => ?_⟩
        have f4 := Ex.new (o := .lst ((List.replicate (40 : Int).toNat vs).flatten ++ (List.replicate (40 : Int).toNat [V.non]).flatten)) hq4
        have hq4' : (upd K3 q4 (.lst ((List.replicate (40 : Int).toNat vs).flatten ++ (List.replicate (40 : Int).toNat [V.non]).flatten))) q4 = some (.lst ((List.replicate (40 : Int).toNat vs).flatten ++ (List.replicate (40 : Int).toNat [V.non]).flatten)) := upd_same
        have hlx : ((List.replicate (40 : Int).toNat vs).flatten ++ (List.replicate (40 : Int).toNat [V.non]).flatten).length = 40 * vs.length + 40 := by rw [List.length_append, hl1, hl2]
        have hitx : ItT K G7 ((List.replicate (40 : Int).toNat vs).flatten ++ (List.replicate (40 : Int).toNat [V.non]).flatten) ((List.replicate (40 : Int).toNat its).flatten ++ (List.replicate (40 : Int).toNat [none]).flatten) := (hits.rep _).app (ItT.rep (.cons (show ItO K G7 .non none from .no rfl (isk_dq .non (show kitB "NoneType" "tuple" = some false by decide +kernel))) .nil) _)
        have hPK := hP8.ext (((f1.trans f2).trans f3).trans f4)
        have n4p := (hP8.ext ((f1.trans f2).trans f3)).np hq4
        have n4g := (hP8.ext ((f1.trans f2).trans f3)).ng hq4
        generalize upd K3 q4 (.lst ((List.replicate (40 : Int).toNat vs).flatten ++ (List.replicate (40 : Int).toNat [V.non]).flatten)) = K4 at *
        generalize (List.replicate (40 : Int).toNat vs).flatten ++ (List.replicate (40 : Int).toNat [V.non]).flatten = xs at *
        generalize (List.replicate (40 : Int).toNat its).flatten ++ (List.replicate (40 : Int).toNat [none]).flatten = ixs at *
        refine ep_drw (p := p) (g := g) (c := c) (G := G7) (z := 16) rfl ev_c (by decide) (by decide) K4 hPK _ fun K5 v g9 hv => ?_
        obtain ⟨j, rfl, hj0, hj1⟩ := hv
        obtain ⟨jn, rfl⟩ : ∃ jn : Nat, j = (jn : Int) := ⟨j.toNat, by omega⟩
        have h5 := g9.off q4 _ n4p n4g hq4'
        refine ⟨25, (jn : Int), rfl, rfl, 25 + (jn : Int), rfl, q4, xs, rfl, sq_of h5, fun q5 hq5 => ?_⟩
        have hcut : cutV xs none (some (25 + (jn : Int))) = xs.take (25 + jn) := by
          rw [show (25 + (jn : Int)) = ((25 + jn : Nat) : Int) by omega]
          exact cut_to _ _ (by omega)
        rw [hcut]
        refine g_name ?_
        exact ⟨q5, xs.take (25 + jn), ixs.take (25 + jn), rfl, g9.pl.np hq5, g9.pl.ng hq5, g9.pl.ext (Ex.new hq5), fresh_back g9.pl.ex hq5, upd_same, hitx.take _, by rw [List.length_take]; omega⟩
    clear hP hr0 hrv hits hvl nrp nrg nrc
    rintro σ2 H8 ⟨rl, vs, its, rfl, nrp, nrg, hP, hr0, hrv, hits, hvl⟩
    -- what is given
    refine ⟨.ref rl, rfl, rl, vs, rfl, .inl (sq_of hrv), fun gl hgl => ?_⟩
    refine g_name ?_
    dsimp only
    change tCut (tIfS _ _ _) _ _ (Sg a0 p L o3 o4' o5 (some (.ref rl)) o7 (some (.ref gl)) none none none) (upd H8 gl (.lst vs))
    have ngp := hP.np hgl
    have ngg := hP.ng hgl
    have ngc : gl ≠ c := fun z => by
      obtain ⟨cs, gs, kk, s', m', i1, _⟩ := hP.at_
      rw [z, hP.ex _ _ i1] at hgl
      cases hgl
    have ngr : gl ≠ rl := fun z => by rw [z, hrv] at hgl; cases hgl
    have hP9 := hP.ext (Ex.new (o := .lst vs) hgl)
    have hrv9 : (upd H8 gl (.lst vs)) rl = some (.lst vs) := by rw [upd_ne (Ne.symm ngr)]; exact hrv
    have hgv9 : (upd H8 gl (.lst vs)) gl = some (.lst vs) := upd_same
    generalize upd H8 gl (.lst vs) = H9 at *
    refine q_cut (M := fun σ2 H2 => ∃ gl, σ2 = Sg a0 p L o3 o4' o5 (some (.ref rl)) o7 (some (.ref gl)) none none none ∧ Pq G7 H2 p g c ∧ H2 rl = some (.lst vs) ∧ ((H2 gl = some (.lst vs) ∧ gl ≠ rl ∧ gl ≠ c ∧ gl ≠ g ∧ gl ≠ p) ∨ H2 gl = some (.tup vs))) ?_ ?_
    · refine etp_eq (p := p) (g := g) (c := c) (G := G7) (z := 2) rfl ev_c (by decide) (by decide) H9 hP9 _ fun H10 b g10 => ?_
      have hr10 := g10.off rl _ nrp nrg hrv9
      cases b with
      | false =>
        rw [if_neg (by decide)]
        exact ⟨gl, rfl, g10.pl, hr10, .inl ⟨g10.off gl _ ngp ngg hgv9, ngr, ngc, ngg, ngp⟩⟩
      | true =>
        rw [if_pos rfl]
        refine ⟨.ref rl, rfl, rl, vs, rfl, .inl ⟨sq_of hr10, fun t ht => ?_⟩⟩
        refine g_name ?_
        exact ⟨t, rfl, g10.pl.ext (Ex.new ht), (Ex.new ht) _ _ hr10, .inr upd_same⟩
    clear hP hP9 hrv9 hgv9 hrv hgl ngp ngg ngc ngr
    rintro σ2 H10 ⟨gl, rfl, hP, hrv, hgv⟩
    have hrowG : RowA H10 gl vs := hgv.imp (fun z => z.1) id
    have hitsH := hits.mono hP.ex
    -- the fault, what is told
    refine ⟨.ref rl, rfl, rl, vs, its, rfl, hrv, hitsH, by omega, fun H11 e11 => ?_⟩
    refine g_name ?_
    dsimp only
    change tCut (tAsg _ _) _ _ (Sg a0 p L o3 o4' o5 (some (.ref rl)) o7 (some (.ref gl)) (some (intO (dueF its))) none none) H11
    refine q_cut (M := fun σ2 H2 => ∃ t, σ2 = Sg a0 p L o3 o4' o5 (some (.ref rl)) o7 (some (.ref gl)) (some (intO (dueF its))) (some (.ref t)) none ∧ Ex H11 H2 ∧ Told CT H2 vs its t) ?_ ?_
    · refine ⟨.ref gl, rfl, .ref gl, dueF its, rfl, .inl ⟨gl, vs, its, rfl, hrowG.mono e11, hitsH.mono e11, by omega, rfl⟩, fun i hi H12 t e12 ht => ?_, fun hn l' us' es' hv hrow' hus' hes' H12 t x e12 hx ht hT => ?_⟩
      · refine g_name ?_
        exact ⟨t, rfl, e12, .inl ⟨i, hi, ht⟩⟩
      · refine g_name ?_
        have hll : gl = l' := by injection hv
        subst hll
        have huu : vs = us' := by
          have r1 := hrowG.mono e11
          rcases hrow' with a1 | a1 <;> rcases r1 with a2 | a2 <;> (rw [a1] at a2; cases a2) <;> rfl
        subst huu
        exact ⟨t, rfl, e12, .inr ⟨hn, x, es', hus'.mono e12, hes', ht, hT⟩⟩
    rintro σ2 H12 ⟨t, rfl, e12, hTold⟩
    have e1012 := e11.trans e12
    have hP12 := hP.ext e1012
    have hrv12 := e1012 _ _ hrv
    have hgv12 : (H12 gl = some (.lst vs) ∧ gl ≠ rl ∧ gl ≠ c ∧ gl ≠ g ∧ gl ≠ p) ∨ H12 gl = some (.tup vs) := hgv.imp (fun ⟨a, b⟩ => ⟨e1012 _ _ a, b⟩) fun a => e1012 _ _ a
    have hrow12 := hrowG.mono e1012
    have hok := hits.okV
    have lenG : Ev (tCB (rLenS K) (tCons (tVar 8) tNil)) (Sg a0 p L o3 o4' o5 (some (.ref rl)) o7 (some (.ref gl)) (some (intO (dueF its))) (some (.ref t)) none) H12 (.int (vs.length : Int)) := by
      rcases hrow12 with z | z
      · exact ev_len (ev_var rfl) (sq_of z)
      · exact ev_lenT (ev_var rfl) (st_of z)
    have c2 : Ev (tOp (rNeS K) (tCB (fun xs H Q => ∃ p ys, xs = [.ref p] ∧ (SqL K H p ys ∨ SqT K H p ys) ∧ ∀ l, H l = none → Q (.ref l) (upd H l (.lst ys))) (tCons (tVar 8) tNil)) (tVar 6)) (Sg a0 p L o3 o4' o5 (some (.ref rl)) o7 (some (.ref gl)) (some (intO (dueF its))) (some (.ref t)) none) H12 (.bl false) := fun H13 e13 Q13 q13 =>
      ⟨.ref gl, rfl, gl, vs, rfl, (hrow12.mono e13).imp sq_of st_of, fun a ha => ⟨.ref rl, rfl, a, rl, vs, rfl, rfl, sq_of upd_same, sq_of ((Ex.new ha) _ _ (e13 _ _ hrv12)), hok, q13 _ (Ex.new ha)⟩⟩
    refine q_when (b := (!decide (V.int (vs.length : Int) = V.int (vs.length : Int))) || false) (et_or (et_test (ev_op (r := rNe) lenG (ev_len (K := K) (ev_var rfl) (sq_of hrv12)) (rv_ne rfl))) fun _ => et_test c2) (fun hz => by rw [decide_eq_true rfl] at hz; cases hz) fun _ H13 e13 => ?_
    -- all stays now
    have hP13 := hP12.ext e13
    have eGf := hP13.sub
    have hPf := hP13.hd
    have hLf := eGf _ _ hL
    have husf := hus.mono eGf
    have hrvf : (Hd2 H13 p g) rl = some (.lst vs) := by rw [hd2_at nrp nrg]; exact e13 _ _ hrv12
    have hgvf : ((Hd2 H13 p g) gl = some (.lst vs) ∧ gl ≠ rl ∧ gl ≠ c ∧ gl ≠ g ∧ gl ≠ p) ∨ (Hd2 H13 p g) gl = some (.tup vs) := by
      rcases hgv12 with ⟨z1, z2, z3, z4, z5⟩ | z
      · exact .inl ⟨by rw [hd2_at z5 z4]; exact e13 _ _ z1, z2, z3, z4, z5⟩
      · exact .inr (hP13.tupH (e13 _ _ z))
    have hToldf := (hTold.mono e13).hd hP13
    generalize Hd2 H13 p g = Gf at *
    clear hP hP12 hP13 hrv12 hgv12 hrow12 lenG c2 eGf hTold hgv hrowG hitsH hrv hL hus hr0 hits
    -- what is no row
    refine q_asgW ?_
    refine (show EvYG _ (Sg a0 p L o3 o4' o5 (some (.ref rl)) o7 (some (.ref gl)) (some (intO (dueF its))) (some (.ref t)) none) H13 (JR K H13) 10 from ?A) H13 (Ex.refl _) _ fun ss H14 e14 hsl hss => ⟨by rw [hsl]; decide, fun D hD => ?_⟩
    case A =>
      refine eyr_cons (eyr_dq (d := .none) (fun _ => .non) rfl) (eyr_cons (eyr_dq (d := .int 24) (fun _ => .int 24) rfl) (eyr_cons (eyr_dq (d := .str "") (fun _ => .str _) rfl) (eyr_cons (eyr_dq (d := .str "01") (fun _ => .str _) rfl) (eyr_cons (fun HA eA QA qA D hD => ?_) (eyr_cons (fun HA eA QA qA D hD => ?_) (eyr_cons (eyr_dq (d := .bool true) (fun _ => .bl true) rfl)
        (eyr_cons (fun HA eA QA qA => ?_) (eyr_cons (eyr_dq (d := .str "here") (fun _ => .str _) rfl) (eyr_cons (eyo_ev (v := .int (-1)) (ev_un ev_c ru_neg) fun _ G _ => iskr_dq (d := .int (-1)) (.int (-1))) eyr_nil)))))))))
      · exact qA _ _ (Ex.new hD) fun G gA => iskr_dK (gA _ _ (fresh_back eA hD) upd_same)
      · refine ⟨upd_same, [(.inr "", .int 1)], rfl, by show 1 ≤ 15; decide, ?_⟩
        rw [upd_upd]
        exact qA _ _ (Ex.new hD) fun G gA => iskr_dK (gA _ _ (fresh_back eA hD) upd_same)
      · have z := el_sl (K := K) (te := tVar 2) (σ := Sg a0 p L o3 o4' o5 (some (.ref rl)) o7 (some (.ref gl)) (some (intO (dueF its))) (some (.ref t)) none) (H := HA) (ev_var rfl) eo_none (eo_some (te := tC (.int 1)) (i := ((1 : Nat) : Int)) ev_c) (sq_of ((hPf.ex.trans eA) _ _ hLf))
        have hcut : ∃ ws ws', cutV us none (some ((1 : Nat) : Int)) = ws ∧ EsT Gf ws ws' ∧ EsOk ws' 24 := by
          by_cases h0 : us.length = 0
          · have hu0 : us = [] := List.length_eq_zero_iff.mp h0
            subst hu0
            exact ⟨[], [], rfl, .nil, EsOk.nil 24⟩
          · refine ⟨us.take 1, es.take 1, cut_to _ _ (by omega), husf.takeT 1, ⟨List.Sublist.nodup ((List.take_sublist 1 es).map _) hes.nd, by rw [List.length_take]; omega, fun e he => hes.it e (List.mem_of_mem_take he)⟩⟩
        obtain ⟨ws, ws', hws, hwt, hwo⟩ := hcut
        rw [hws] at z
        refine z HA (Ex.refl _) _ fun sl HB _ eB hsl => ?_
        refine mk_tab3 (K := K) (CB := CB) (us := ws) (es := ws') (.inl hsl) ((hwt.mono hPf.ex).mono (eA.trans eB)) hwo fun x HC eC hx hT => ?_
        obtain ⟨dx, fs, te, nd, us', es', h1, _⟩ := hT
        have hx0 : H13 x = none := fresh_back (eA.trans eB) hx
        exact qA _ _ (eB.trans eC) fun G gA => iskr_ins X XT (gA _ _ hx0 h1)
    have f1 := Ex.new (o := .lst ss) hD
    have hDD : (upd H14 D (.lst ss)) D = some (.lst ss) := upd_same
    have hss1 : ∀ u ∈ ss, JR K H13 (upd H14 D (.lst ss)) u := fun u hu => (hss u hu).mono f1
    have hD0 : H13 D = none := fresh_back e14 hD
    have e1315 := e14.trans f1
    change tSeq (tIfS _ _ _) _ _ (Sg a0 p L o3 o4' o5 (some (.ref rl)) o7 (some (.ref gl)) (some (intO (dueF its))) (some (.ref t)) (some (.ref D))) (upd H14 D (.lst ss))
    generalize upd H14 D (.lst ss) = H15 at *
    have gg := Gq.grow hPf e1315
    have hAg : Ag H13 H15 (fun b => match H13 b with | none => H15 b | some _ => Gf b) := fun a o h1 h2 => by
      dsimp only
      rw [h1]
      exact h2
    generalize (fun b => match H13 b with | none => H15 b | some _ => Gf b) = G1 at *
    have hGD := hAg _ _ hD0 hDD
    have hLf := gg.ex _ _ hLf
    have hrvf := gg.ex _ _ hrvf
    have hToldf := hToldf.mono gg.ex
    have hgvf : (G1 gl = some (.lst vs) ∧ gl ≠ rl ∧ gl ≠ c ∧ gl ≠ g ∧ gl ≠ p) ∨ G1 gl = some (.tup vs) := hgvf.imp (fun ⟨a, b⟩ => ⟨gg.ex _ _ a, b⟩) fun a => gg.ex _ _ a
    refine ⟨.ref D, rfl, ep_drw (g := g) (c := c) (G := G1) (z := 10) rfl ev_c (by decide) (by decide) H15 gg.pl _ fun H16 v g16 hv => ?_⟩
    obtain ⟨j, rfl, hj0, hj1⟩ := hv
    obtain ⟨jn, rfl⟩ : ∃ jn : Nat, j = (jn : Int) := ⟨j.toNat, by omega⟩
    have hjl : jn < ss.length := by omega
    have hP16 := g16.pl
    have eG := hP16.ex
    refine ⟨D, ss, (jn : Int), ss[jn], rfl, rfl, sq_of (eG _ _ hGD), atI_nat (List.getElem?_eq_getElem hjl), ?_⟩
    have hnr := (hss1 _ (List.getElem_mem hjl)) G1 hAg
    refine ⟨ss[jn], some (-1), rfl, .inr ⟨hnr.mono eG, rfl⟩, fun i hi H17 t2 e17 ht2 => ?_, fun hn => by cases hn⟩
    obtain rfl : (-1 : Int) = i := Option.some.inj hi
    refine ⟨1, rfl, t2, -1, rfl, ht2, fun H18 e18 => ?_⟩
    refine ⟨true, rfl, ?_⟩
    dsimp only
    rw [if_neg (by decide)]
    show tSeq (tIfS (tB (tNotN (tVar 9))) (tRet (tCall spRfd [] E0 (tCons (tVar 10) (tCons (tVar 9) tNil)))) tNext) _ _ (Sg a0 p L o3 o4' o5 (some (.ref rl)) o7 (some (.ref gl)) (some (intO (dueF its))) (some (.ref t)) (some (.ref D))) H18
    have e1618 := e17.trans e18
    have hP18 := hP16.ext e1618
    have eG18 := hP18.ex
    have hTold := hToldf.mono eG18
    rcases hTold with ⟨i, hdue, htt⟩ | ⟨hdue, x, es', hes1, hes2, htt, hT⟩
    · rw [hdue]
      refine q_when (b := true) (fun HZ eZ QZ qZ => ⟨.int i, rfl, true, rfl, qZ HZ (Ex.refl _)⟩) (fun _ H19 e19 => ?_) (fun z => by cases z)
      exact ⟨.ref t, rfl, .int i, rfl, t, i, rfl, e19 _ _ htt, fun H20 e20 => k H20⟩
    · rw [hdue]
      refine q_when (b := false) (fun HZ eZ QZ qZ => ⟨.non, rfl, false, rfl, qZ HZ (Ex.refl _)⟩) (fun z => by cases z) fun _ H19 e19 => ?_
      have i0 : Ev (tOp rEq (tOp (rIxT K) (tVar 10) (tC (.int 0))) (tC (.str "made"))) (Sg a0 p L o3 o4' o5 (some (.ref rl)) o7 (some (.ref gl)) (some (intO none)) (some (.ref t)) (some (.ref D))) H19 (.bl (decide (V.str "made" = V.str "made"))) := ev_op (r := rEq) (ev_op (ev_var rfl) ev_c (rv_ixT (st_of (e19 _ _ htt)) (atI_nat (j := 0) rfl))) ev_c (rv_eq rfl)
      rw [decide_eq_true rfl] at i0
      refine i0 H19 (Ex.refl _) _ fun H20 e20 => ⟨true, rfl, ?_⟩
      have e1820 := e19.trans e20
      rw [if_pos rfl]
      have i1 : Ev (tOp (rIxT K) (tVar 10) (tC (.int 1))) (Sg a0 p L o3 o4' o5 (some (.ref rl)) o7 (some (.ref gl)) (some (intO none)) (some (.ref t)) (some (.ref D))) H20 (.ref x) := ev_op (ev_var rfl) ev_c (rv_ixT (st_of (e1820 _ _ htt)) (atI_nat (j := 1) rfl))
      refine ⟨.ref p, rfl, i1 H20 (Ex.refl _) _ fun H21 e21 => ⟨.ref rl, rfl, .ref gl, rfl, ?_⟩⟩
      have e1821 := e1820.trans e21
      refine ⟨G1, p, g, c, x, rl, gl, vs, es', rfl, hP18.ext e1821, hT.mono e1821, e1821 _ _ (eG18 _ _ hrvf), hes1.mono e1821, hes2, ?_, nrg, fun H22 => k H22⟩
      rcases hgvf with ⟨z1, z2, z3, z4, _⟩ | z
      · exact .inl ⟨vs, e1821 _ _ (eG18 _ _ z1), by omega, z2, z3, z4⟩
      · exact .inr ⟨vs, e1821 _ _ (eG18 _ _ z)⟩
end
end Wk

set_option Elab.async false
set_option linter.all false
set_option maxRecDepth 100000
set_option maxHeartbeats 4000000
namespace Wk
open PySem PySem.Spec PyProof.Rows L2 Evl
/-! the head's facts with more of them -/
abbrev AlX : Type := He.AlD × Bool
def obsX (n : Nat) (fa : List He.Fa) (fn : List He.DefD) (eb : PySem.W.Frag → Bool) (g : Addr → Option Obj) : AlX := (He.obsDG n fa fn g, eb (He.frG g (He.asD g n)))
def hookX (n : Nat) (fa : List He.Fa) (fn : List He.DefD) (eb : PySem.W.Frag → Bool) : PySem.W.Hook where
  α := AlX
  obs := fun s => obsX n fa fn eb s.heap.get?
  val := fun _ => (He.valD fn, true)
  says := fun _ h => ∃ K : PySem.W.Frag, K.In h ∧ He.SaysD fa fn K ∧ eb K = true
  of := fun _ _ e => ⟨_, He.frG_in, congrArg Prod.fst e, congrArg Prod.snd e⟩
  keeps := fun _ _ _ ⟨K, hK, c⟩ k => ⟨K, PySem.W.Frag.In.keeps hK k, c⟩
theorem obsX_eq {n : Nat} {fa : List He.Fa} {fn : List He.DefD} {eb : PySem.W.Frag → Bool} {g : Addr → Option Obj} {s : Shared} (h : ∀ a, g a = s.heap.get? a) : obsX n fa fn eb g = (hookX n fa fn eb).obs s := by
  have e : g = s.heap.get? := funext h
  rw [e]
  rfl
theorem calOf {P : Program} {w : World} {K : PySem.W.Frag} {mg : Str → Option Value} {base : Heap} {x q : Str} {params : Arguments} {body : List Stmt} {scope : Scope} {f : Addr} {fd : FuncData} {ps : List Str} {k : Nat} {sp : Sp} (F : FunD K x q params body scope [] [] f fd) (o : FnOk P w K mg base CX0 k f fd ps sp) (g : mg x = some (.ref f)) (b : Binds K fd ps []) : Cal P w K mg base x ps k sp := ⟨⟨f, fd, o, g, F.kp, b⟩⟩
def dG (x : Str) (i : Nat) : He.DefD := ⟨(x, none), x, x, defArgs (top i), defBody (top i), defScope (top i), [], []⟩
def dM (c m q : Str) (i j : Nat) : He.DefD := ⟨(c, some m), m, q, defArgs (inClass (top i) j), defBody (inClass (top i) j), defScope (inClass (top i) j), [], []⟩
end Wk

set_option Elab.async false
set_option linter.all false
set_option maxRecDepth 100000
set_option maxHeartbeats 2000000
namespace Wk
open PySem PySem.Spec PyProof.Rows L2 Evl
/-! more facts: a thing of an own class, an error without arguments -/
def excB (K : PySem.W.Frag) (C : Addr) : Bool := He.eqO (PySem.W.findIn K (.ref C) "__getattribute__") (some (some (.builtin "BaseException.__getattribute__"))) && (He.eqO (PySem.W.findIn K (.ref C) "__getattr__") (some none) && (decide (PySem.W.subIn K (.ref C) (.type "BaseException") = some true) && (PySem.W.hasDictIn K C &&
  (He.eqO (PySem.W.findIn K (.ref C) "__class__") (some (some (.builtin "object.__class__"))) && (He.eqO (PySem.W.specialIn K (.builtin "object.__class__") "__get__") (some (some (.builtin "getset_descriptor.__get__"))) && (decide (PySem.W.takesIn K (.builtin "object.__class__") = some true) && decide (PySem.W.mroIn K C (.type "object") = some true)))))))
theorem excB_ok {K : PySem.W.Frag} {C : Addr} (h : excB K C = true) : ExcC K C := by
  obtain ⟨h1, h⟩ := He.ba h
  obtain ⟨h2, h⟩ := He.ba h
  obtain ⟨h3, h⟩ := He.ba h
  obtain ⟨h4, h⟩ := He.ba h
  obtain ⟨h5, h⟩ := He.ba h
  obtain ⟨h6, h⟩ := He.ba h
  obtain ⟨h7, h8⟩ := He.ba h
  exact ⟨He.eqO_ok h1, He.eqO_ok h2, of_decide_eq_true h3, h4, He.eqO_ok h5, He.eqO_ok h6, of_decide_eq_true h7, of_decide_eq_true h8⟩
def ektB (K : PySem.W.Frag) (C CW CO : Addr) : Bool := excB K C && (decide (PySem.W.kitOne K (.ref C) (.ref CW) = some true) && (decide (PySem.W.kitOne K (.ref C) (.type "ValueError") = some true) && decide (PySem.W.kitOne K (.ref C) (.ref CO) = some false)))
theorem ektB_ok {K : PySem.W.Frag} {C CW CO : Addr} (h : ektB K C CW CO = true) : EKt K C CW CO := by
  obtain ⟨h1, h⟩ := He.ba h
  obtain ⟨h2, h⟩ := He.ba h
  obtain ⟨h3, h4⟩ := He.ba h
  exact ⟨excB_ok h1, of_decide_eq_true h2, of_decide_eq_true h3, of_decide_eq_true h4⟩
def insB (K : PySem.W.Frag) (C : Addr) : Bool := He.eqO (PySem.W.findIn K (.ref C) "__class__") (some (some (.builtin "object.__class__"))) && (He.eqO (PySem.W.specialIn K (.builtin "object.__class__") "__get__") (some (some (.builtin "getset_descriptor.__get__"))) && (decide (PySem.W.takesIn K (.builtin "object.__class__") = some true) &&
  (decide (PySem.W.mroIn K C (.type "object") = some true) && (decide (PySem.W.kitOne K (.ref C) (.ref C) = some true) && decide (PySem.W.kitOne K (.ref C) (.type "str") = some false)))))
theorem insB_ok {K : PySem.W.Frag} {C : Addr} (h : insB K C = true) (cl : Cls K C) (nE : NoAttr K C "entries") (nN : NoAttr K C "_nexts") : TX K C := by
  obtain ⟨h1, h⟩ := He.ba h
  obtain ⟨h2, h⟩ := He.ba h
  obtain ⟨h3, h⟩ := He.ba h
  obtain ⟨h4, h⟩ := He.ba h
  obtain ⟨h5, h6⟩ := He.ba h
  exact ⟨⟨cl, He.eqO_ok h1, He.eqO_ok h2, of_decide_eq_true h3, of_decide_eq_true h4, of_decide_eq_true h5⟩, nE, nN, of_decide_eq_true h6⟩
def knB (K : PySem.W.Frag) (C : Addr) : Bool := decide (PySem.W.kitOne K (.ref C) (.type "int") = some false) && (decide (PySem.W.kitOne K (.ref C) (.type "list") = some false) && decide (PySem.W.kitOne K (.ref C) (.type "tuple") = some false))
theorem knB_ok {K : PySem.W.Frag} {C : Addr} (h : knB K C = true) : TK K C := by
  obtain ⟨h1, h⟩ := He.ba h
  obtain ⟨h2, h3⟩ := He.ba h
  exact ⟨of_decide_eq_true h1, of_decide_eq_true h2, of_decide_eq_true h3⟩
def exB (K : PySem.W.Frag) (C : Addr) : Bool := (match K.lookup C with
  | some o => (match o.cls, o.data, o.slots.toList with
    | .type t, .cls cd, [_, _, _, _, some (.builtin n), _] => decide (t = "type") && (decide (n = "ValueError.__new__") && (cd.hasDict && (!cd.hasDel && (match cd.mro with
      | .ref c :: bm => decide (c = C) && PySem.HandSPX.refsVE bm
      | _ => false))))
    | _, _, _ => false)
  | none => false) && (He.eqO (PySem.W.findIn K (.ref C) "__setattr__") (some (some (.builtin "object.__setattr__"))) && (decide (PySem.W.subIn K (.ref C) (.type "BaseException") = some true) && (decide (PySem.W.typeIn K (.ref C) = some (.type "type")) && (PySem.W.keepIn K (.ref C) && xfB K C))))
theorem exB_ok {K : PySem.W.Frag} {C : Addr} (h : exB K C = true) : OexC K C ∧ XfC K C := by
  unfold exB at h
  obtain ⟨h1, h⟩ := He.ba h
  obtain ⟨h2, h⟩ := He.ba h
  obtain ⟨h3, h⟩ := He.ba h
  obtain ⟨h4, h⟩ := He.ba h
  obtain ⟨h5, h6⟩ := He.ba h
  refine ⟨⟨?_, He.eqO_ok h2, of_decide_eq_true h3, of_decide_eq_true h4, h5⟩, xfB_ok h6⟩
  cases hl : K.lookup C with
  | none =>
    rw [hl] at h1
    cases h1
  | some o =>
    rw [hl] at h1
    obtain ⟨oc, od, dt, ⟨sl⟩⟩ := o
    dsimp only at h1
    split at h1
    · rename_i t cd k0 k1 k2 k3 n k5
      obtain ⟨z1, h1⟩ := He.ba h1
      obtain ⟨z2, h1⟩ := He.ba h1
      obtain ⟨z3, h1⟩ := He.ba h1
      obtain ⟨z4, h1⟩ := He.ba h1
      split at h1
      · rename_i c bm hm
        obtain ⟨z5, z6⟩ := He.ba h1
        obtain ⟨x1, x2, x3, x4, x5, x6, x7, x8, x9, x10, x11⟩ := cd
        dsimp only at z3 z4 hm
        have y1 := of_decide_eq_true z1
        have y2 := of_decide_eq_true z2
        have y5 := of_decide_eq_true z5
        have y4 : x11 = false := by simpa using z4
        subst y1 y2 y5 y4 z3 hm
        exact ⟨x1, x5, x4, x2, bm, x7, x8, x9, x10, od, k0, k1, k2, k3, k5, rfl, z6⟩
      · cases h1
    · cases h1
end Wk

set_option Elab.async false
set_option linter.all false
set_option maxRecDepth 100000
set_option maxHeartbeats 0
namespace Wk
open PySem PySem.Spec PyProof.Rows L2 Evl
def fn : List He.DefD := ([dG "is_integer" 7, dG "is_between" 8, dG "is_row" 9, dG "is_tuple_of" 10, dG "is_router" 11, dG "is_range" 14, dG "refuse_wrong_entries" 20, dG "is_entry" 21, dG "is_end" 22, dG "_law_pool" 24, dG "_law_draw" 25, dG "_law_bits" 26, dG "_law_entries" 27, dG "_law_odd" 28, dG "_law_is_entry" 29, dG "_law_fault" 30, dG "_law_made" 31, dG "_law_refused" 32, dG "_law_holds" 33, dG "_law_good_row" 34, dG "law" 35, dM "Table" "__init__" "Table.__init__" 19 0, dM "Table" "__eq__" "Table.__eq__" 19 1, dM "BadTable" "__init__" "BadTable.__init__" 3 0] : List He.DefD)
def fa : List He.Fa := ([.glo "is_integer", .glo "is_between", .glo "is_row", .glo "is_tuple_of", .glo "is_router", .glo "is_range", .glo "refuse_wrong_entries", .glo "is_entry", .glo "is_end", .glo "_law_pool", .glo "_law_draw", .glo "_law_bits", .glo "_law_entries", .glo "_law_odd", .glo "_law_is_entry", .glo "_law_fault", .glo "_law_made", .glo "_law_refused", .glo "_law_holds", .glo "_law_good_row", .glo "law", .free "isinstance", .free "len", .free "tuple", .free "list", .free "int", .free "bool", .free "str", .free "all", .free "set"] : List He.Fa) ++ ([.free "enumerate", .free "range", .free "abs", .free "min", .free "repr", .free "sorted", .free "ValueError", .int "MOST_ROUTERS" 8, .int "ADDRESS_LENGTH" 10, .int "MOST_ENTRIES" 24, .glo "Table", .cls "Table", .mkr "Table", .meth "Table" "__eq__", .noat "Table" "entries", .noat "Table" "_nexts", .glo "BadTable", .glo "BadField", .glo "WishError", .exm "BadTable" "BadTable" true, .noat "BadTable" "index", .meth "BadTable" "__init__", .str "HERE" "here", .str "DROP" "drop"] : List He.Fa)
def eb (K : PySem.W.Frag) : Bool := exB K (He.ga K "BadTable") && (ektB K (He.ga K "BadTable") (He.ga K "WishError") (He.ga K "BadField") && (insB K (He.ga K "Table") && knB K (He.ga K "Table")))
abbrev R : PySem.W.OpenRow := PySem.W.OpenLaw.row PySem.Challenge.rw_wishreels_k81_table_entries_kept_and_ref
abbrev hk : PySem.W.Hook := hookX 4 fa fn eb
def ob (s : PySem.W.SharedT) : AlX := obsX 4 fa fn eb (HandSHeadRun.getT s)
theorem ob_eq (s : PySem.W.SharedT) : ob s = hk.obs s.abs := obsX_eq (HandSHeadRun.getT_eq s)
def loose0 : List Str := ["_wall", "__name__", "WishError", "BadTable", "BadField", "MOST_ROUTERS", "is_integer", "is_between", "is_row", "is_tuple_of", "is_router", "ADDRESS_LENGTH", "is_range", "MOST_ENTRIES", "HERE", "DROP", "Table", "refuse_wrong_entries", "is_entry", "is_end", "_law_pool", "_law_draw", "_law_bits", "_law_entries", "_law_odd", "_law_is_entry", "_law_fault", "_law_made", "_law_refused", "_law_holds"]
def loose1 : List Str := ["_law_good_row"]
def loose : List Str := loose0 ++ loose1
theorem run (w : World) : HandSHeadRun.RunEq R (PySem.W.view R.prog [35]) hk ob 7000 loose w := by
  intro os
  kernel_rfl
end Wk

set_option Elab.async false
set_option linter.all false
set_option maxRecDepth 100000
set_option maxHeartbeats 4000000
namespace Wk
open PySem PySem.Spec PyProof.Rows L2 Evl
theorem facts {P : Program} {w : World} {K : PySem.W.Frag} {h : Heap} {mg : Str → Option Value} {f : Addr} (X : K.In h) (G : h.Ns mainGlobals mg) (hfa : mg ("law" : Str) = some (.ref f)) (c : He.SaysD fa fn K) (cx : eb K = true) :
    ∃ fd : FuncData, (∀ (t : Shared) (u : Value), BindsTo t fd ⟨[u], []⟩ [("_law_script", u)]) ∧ ∀ base : Heap, K.In base → base.Ns mainGlobals mg → FnOk P w K mg base CX0 9 f fd ["_law_script"] (spLaw K) := by
  obtain ⟨d0, F0⟩ := c.def_ 0 (d := dG "is_integer" 7) rfl
  obtain ⟨d1, F1⟩ := c.def_ 1 (d := dG "is_between" 8) rfl
  obtain ⟨d2, F2⟩ := c.def_ 2 (d := dG "is_row" 9) rfl
  obtain ⟨d3, F3⟩ := c.def_ 3 (d := dG "is_tuple_of" 10) rfl
  obtain ⟨d4, F4⟩ := c.def_ 4 (d := dG "is_router" 11) rfl
  obtain ⟨d5, F5⟩ := c.def_ 5 (d := dG "is_range" 14) rfl
  obtain ⟨d6, F6⟩ := c.def_ 6 (d := dG "refuse_wrong_entries" 20) rfl
  obtain ⟨d7, F7⟩ := c.def_ 7 (d := dG "is_entry" 21) rfl
  obtain ⟨d8, F8⟩ := c.def_ 8 (d := dG "is_end" 22) rfl
  obtain ⟨d9, F9⟩ := c.def_ 9 (d := dG "_law_pool" 24) rfl
  obtain ⟨d10, F10⟩ := c.def_ 10 (d := dG "_law_draw" 25) rfl
  obtain ⟨d11, F11⟩ := c.def_ 11 (d := dG "_law_bits" 26) rfl
  obtain ⟨d12, F12⟩ := c.def_ 12 (d := dG "_law_entries" 27) rfl
  obtain ⟨d13, F13⟩ := c.def_ 13 (d := dG "_law_odd" 28) rfl
  obtain ⟨d14, F14⟩ := c.def_ 14 (d := dG "_law_is_entry" 29) rfl
  obtain ⟨d15, F15⟩ := c.def_ 15 (d := dG "_law_fault" 30) rfl
  obtain ⟨d16, F16⟩ := c.def_ 16 (d := dG "_law_made" 31) rfl
  obtain ⟨d17, F17⟩ := c.def_ 17 (d := dG "_law_refused" 32) rfl
  obtain ⟨d18, F18⟩ := c.def_ 18 (d := dG "_law_holds" 33) rfl
  obtain ⟨d19, F19⟩ := c.def_ 19 (d := dG "_law_good_row" 34) rfl
  obtain ⟨d20, F20⟩ := c.def_ 20 (d := dG "law" 35) rfl
  obtain ⟨d21, F21⟩ := c.def_ 21 (d := dM "Table" "__init__" "Table.__init__" 19 0) rfl
  obtain ⟨d22, F22⟩ := c.def_ 22 (d := dM "Table" "__eq__" "Table.__eq__" 19 1) rfl
  obtain ⟨d23, F23⟩ := c.def_ 23 (d := dM "BadTable" "__init__" "BadTable.__init__" 3 0) rfl
  have e := hfa.symm.trans (He.glo_ok X G (c.fact 20 (f := .glo "law") rfl))
  cases e
  have bL := FunD.bindsA (ps := ["_law_script"]) F20 fun _ _ _ _ _ _ us hl => match us, hl with | [_], _ => rfl
  have B : Bl mg := ⟨He.free_ok X G (c.fact 21 rfl), He.free_ok X G (c.fact 22 rfl), He.free_ok X G (c.fact 23 rfl), He.free_ok X G (c.fact 24 rfl), He.free_ok X G (c.fact 25 rfl), He.free_ok X G (c.fact 26 rfl), He.free_ok X G (c.fact 27 rfl), He.free_ok X G (c.fact 28 rfl), He.free_ok X G (c.fact 29 rfl), He.free_ok X G (c.fact 30 rfl), He.free_ok X G (c.fact 31 rfl), He.free_ok X G (c.fact 32 rfl), He.free_ok X G (c.fact 33 rfl), He.free_ok X G (c.fact 34 rfl)⟩
  have hso : mg "sorted" = none := He.free_ok X G (c.fact 35 (f := .free "sorted") rfl)
  have hVE : mg "ValueError" = none := He.free_ok X G (c.fact 36 (f := .free "ValueError") rfl)
  obtain ⟨t8, m8⟩ := He.int_ok X G (c.fact 37 (f := .int "MOST_ROUTERS" 8) rfl)
  obtain ⟨tA, mA⟩ := He.int_ok X G (c.fact 38 (f := .int "ADDRESS_LENGTH" 10) rfl)
  obtain ⟨tE, mE⟩ := He.int_ok X G (c.fact 39 (f := .int "MOST_ENTRIES" 24) rfl)
  obtain ⟨tH, mH⟩ := He.str_ok X G (c.fact 52 (f := .str "HERE" "here") rfl)
  obtain ⟨tD, mD⟩ := He.str_ok X G (c.fact 53 (f := .str "DROP" "drop") rfl)
  obtain ⟨x1, y1⟩ := He.ba cx
  obtain ⟨x2, y2⟩ := He.ba y1
  obtain ⟨x3, x4⟩ := He.ba y2
  have TXx : TX K (He.ga K "Table") := insB_ok x3 (He.cls_ok (c.fact 41 (f := .cls "Table") rfl)) (He.noat_ok (c.fact 44 (f := .noat "Table" "entries") rfl)) (He.noat_ok (c.fact 45 (f := .noat "Table" "_nexts") rfl))
  have TKx := knB_ok x4
  obtain ⟨oT, fT⟩ := exB_ok x1
  have EK := ektB_ok x2
  have nT : PySem.W.findIn K (.ref (He.ga K "BadTable")) "index" = some none := He.noat_ok (c.fact 50 (f := .noat "BadTable" "index") rfl)
  have iT := He.meth_ok (c.fact 51 (f := .meth "BadTable" "__init__") rfl)
  refine ⟨d20, fun t u => bL t [u] rfl, fun base _ _ => ?_⟩
  have ET : ErrF P w K mg base "BadTable" (He.ga K "BadTable") "index" := ⟨(He.glo_ok X G (c.fact 46 (f := .glo "BadTable") rfl)), oT, fT, nT, He.exm_ok (c.fact 49 (f := .exm "BadTable" "BadTable" true) rfl), ⟨_, d23, iT.at_, beq_iff_eq.mp iT.fn, ok_xt oT nT F23, F23.bindsN fun _ _ _ _ _ _ us hl => match us, hl with | [_, _], _ => rfl⟩⟩
  have C0 : Cal P w K mg base "is_integer" ["thing"] 1 (spInt2 K) := calOf F0 (ok_int2 B F0) (He.glo_ok X G (c.fact 0 rfl)) (F0.bindsN fun _ _ _ _ _ _ us hl => match us, hl with | [_], _ => rfl)
  have C1 : Cal P w K mg base "is_between" ["least", "most", "thing"] 2 (spBet2 K) := calOf F1 (ok_bet2 C0 F1) (He.glo_ok X G (c.fact 1 rfl)) (F1.bindsN fun _ _ _ _ _ _ us hl => match us, hl with | [_, _, _], _ => rfl)
  have C2 : Cal P w K mg base "is_router" ["size", "thing"] 3 (spRou2 K) := calOf F4 (ok_rou2 C1 F4) (He.glo_ok X G (c.fact 4 rfl)) (F4.bindsN fun _ _ _ _ _ _ us hl => match us, hl with | [_, _], _ => rfl)
  have C3 : Cal P w K mg base "is_row" ["thing"] 1 (spRow3 K) := calOf F2 (ok_row3 B F2) (He.glo_ok X G (c.fact 2 rfl)) (F2.bindsN fun _ _ _ _ _ _ us hl => match us, hl with | [_], _ => rfl)
  have C4 : Cal P w K mg base "is_tuple_of" ["many", "thing"] 1 (spTupOf3 K) := calOf F3 (ok_tupOf3 B F3) (He.glo_ok X G (c.fact 3 rfl)) (F3.bindsN fun _ _ _ _ _ _ us hl => match us, hl with | [_, _], _ => rfl)
  have C5 : Cal P w K mg base "is_range" ["thing"] 1 (spRange K) := calOf F5 (ok_range B mA F5) (He.glo_ok X G (c.fact 5 rfl)) (F5.bindsN fun _ _ _ _ _ _ us hl => match us, hl with | [_], _ => rfl)
  have C8 : Cal P w K mg base "is_end" ["thing"] 1 (spEnd3 K) := calOf F8 (ok_end3 B mH mD F8) (He.glo_ok X G (c.fact 8 rfl)) (F8.bindsN fun _ _ _ _ _ _ us hl => match us, hl with | [_], _ => rfl)
  have C9 : Cal P w K mg base "is_entry" ["thing"] 4 (spEntry3 K) := calOf F7 (ok_entry3 m8 C4 C5 C2 C8 F7) (He.glo_ok X G (c.fact 7 rfl)) (F7.bindsN fun _ _ _ _ _ _ us hl => match us, hl with | [_], _ => rfl)
  have CA : CalX P w K mg base "refuse_wrong_entries" ["entries"] 5 (spRWE3 K (He.ga K "BadTable")) := ⟨⟨_, d6, ok_rwe3 B mE ET C3 C9 F6, He.glo_ok X G (c.fact 6 rfl), F6.kp, (F6.bindsN fun _ _ _ _ _ _ us hl => match us, hl with | [_], _ => rfl)⟩⟩
  have MT : MkT3 P w K mg base (He.ga K "Table") (He.ga K "BadTable") := ⟨He.glo_ok X G (c.fact 40 (f := .glo "Table") rfl), ⟨_, d21, He.mkr_ok (c.fact 42 (f := .mkr "Table") rfl), ok_init3 B hso TXx CA F21, F21.bindsN fun _ _ _ _ _ _ us hl => match us, hl with | [_, _], _ => rfl⟩⟩
  have MQ : MqT P w K mg base (He.ga K "Table") := ⟨⟨_, d22, He.meth_ok (c.fact 43 (f := .meth "Table" "__eq__") rfl), ok_eq B TXx (He.glo_ok X G (c.fact 40 (f := .glo "Table") rfl)) F22, F22.bindsN fun _ _ _ _ _ _ us hl => match us, hl with | [_, _], _ => rfl⟩⟩
  have D0 : Cal P w K mg base "_law_pool" ["_law_script"] 1 (spPool K) := calOf F9 (ok_pool B F9) (He.glo_ok X G (c.fact 9 rfl)) (F9.bindsN fun _ _ _ _ _ _ us hl => match us, hl with | [_], _ => rfl)
  have D1 : Cal P w K mg base "_law_draw" ["_law_pool_here", "_law_many"] 1 spDrw := calOf F10 (ok_drw B F10) (He.glo_ok X G (c.fact 10 rfl)) (F10.bindsN fun _ _ _ _ _ _ us hl => match us, hl with | [_, _], _ => rfl)
  have D2 : Cal P w K mg base "_law_bits" ["_law_pool_here", "_law_most"] 2 spBits := calOf F11 (ok_bits B D1 F11) (He.glo_ok X G (c.fact 11 rfl)) (F11.bindsN fun _ _ _ _ _ _ us hl => match us, hl with | [_, _], _ => rfl)
  have D3 : Cal P w K mg base "_law_entries" ["_law_pool_here", "_law_many", "_law_nexts"] 3 spEnt := calOf F12 (ok_ent B hso D1 D2 F12) (He.glo_ok X G (c.fact 12 rfl)) (F12.bindsN fun _ _ _ _ _ _ us hl => match us, hl with | [_, _, _], _ => rfl)
  have D4 : Cal P w K mg base "_law_odd" ["_law_pool_here", "_law_entries_here", "_law_place"] 8 (spOdd K) := calOf F13 (ok_odd B TXx TKx MT D1 F13) (He.glo_ok X G (c.fact 13 rfl)) (F13.bindsN fun _ _ _ _ _ _ us hl => match us, hl with | [_, _, _], _ => rfl)
  have D5 : Cal P w K mg base "_law_is_entry" ["_law_item"] 1 (spLEn K) := calOf F14 (ok_lEn B F14) (He.glo_ok X G (c.fact 14 rfl)) (F14.bindsN fun _ _ _ _ _ _ us hl => match us, hl with | [_], _ => rfl)
  have D6 : Cal P w K mg base "_law_fault" ["_law_row"] 2 (spFlt K) := calOf F15 (ok_flt B D5 F15) (He.glo_ok X G (c.fact 15 rfl)) (F15.bindsN fun _ _ _ _ _ _ us hl => match us, hl with | [_], _ => rfl)
  have D7 : Cal P w K mg base "_law_made" ["_law_row"] 8 (spMade K (He.ga K "Table")) := calOf F16 (ok_made B hVE MT ET EK (He.glo_ok X G (c.fact 48 (f := .glo "WishError") rfl)) (He.glo_ok X G (c.fact 47 (f := .glo "BadField") rfl)) F16) (He.glo_ok X G (c.fact 16 rfl)) (F16.bindsN fun _ _ _ _ _ _ us hl => match us, hl with | [_], _ => rfl)
  have D8 : Cal P w K mg base "_law_refused" ["_law_told", "_law_place"] 1 spRfd := calOf F17 (ok_rfd B F17) (He.glo_ok X G (c.fact 17 rfl)) (F17.bindsN fun _ _ _ _ _ _ us hl => match us, hl with | [_, _], _ => rfl)
  have D9 : Cal P w K mg base "_law_holds" ["_law_table", "_law_row"] 2 (spHld (He.ga K "Table")) := calOf F18 (ok_hld B hso TXx (He.glo_ok X G (c.fact 40 (f := .glo "Table") rfl)) D5 F18) (He.glo_ok X G (c.fact 18 rfl)) (F18.bindsN fun _ _ _ _ _ _ us hl => match us, hl with | [_, _], _ => rfl)
  have DA : Cal P w K mg base "_law_good_row" ["_law_pool_here", "_law_table", "_law_row", "_law_given"] 8 (spGR K (He.ga K "Table")) := calOf F19 (ok_gr B TXx MT MQ D1 D9 F19) (He.glo_ok X G (c.fact 19 rfl)) (F19.bindsN fun _ _ _ _ _ _ us hl => match us, hl with | [_, _, _, _], _ => rfl)
  exact ok_law B TXx TKx ⟨D0, D1, D3, D4, D6, D7, D8, DA, MT⟩ F20
end Wk
open PySem PySem.W PySem.Calls PyProof.Rows
set_option maxHeartbeats 0
theorem PySem.Challenge.cw_wishreels_k81_table_entries_kept_and_ref_holds : PySem.Challenge.rw_wishreels_k81_table_entries_kept_and_ref.Holds := by
  w_on; o_law
  refine HandSHeadRun.head_any (r := Wk.R) (q := view Wk.R.prog [35]) (H := Wk.hk) (ob := Wk.ob) (M := 7000) (loose := Wk.loose) (d := HandSHeadRun.topDef Wk.R.prog 35) (kwd := []) Wk.ob_eq
    (by kernel_rfl) (fun s => by kernel_rfl) Wk.run (by kernel_rfl) (by kernel_rfl) (by kernel_rfl) (by rfl) (by first | assumption | decide +kernel) (by decide +kernel) ⟨rfl, rfl, rfl, rfl, rfl, by decide +kernel⟩ ?hw ?hc
  case hw => w_witness2
  case hc =>
    refine L2.walk_ofE (l := PySem.Challenge.rw_wishreels_k81_table_entries_kept_and_ref) (n := 63) (k := 9) (x := "_law_script") (CX := L2.CX0) rfl (by decide) (by kernel_rfl) ⟨rfl, by decide, by decide⟩ ?F (fun _ _ _ _ z => z)
    intro w mg fa h Y G hmg0
    obtain ⟨K, kx, c, cx⟩ := Y
    have hmg : mg ("law" : PySem.Str) = some (.ref fa) := by
      have e : (HandSHeadRun.topDef Wk.R.prog 35).name = ("law" : PySem.Str) := by kernel_rfl
      rw [← e]
      exact hmg0
    obtain ⟨fd, hb, hF⟩ := Wk.facts (P := (PySem.Challenge.rw_wishreels_k81_table_entries_kept_and_ref).prog) (w := w) kx G hmg c cx
    exact ⟨K, fd, Wk.spLaw K, kx, hb, fun H a ns hl _ hS => ⟨a, ns, rfl, hS, hl, fun _ => rfl⟩, hF⟩

import PyProof.Rows.All
import Wide.All
import OpenK.AllK
import Wide.FinOn
import KE.KStateDown
import HandS.ForMost
import HandS.More
import HandS.WordsExc
import HandS.Defaults
import HandS.Deep
import HandS.IsInst
import HandS.Evl
import HandS.Walk
import HandS.TupSets
import HandS.TupAny
import HandS.Conv
import PyProof.P3In
import HandS.SetFor
import HandS.Strs
import KE.GoesMore
import KE.GoesEnum
import HandS.ExcInit
import HandS.ExcField
import HandS.ExcOwn
import PyProof.NeKinds
import PyProof.EqKinds
import PyProof.FactsAll.subtypes_4
import PyProof.FactsAll.dict_1
import HandS.WideBits
import HandS.Wide
import HandS.DictComp
import HandS.Comp
import HandS.TryOnly
import HandS.TryMany
import HandS.ExcIs
import HandS.ExcBuiltin
import HandS.Iter
import KE.KDictWalk
import KE.DataMinMax
import KE.SortData
import HandS.WordsDict
import HandS.SortInts
import HandS.Small
import HandS.Ends
import HandS.HeadEnd
import PyProof.ReprRoads
import PyProof.CallFns
import HandS.TupLe
import KE.KExcIs
import KE.KEqDict
import KE.KDictKeyed
import HandS.OwnEq
import HandS.Codes
import KE.KDictOf
import KE.KDictCopyH
import HandS.TupMul
import HandS.DictTup
import HandS.SortRule
import PyProof.DictMoreH
import HandS.Head0
import HandS.Head1
import HandS.Head2
import HandS.HeadHook1
import HandS.HeadHook2
import PySem.Challenge.RW_wishreels_k79_areas_and_errors
set_option Elab.async false
set_option linter.all false
set_option maxRecDepth 100000
set_option maxHeartbeats 2000000
namespace Wk
open PySem PySem.Spec PyProof.Rows L2 Evl
/-! data that stand in a heap -/
mutual
inductive Dq (G : Hp) : V → PyData → Prop
  | non : Dq G .non .none
  | bl (b : Bool) : Dq G (.bl b) (.bool b)
  | int (i : Int) : Dq G (.int i) (.int i)
  | str (x : Str) : Dq G (.str x) (.str x)
  | lst {a : Addr} {xs : List V} {ds : List PyData} : G a = some (.lst xs) → DqA G xs ds → Dq G (.ref a) (.list ds)
  | tup {a : Addr} {xs : List V} {ds : List PyData} : G a = some (.tup xs) → DqA G xs ds → Dq G (.ref a) (.tuple ds)
  | dic {a : Addr} : G a = some (.dK []) → Dq G (.ref a) (.dict [])
inductive DqA (G : Hp) : List V → List PyData → Prop
  | nil : DqA G [] []
  | cons {v : V} {vs : List V} {d : PyData} {ds : List PyData} : Dq G v d → DqA G vs ds → DqA G (v :: vs) (d :: ds)
end
mutual
theorem Dq.mono {G H : Hp} (e : Ex G H) : ∀ {d : PyData} {v : V}, Dq G v d → Dq H v d
  | .none, _, .non => .non
  | .bool _, _, .bl b => .bl b
  | .int _, _, .int i => .int i
  | .str _, _, .str x => .str x
  | .list _, _, .lst h a => .lst (e _ _ h) (DqA.mono e a)
  | .tuple _, _, .tup h a => .tup (e _ _ h) (DqA.mono e a)
  | .dict _, _, .dic h => .dic (e _ _ h)
theorem DqA.mono {G H : Hp} (e : Ex G H) : ∀ {ds : List PyData} {vs : List V}, DqA G vs ds → DqA H vs ds
  | [], _, .nil => .nil
  | _ :: _, _, .cons h t => .cons (Dq.mono e h) (DqA.mono e t)
end
mutual
theorem Dq.dp {K : PySem.W.Frag} {G : Hp} : ∀ {d : PyData} {v : V}, d.canLay0 = true → Dq G v d → Dp K G v d
  | .none, _, _, .non => .non
  | .bool _, _, _, .bl b => .bl b
  | .int _, _, _, .int i => .int i
  | .str _, _, _, .str x => .str x
  | .list ds, _, c, .lst h a => .lst (sq_of h) (DqA.dp (by simpa [PyData.canLay0] using c) a)
  | .tuple ds, _, c, .tup h a => .tup (st_of h) (DqA.dp (by simpa [PyData.canLay0] using c) a)
  | .dict _, _, c, .dic h => by simp [PyData.canLay0] at c
theorem DqA.dp {K : PySem.W.Frag} {G : Hp} : ∀ {ds : List PyData} {vs : List V}, PyData.canLayAll0 ds = true → DqA G vs ds → DpAll K G vs ds
  | [], _, _, .nil => .nil
  | d :: ds, _, c, .cons h t => by
    have c' : d.canLay0 = true ∧ PyData.canLayAll0 ds = true := by simpa [PyData.canLayAll0] using c
    exact .cons (Dq.dp c'.1 h) (DqA.dp c'.2 t)
end
theorem DqA.length {G : Hp} : ∀ {ds : List PyData} {vs : List V}, DqA G vs ds → vs.length = ds.length
  | [], _, .nil => rfl
  | _ :: _, _, .cons _ t => congrArg Nat.succ t.length
theorem DqA.get {G : Hp} : ∀ {ds : List PyData} {vs : List V} {i : Nat} {v : V}, DqA G vs ds → vs[i]? = some v → ∃ d, ds[i]? = some d ∧ Dq G v d
  | [], _, i, v, .nil, e => by simp at e
  | d :: _, _, 0, v, .cons h t, e => ⟨d, rfl, by simp at e; subst e; exact h⟩
  | _ :: _, _, i + 1, v, .cons h t, e => by
    obtain ⟨d, e1, e2⟩ := t.get (i := i) (by simpa using e)
    exact ⟨d, by simpa using e1, e2⟩
theorem DqA.at {G : Hp} {ds : List PyData} {vs : List V} {i : Nat} {d : PyData} (h : DqA G vs ds) (e : ds[i]? = some d) : ∃ v, vs[i]? = some v ∧ Dq G v d := by
  have hl := h.length
  obtain ⟨hi, _⟩ := List.getElem?_eq_some_iff.mp e
  have hv : vs[i]? = some (vs[i]'(by omega)) := List.getElem?_eq_getElem (by omega)
  obtain ⟨d', e1, e2⟩ := h.get hv
  rw [e] at e1
  cases e1
  exact ⟨_, hv, e2⟩
theorem DqA.append {G : Hp} : ∀ {ds es : List PyData} {vs us : List V}, DqA G vs ds → DqA G us es → DqA G (vs ++ us) (ds ++ es)
  | [], _, _, _, .nil, h => h
  | _ :: _, _, _, _, .cons h t, u => .cons h (t.append u)
theorem DqA.take {G : Hp} : ∀ {ds : List PyData} {vs : List V} (n : Nat), DqA G vs ds → DqA G (vs.take n) (ds.take n)
  | [], _, n, .nil => by simp; exact .nil
  | _ :: _, _, 0, .cons h t => .nil
  | _ :: _, _, n + 1, .cons h t => .cons h (t.take n)
theorem DqA.drop {G : Hp} : ∀ {ds : List PyData} {vs : List V} (n : Nat), DqA G vs ds → DqA G (vs.drop n) (ds.drop n)
  | [], _, n, .nil => by simp; exact .nil
  | _ :: _, _, 0, .cons h t => .cons h t
  | _ :: _, _, n + 1, .cons h t => t.drop n
theorem DqA.ints {G : Hp} : ∀ (ns : List Int), DqA G (ns.map V.int) (ns.map PyData.int)
  | [] => .nil
  | n :: ns => .cons (.int n) (DqA.ints ns)
theorem DqA.int_inv {G : Hp} : ∀ {ns : List Int} {vs : List V}, DqA G vs (ns.map PyData.int) → vs = ns.map V.int
  | [], _, .nil => rfl
  | _ :: _, _, .cons (.int n) t => by
    have := DqA.int_inv t
    subst this
    rfl
/-- the name of a datum's type -/
def tyN : PyData → String
  | .none => "NoneType"
  | .bool _ => "bool"
  | .int _ => "int"
  | .str _ => "str"
  | .list _ => "list"
  | .tuple _ => "tuple"
  | .dict _ => "dict"
theorem Dq.ty {K : PySem.W.Frag} {G : Hp} {d : PyData} {v : V} (h : Dq G v d) : TyX K G v (.type (tyN d)) := by
  cases h with
  | non => exact .base .non
  | bl b => exact .base (.bl b)
  | int i => exact .base (.int i)
  | str x => exact .base (.str x)
  | lst h _ => exact .base (.lst h)
  | tup h _ => exact .base (.tup h)
  | dic h => exact .base (.dK h)
/-- a call's callee: the def that a global name holds -/
structure Cal (P : Program) (w : World) (K : PySem.W.Frag) (mg : Str → Option Value) (base : Heap) (x : Str) (ps : List Str) (k : Nat) (sp : Sp) : Prop where
  ex : ∃ (f : Addr) (fd : FuncData), FnOk P w K mg base CX0 k f fd ps sp ∧ mg x = some (.ref f) ∧ PySem.W.keepIn K (.ref f) = true ∧ Binds K fd ps []
section
variable {X : Cx}
theorem pe_cal {x : Str} {p pos : Pos} {e : Expr} {es : List Expr} {ps : List Str} {k j : Nat} {sp : Sp} {t : TA} (C : Cal X.prog X.w X.K X.mg X.base x ps k sp) (hr : Room j X.A) (hg : Gl X x) (ha : PA X (e :: es) t) (hk : k ≤ j := by decide)
    (hdb : (x == ("__debug__" : Str)) = false := by decide) (he : starEach (e :: es) X.env = (false, eval e X.env) :: starEach es X.env := by rfl) (hpl : (backTo pos (starEach es X.env)).any (·.1) = false := by rfl) :
    PE X (.Call (.Name x p) (e :: es) [] pos) (tCall sp [] E0 t) := by
  obtain ⟨f, fd, F, g, kp, b⟩ := C.ex
  exact pe_call F (hr.mono hk) hg g kp b .nil pass0 ha hdb he hpl
end
section
variable {K : PySem.W.Frag} {σ : L2.St} {H : Hp} {ta tb tc te : TE}
/-- isinstance(x, T), T a built-in type -/
theorem ev_isi {v : V} {d : PyData} {n : String} {b : Bool} (h : Ev ta σ H v) (hd : Dq H v d) (hk : kitB (tyN d) n = some b) : Ev (tCB (rIsi K) (tCons ta (tCons (tC (.ty n)) tNil))) σ H (.bl b) := fun H1 e Q q =>
  h H1 e _ fun H2 e2 => ⟨v, .ty n, .type (tyN d), .type n, b, rfl, .ty n, (hd.mono (e.trans e2)).ty, kit_ty hk, q H2 e2⟩
/-- a <= b <= c of ints -/
theorem ev_chain {i j k : Int} {r r' : R2} {b1 b2 : Bool} (ha : Ev ta σ H (.int i)) (hb : Ev tb σ H (.int j)) (hc : Ev tc σ H (.int k)) (h1 : RV r (.int i) (.int j) H (.bl b1)) (h2 : RV r' (.int j) (.int k) H (.bl b2)) :
    Ev (tChain r r' ta tb tc) σ H (.bl (b1 && b2)) := fun H1 e Q q =>
  ha H1 e _ fun H2 e2 => hb H2 (e.trans e2) _ fun H3 e3 => h1 H3 ((e.trans e2).trans e3) _ fun H4 e4 => ⟨b1, rfl, by
    cases b1 with
    | false => exact q H4 ((e2.trans e3).trans e4)
    | true => exact hc H4 (((e.trans e2).trans e3).trans e4) _ fun H5 e5 => h2 H5 ((((e.trans e2).trans e3).trans e4).trans e5) _ fun H6 e6 => q H6 ((((e2.trans e3).trans e4).trans e5).trans e6)⟩
end
end Wk

set_option Elab.async false
set_option linter.all false
set_option maxRecDepth 100000
set_option maxHeartbeats 4000000
namespace Wk
open PySem PySem.Spec PyProof.Rows L2 Evl
/-! how many are unlike -/
theorem nd_le {α : Type} [DecidableEq α] : ∀ (l D : List α), l.Nodup → (∀ x ∈ l, x ∈ D) → l.length ≤ D.length
  | [], _, _, _ => Nat.zero_le _
  | x :: l, D, hn, hs => by
    have hn' := List.nodup_cons.mp hn
    have hx : x ∈ D := hs x List.mem_cons_self
    have ih := nd_le l (D.erase x) hn'.2 fun y hy => (List.mem_erase_of_ne (fun (e : y = x) => hn'.1 (by rw [← e]; exact hy))).2 (hs y (List.mem_cons_of_mem _ hy))
    have e := List.length_erase_of_mem hx
    have hp : 0 < D.length := List.length_pos_of_mem hx
    simp only [List.length_cons]
    omega
theorem dup_less {α : Type} [DecidableEq α] : ∀ (D : List α), ¬ D.Nodup → ∃ D' : List α, (∀ x ∈ D, x ∈ D') ∧ D'.length < D.length
  | [], h => absurd List.nodup_nil h
  | x :: D, h => by
    by_cases hx : x ∈ D
    · exact ⟨D, fun y hy => (List.mem_cons.mp hy).elim (fun e => by rw [e]; exact hx) id, Nat.lt_succ_self _⟩
    · have hD : ¬ D.Nodup := fun z => h (List.nodup_cons.mpr ⟨hx, z⟩)
      obtain ⟨D', h1, h2⟩ := dup_less D hD
      exact ⟨x :: D', fun y hy => (List.mem_cons.mp hy).elim (fun e => by rw [e]; exact List.mem_cons_self) (fun e => List.mem_cons_of_mem _ (h1 y e)), Nat.succ_lt_succ h2⟩
theorem nd_iff {α : Type} [DecidableEq α] {l D : List α} (hn : l.Nodup) (h : ∀ x, x ∈ l ↔ x ∈ D) : l.length = D.length ↔ D.Nodup := by
  constructor
  · intro e
    apply Classical.byContradiction
    intro hD
    obtain ⟨D', h1, h2⟩ := dup_less D hD
    have := nd_le l D' hn fun x hx => h1 x ((h x).mp hx)
    omega
  · intro hD
    have h1 := nd_le l D hn fun x hx => (h x).mp hx
    have h2 := nd_le D l hD fun x hx => (h x).mpr hx
    omega
section
variable {X : Cx}
/-- len(set(t)), t a tuple of ints -/
def tLenSU (K : PySem.W.Frag) (ta : TE) : TE := fun σ H Q => ta σ H fun x H1 => ∃ (l : Addr) (ns : List Int), x = V.ref l ∧ SqT K H1 l (ns.map V.int) ∧ ns.length < 64 ∧ ∀ n : Nat, (n = ns.length ↔ ns.Nodup) → Q (.int n) H1
theorem pe_lenSU {a : Expr} {ta : TE} {p p2 q pos : Pos} (hc : X.calm = true) (hg : Gl X "len") (hm : X.mg "len" = none) (hg2 : Gl X "set") (hm2 : X.mg "set" = none) (ha : PE X a ta)
    (na : starEach [a] X.env = (false, eval a X.env) :: starEach [] X.env := by rfl) : PE X (.Call (.Name "len" p) [.Call (.Name "set" p2) [a] [] q] [] pos) (tLenSU X.K ta) := by
  refine ⟨fun pins s σ H Q I h => ?_⟩
  refine Call_ (ld_blt I hg hm PySem.boot_len ?_)
  refine PyProof.Rows.callWith_builtin1 (PyProof.Rows.args_cons ?_ rfl) rfl rfl
  refine Call_ (ld_blt I hg2 hm2 PyProof.Rows.boot_set ?_)
  refine PyProof.Rows.callWith_type1 (PyProof.Rows.args_cons (thn (ha.run pins s σ H _ I h) fun v s1 hh => PyProof.Rows.args_nil ?_) na) na rfl
  obtain ⟨x, H1, I1, r1, l, ns, rfl, hq, hlt, q1⟩ := hh
  cases r1
  obtain ⟨its, r, pl, hz⟩ := I1.tuple hq
  refine call_set_tupI (w := X.w) ns (I1.ok.hd hc) pl (by simpa using r.ints) (by unfold scanBound; omega) fun h' tk c hS hc2 hk => ?_
  refine PyProof.Rows.args_nil ?_
  obtain ⟨o, es, ep, t, ho, hex, hd, _, hnd, hiff, _, hf, hn, _⟩ := hS
  have I2 : Inv X pins σ H1 { s1 with heap := h', toks := tk } := I1.kept fun b o e => hk b o e
  refine call_len_set ho hex hd hf (by rw [hn] <;> omega) ⟨.int es.size, H1, I2.tok _, ⟨_, rfl⟩, q1 es.size ?_⟩
  have hl : (es.toList.map keyOf).length = es.size := by simp
  rw [← hl]
  exact nd_iff hnd fun k => by
    have := hiff k
    simp only [decide_eq_true_eq] at this
    exact this.symm
end
/-- the set that set() lays -/
abbrev sO (w : World) : Obj := { cls := .type "set", dict := none, data := .set #[] 0 (.fresh 0 0 (!w.params.followText "set-order")) }
section
variable {P : Program} {w : World} {A : Around} {E : Value → Shared → Prop} {s : Shared}
/-- set(t), t a tuple of tuples of ints -/
theorem set_of_tup2 {l : Addr} {its : Array Value} (ks : List (Addr × List Int)) {Q : Value → Shared → Prop} (nh : A.handled = none) (tl : s.heap.IsTuple l its) (eq : its.toList = ks.map fun p => Value.ref p.1)
    (ki : ∀ p ∈ ks, IsT P w s.heap p.2 p.1) (few : ks.length < 64) (un : A.units + 3 < cLine)
    (fin : ∀ (h' : Heap) (tk : Nat) L es ep t, SetTR P w h' s.heap.objs.size L es ep t → Got ks ks.length L → (∀ b o, s.heap.get? b = some o → h'.get? b = some o) → Q (.ref s.heap.objs.size) { s with heap := h', toks := tk }) :
    wpAny (model P w) A (call (.type "set") [.ref l]) Q E s := by
  have size : its.size = ks.length := by have q := congrArg List.length eq; simpa using q
  obtain ⟨c, rest, mro⟩ := F.called_set.mro
  have made := F.called_set.made; have sub := F.called_set.sub
  refine wpAny_call (codeAny_of_tree (show wpAny _ _ (callAny (.type "set") _) _ _ _ from ?_))
  refine wpAny_pure ⟨Code.quiet_builtin _ (by decide +kernel), codeAny_builtin F.entry_type_call (by
    rw [Around.under_plain (weight_type_call_type "set" [.ref l] []) rfl]
    have nt := F.called_set.notType; have cc := F.called_set.canCreate; have tc := F.typeCall_set_1 (.ref l)
    repeat (any_goals (first | assumption | wp_step))
    refine codeAny_mono (code_set_led1 (.ref l) (E := E) (Q₁ := fun ob s1 => ob = .ref s.heap.objs.size ∧ s1 = { s with heap := s.heap.push (sO w) }) ⟨rfl, rfl⟩) fun r s1 hr => ?_
    cases r with
    | error e => exact hr
    | ok fl =>
      cases fl with
      | ret ob =>
        obtain ⟨rfl, rfl⟩ := hr
        have hS : (s.heap.push (sO w)).get? s.heap.objs.size = some (sO w) := Heap.get?_push_size _ rfl
        have hT : Shared.TypeIs { s with heap := s.heap.push (sO w) } (.ref s.heap.objs.size) "set" := ⟨_, hS, rfl⟩
        have li := F.called_set.init.lookup; have bi := F.called_set.init.bind (.ref s.heap.objs.size)
        repeat (any_goals (first | assumption | wp_step))
        refine codeAny_mono (codeAny_call_builtin (R := wants (fun r s2 => r = .none ∧ ∃ h' tk L es ep t, s2 = { s with heap := h', toks := tk } ∧ SetTR P w h' s.heap.objs.size L es ep t ∧ Got ks ks.length L ∧ (∀ b o, s.heap.get? b = some o → h'.get? b = some o)) E)
          F.called_set.init.plain F.entry_set_init (check_set_init_1 hT ?_)) fun r2 s2 hr2 => ?_
        · obtain ⟨⟨oc, od, dt, sl⟩, ol, cl, n, dl⟩ := tl
          simp only at cl dl; subst cl; subst dl
          have ol1 : (s.heap.push (sO w)).get? l = some { cls := .type "tuple", dict := od, data := .seq its n, slots := sl } := Heap.get?_push_of_some _ ol
          have b1 := F.sub_tuple_set; have b2 := F.sub_tuple_frozenset
          have b3 : (Value.type "tuple" == Value.type "dict") = false := by decide
          have tl1 : (s.heap.push (sO w)).IsTuple l its := ⟨_, ol1, rfl, n, rfl⟩
          unfold Builtin.«set.__init__» noKeywords Builtin.Frozenset.updateFrom
          generalize hPI : pyIter = PI
          wp_walk
          subst hPI
          refine wpAny_pyIter_tuple tl1 (wpAny_bind (wpAny_runValue ?_))
          have lt : l < s.heap.objs.size := Heap.lt_size ol
          have nh3 : A.in1.in1.in1.handled = none := by simp [nh]
          have ne1 : l ≠ (s.heap.push (sO w)).objs.size := by rw [Heap.size_push]; exact Nat.ne_of_lt (Nat.lt_succ_of_lt lt)
          have nin : s.heap.objs.size ∉ [(s.heap.push (sO w)).objs.size, l] := by
            rw [Heap.size_push]
            intro z
            rcases List.mem_cons.mp z with z | z
            · exact absurd z (Nat.ne_of_lt (Nat.lt_succ_self _))
            · exact absurd (List.mem_singleton.mp z) (Nat.ne_of_gt lt)
          have val : ∀ (i : Nat) (v : Value), its[i]? = some v → ∃ p, ks[i]? = some p ∧ v = .ref p.1 := fun i v hv => by
            have q : its.toList[i]? = some v := (Array.getElem?_toList ..).trans hv
            rw [eq, List.getElem?_map] at q
            cases hq : ks[i]? with
            | none => rw [hq] at q; cases q
            | some p => rw [hq] at q; exact ⟨p, rfl, (Option.some.inj q).symm⟩
          have out : ∀ b, s.heap.objs.size ≤ b → s.heap.get? b = none := fun b hb => by
            cases q : s.heap.get? b with
            | none => rfl
            | some o => exact absurd (Nat.lt_of_lt_of_le (Heap.lt_size q) hb) (Nat.lt_irrefl _)
          refine set_update_tups ((Walks.tuple nh3 _ l ne1 its).toS) s.heap.objs.size nin ks size few val s.heap ki (out _ (Nat.le_refl _)) (fun b hb => out b (by rw [List.mem_singleton.mp hb, Heap.size_push]; exact Nat.le_succ _)) un (its.size - 0) 0 _ (by omega) (Nat.zero_le _)
            ⟨⟨_, Heap.get?_push_size _ rfl, rfl, rfl⟩, (tl1.push _)⟩ (fun b o e => Heap.get?_push_of_some _ (Heap.get?_push_of_some _ e)) ⟨[], #[], 0, _, setTR_fresh (Heap.get?_push_of_some _ hS), Got.zero ks⟩ ?_
          intro s' L es ep t hm hS' g' kp
          obtain ⟨h', g2, d', tk', os'⟩ := s'
          have eg : g2 = s.gens := hm.gens
          have ed : d' = s.drawn := hm.drawn
          have eo : os' = s.os := hm.os
          subst eg; subst ed; subst eo
          show wpAny _ _ _ _ _ _
          refine wpAny_pure (show wpAny _ _ (ret Value.none) _ _ _ from ?_)
          rw [size] at g'
          exact wpAny_pure ⟨rfl, h', tk', L, es, ep, t, rfl, hS', g', kp⟩
        · cases r2 with
          | error e => exact hr2
          | ok fl2 =>
            cases fl2 with
            | ret r =>
              obtain ⟨rfl, h', tk, L, es, ep, t, rfl, hS', g', k'⟩ := hr2
              repeat (any_goals (first | assumption | wp_step))
              exact fin _ _ _ _ _ _ hS' g' k'
            | _ => exact hr2.elim
      | _ => exact hr.elim)⟩
end
section
variable {X : Cx}
/-- len(set(t)), t a tuple of tuples of ints -/
def tLenSUU (K : PySem.W.Frag) (ta : TE) : TE := fun σ H Q => ta σ H fun x H1 => ∃ (l : Addr) (ks : List (Addr × List Int)), x = V.ref l ∧ SqT K H1 l (ks.map fun p => V.ref p.1) ∧ (∀ p ∈ ks, SqT K H1 p.1 (p.2.map V.int)) ∧ ks.length < 64 ∧
  ∀ n : Nat, (n = ks.length ↔ (ks.map (·.2)).Nodup) → Q (.int n) H1
theorem pe_lenSUU {a : Expr} {ta : TE} {p p2 q pos : Pos} (hc : X.calm = true) (hu : X.A.units + 64 < cLine) (hg : Gl X "len") (hm : X.mg "len" = none) (hg2 : Gl X "set") (hm2 : X.mg "set" = none) (ha : PE X a ta)
    (na : starEach [a] X.env = (false, eval a X.env) :: starEach [] X.env := by rfl) : PE X (.Call (.Name "len" p) [.Call (.Name "set" p2) [a] [] q] [] pos) (tLenSUU X.K ta) := by
  refine ⟨fun pins s σ H Q I h => Call_ (ld_blt I hg hm PySem.boot_len (PyProof.Rows.callWith_builtin1 (PyProof.Rows.args_cons (Call_ (ld_blt I hg2 hm2 PyProof.Rows.boot_set ?_)) rfl) rfl rfl))⟩
  refine PyProof.Rows.callWith_type1 (PyProof.Rows.args_cons (thn (ha.run pins s σ H _ I h) fun v s1 hh => PyProof.Rows.args_nil ?_) na) na rfl
  obtain ⟨x, H1, I1, r1, l, ks, rfl, hq, hk, few, q1⟩ := hh
  cases r1
  obtain ⟨its, r, pl, hz⟩ := I1.tuple hq
  refine set_of_tup2 (P := X.prog) (w := X.w) ks (I1.ok.hd hc) pl (by simpa using refs_of_vals r) (fun p hp => I1.isT (hk p hp)) few (by omega) fun h' tk L es ep t R g k => PyProof.Rows.args_nil ?_
  have I2 : Inv X pins σ H1 { s1 with heap := h', toks := tk } := I1.kept fun b o e => k b o e
  have hes : es.size = L.length := R.size (s := { s1 with heap := h', toks := tk })
  have hf := R.fits (s := { s1 with heap := h', toks := tk })
  obtain ⟨o, ho, hex, hd⟩ := R.ob
  refine call_len_set (s := { s1 with heap := h', toks := tk }) ho hex hd hf (by have := R.few; omega) ⟨.int es.size, H1, I2.tok _, ⟨_, rfl⟩, q1 es.size ?_⟩
  have e1 : (L.map (·.2)).length = es.size := by simp [hes]
  have e2 : (ks.map (·.2)).length = ks.length := by simp
  rw [← e1, ← e2]
  refine nd_iff R.nd fun k => ⟨fun z => ?_, fun z => ?_⟩
  · obtain ⟨p, hp, rfl⟩ := List.mem_map.mp z
    exact List.mem_map.mpr ⟨p, List.mem_of_mem_take (g.sub p hp), rfl⟩
  · obtain ⟨p, hp, rfl⟩ := List.mem_map.mp z
    exact g.all p (by rw [List.take_length]; exact hp)
end
end Wk

set_option Elab.async false
set_option linter.all false
set_option maxRecDepth 100000
set_option maxHeartbeats 4000000
namespace Wk
open PySem PySem.Spec PyProof.Rows L2 Evl
/-- the walk of a tuple's iterator under an enumerate -/
abbrev itO (l : Addr) : Obj := { cls := .type "tuple_iterator", data := .fields #[.ref l, .int 0 0] }
abbrev enO (it : Addr) : Obj := { cls := .type "enumerate", data := .fields #[.none, .bool false, .ref it, rawInt 0, .none, .none] }
theorem enumNewT (l : Addr) (its : Array Value) (n : Nat) (od : Option Addr) (sl : Array (Option Value)) :
    Meets (Builtin.«enumerate.__new__» ⟨[.type "enumerate", .ref l], []⟩) (fun _ R s => s.heap.get? l = some { cls := .type "tuple", dict := od, data := .seq its n, slots := sl } ∧
      R (.ok (.ret (.ref (s.heap.push (itO l)).objs.size))) { s with heap := (s.heap.push (itO l)).push (enO s.heap.objs.size) }) :=
  .of_wp fun prog w A R s h => by
    obtain ⟨hp, g, d, tk, os⟩ := s; obtain ⟨hl, h⟩ := h
    have su := sub_enumerate
    have tl : Heap.IsTuple (Shared.heap ⟨hp, g, d, tk, os⟩) l its := ⟨_, hl, rfl, n, rfl⟩
    wp_walk using wpAny_loadPart' hl
    refine wpAny_stack_any fun st => wpAny_pure ?_
    split
    · rename_i c _ _ _ _ _
      cases (c == Value.type "enumerate") <;> (wp_walk using wpAny_loadPart' hl, wpAny_pyIter_tuple tl; exact ⟨_, rfl, h⟩)
    · wp_walk using wpAny_loadPart' hl, wpAny_pyIter_tuple tl
      exact ⟨_, rfl, h⟩
section
variable {prog : Program} {w : World} {A : Around} {E : Value → Shared → Prop} {s : Shared}
theorem enumT_call {l : Addr} {its : Array Value} {Q : Value → Shared → Prop} (tl : s.heap.IsTuple l its)
    (h : ∀ h', IsEnum h' (s.heap.objs.size + 1) s.heap.objs.size 0 .none → h'.IsTupleIter s.heap.objs.size l 0 → h'.objs.size = s.heap.objs.size + 2 → (∀ b o, s.heap.get? b = some o → h'.get? b = some o) → Q (.ref (s.heap.objs.size + 1)) { s with heap := h' }) :
    wpAny (model prog w) A (call (.type "enumerate") [.ref l]) Q E s := by
  obtain ⟨⟨c, od, dt, sl⟩, hl, hc, n, hd⟩ := tl
  replace hc : c = .type "tuple" := hc
  replace hd : dt = .seq its n := hd
  subst hc hd
  refine callType_new F.called_enumerate (by decide) (F.typeCall_enumerate_1 _) (F.newCall_enumerate_1 _) (fun ob => F.args_object_init_2 ob _) F.entry_enumerate_new (enumNewT l its n od sl) ⟨hl, ?_⟩
  have hz : (s.heap.push (itO l)).objs.size = s.heap.objs.size + 1 := Heap.size_push ..
  show _ ∧ _
  rw [hz]
  have he : IsEnum ((s.heap.push (itO l)).push (enO s.heap.objs.size)) (s.heap.objs.size + 1) s.heap.objs.size 0 .none := by
    have q := Heap.get?_push_size (s.heap.push (itO l)) (o := enO s.heap.objs.size) rfl
    rw [hz] at q; exact q
  exact ⟨⟨_, he, rfl⟩, h _ he ⟨_, Heap.get?_push_of_some _ (Heap.get?_push_size _ rfl), rfl, rfl⟩ (by rw [Heap.size_push, hz]) fun b o x => Heap.get?_push_of_some _ (Heap.get?_push_of_some _ x)⟩
end
/-- the tuple at a, each item in a new pair with its place -/
def IteT (K : PySem.W.Frag) (a : Addr) : It :=
  ⟨fun i H => ∃ (xs : List V) (x : V), SqT K H a xs ∧ xs[i]? = some x, fun i H v H' => ∃ T x, v = .ref T ∧ H T = none ∧ H' = upd H T (.tup [.int (i : Nat), x]) ∧ ∀ xs, SqT K H a xs → xs[i]? = some x, fun i H => ∃ xs : List V, SqT K H a xs ∧ xs.length = i⟩
theorem turn_enumT {P : Program} {w : World} {K : PySem.W.Frag} {elts : List Expr} {kk : Nat} {tpos : Pos} (a e it : Addr) :
    Turn P w K (.Tuple elts kk tpos) (IteT K a) [e, it] e (fun i h => (∃ old, IsEnum h e it ((i : Nat) : Int) old) ∧ h.IsTupleIter it a i ∧ e ≠ it) where
  mem := List.mem_cons_self
  obj := fun i h st b hb => by
    obtain ⟨⟨old, he⟩, ⟨o, ho, hc, hd⟩, _⟩ := st
    rcases List.mem_cons.mp hb with z | z
    · rw [z]; exact ⟨_, he, fun v q => nomatch q⟩
    · rw [List.mem_singleton.mp z]; exact ⟨o, ho, fun v q => by rw [hd] at q; cases q⟩
  keep := fun i h h' st k => by
    obtain ⟨⟨old, he⟩, ⟨o, ho, r⟩, hne⟩ := st
    exact ⟨⟨old, k e (by simp) _ he⟩, ⟨o, k it (by simp) o ho, r⟩, hne⟩
  item := by
    intro X hP hw hK hc i pins s σ H E I hf st hg
    subst hP hw hK
    obtain ⟨⟨old, he⟩, hit, hne⟩ := st
    obtain ⟨xs, x, hq, hx⟩ := hg
    obtain ⟨its, rv, p, hz⟩ := I.tuple hq
    obtain ⟨u, hu, ru⟩ := rv.get hx
    have el : e < s.heap.objs.size := Heap.lt_size he
    have il : it < s.heap.objs.size := by obtain ⟨_, q, _⟩ := hit; exact Heap.lt_size q
    have nai : a ≠ it := fun z => by
      obtain ⟨o, ho, oc, _⟩ := p
      obtain ⟨o2, ho2, oc2, _⟩ := hit
      rw [z, ho2] at ho
      cases ho
      rw [oc2] at oc
      injection oc with q
      exact absurd q (by decide)
    have nae : e ≠ a := fun z => by
      obtain ⟨o, ho, oc, _⟩ := p
      have he2 := he
      unfold IsEnum at he2
      rw [z, ho] at he2
      cases he2
      injection oc with q
      exact absurd q (by decide)
    have hi : i < its.toArray.size := by
      have q := (List.getElem?_eq_some_iff.mp hu).1
      simpa using q
    refine wpAny_pyNext_enum_itemD (Draws.tuple (by simpa using I.ok.hd hc) it a nai its.toArray) he ⟨hit, p⟩ hi hne (by simp [hne, nae]) fun y h' tk hy ho hst hT hsz hk => ?_
    have ey : y = u := by
      have q : its.toArray[i]? = some y := hy
      rw [List.getElem?_toArray, hu] at q
      exact (Option.some.inj q).symm
    subst ey
    refine ⟨_, rfl, wpAny_letOwnedTupleGo_enum (s := { s with heap := h', toks := tk + 1 }) ho fun h2 he' sb => ?_⟩
    have hT2 : h2.get? s.heap.objs.size = some { cls := .type "tuple", data := .seq #[.int i tk, y] } := (sb.2 _ (Nat.ne_of_gt el)).trans hT
    have nw : ObjOk X.prog X.w (upd H s.heap.objs.size (.tup [.int (i : Nat), x])) h2 s.heap.objs.size (.tup [.int (i : Nat), x]) := ⟨by show 2 ≤ sizeLine; decide, [.int i tk, y], .cons ⟨_, rfl⟩ (.cons ru .nil), ⟨_, hT2, rfl, _, rfl⟩⟩
    have I1 : Inv X pins σ (upd H s.heap.objs.size (.tup [.int (i : Nat), x])) { s with heap := h2, toks := tk + 1 } := I.turnedNew (ch := [e, it]) (fun b ob hb q => by
        have b1 : b ≠ e := fun z => hb (by simp [z])
        have b2 : b ≠ it := fun z => hb (by simp [z])
        exact (sb.2 b b1).trans (hk b ob b1 b2 q)) hf (Nat.le_refl _) nw
    refine ⟨.ref s.heap.objs.size, _, I1, rfl, ⟨_, x, rfl, I.hok.fresh (Nat.le_refl _), rfl, fun ys hy => by rw [I.tuple_inj hy hq]; exact hx⟩, ⟨⟨y, ?_⟩, ?_, hne⟩, fun b hb => ?_⟩
    · rw [show ((i + 1 : Nat) : Int) = (i : Int) + 1 by omega]; exact he'
    · obtain ⟨o, ho2, r2⟩ := hst.1
      exact ⟨o, (sb.2 it (Ne.symm hne)).trans ho2, r2⟩
    · have hb2 : b < s.heap.objs.size := by
        rcases List.mem_cons.mp hb with z | z
        · rw [z]; exact el
        · rw [List.mem_singleton.mp z]; exact il
      rw [upd_ne (Nat.ne_of_lt hb2)]
      exact (hf b hb).1
  done := by
    intro X hP hw hK hc i pins s σ H E I hf st hg
    subst hP hw hK
    obtain ⟨⟨old, he⟩, hit, hne⟩ := st
    obtain ⟨xs, hq, hx⟩ := hg
    obtain ⟨its, rv, p, hz⟩ := I.tuple hq
    obtain ⟨f0, f1, f2, f3, f4, f5⟩ := hf it (by simp)
    have hl := rv.length
    have ei : i = its.toArray.size := by simp; omega
    have nai : a ≠ it := fun z => by
      obtain ⟨o, ho, oc, _⟩ := p
      obtain ⟨o2, ho2, oc2, _⟩ := hit
      rw [z, ho2] at ho
      cases ho
      rw [oc2] at oc
      injection oc with q
      exact absurd q (by decide)
    subst ei
    exact wpAny_pyNext_enum_endD (Draws.tuple (by simpa using I.ok.hd hc) it a nai its.toArray) he ⟨hit, p⟩ fun h' eb => ⟨rfl, I.turned (t' := s.toks) (fun b o hb q => eb b o hb q) f0 f1 f3 f4 f5⟩
  self := fun A i s Q E st h => let ⟨⟨_, he⟩, _⟩ := st; wpAny_pyIter_enum he h

def iEnumT (K : PySem.W.Frag) (ta : TA) : TI := fun σ H R => ta σ H fun vs H1 => ∃ a xs, vs = [.ref a] ∧ SqT K H1 a xs ∧ R (IteT K a) H1
/-- for i, x in enumerate(t), t a tuple -/
theorem pi_enumT {X : Cx} {e : Expr} {ta : TA} {p pos tpos : Pos} {elts : List Expr} {kk : Nat} (hg : Gl X "enumerate") (hm : X.mg "enumerate" = none) (ha : PA X [e] ta) (hs : starEach [e] X.env = [(false, eval e X.env)] := by rfl) :
    PI X (.Tuple elts kk tpos) (.Call (.Name "enumerate" p) [e] [] pos) (iEnumT X.K ta) := by
  refine ⟨fun pins s σ H R I h => Call_ (ld_blt I hg hm boot_enumerate (PyProof.Rows.callWith_type1 (thn (ha.run pos pins s σ H _ I h) fun us s1 hh => ?_) hs rfl))⟩
  obtain ⟨vs, H1, I1, r1, a, xs, rfl, hq, q⟩ := hh
  cases r1 with
  | cons r rr =>
    cases rr
    cases r
    obtain ⟨its, rv, pt, hz⟩ := I1.tuple hq
    refine enumT_call pt fun h' he hit hsz hk => wpAny_pyIter_enum he ?_
    refine ⟨s1.heap.objs.size + 1, [s1.heap.objs.size + 1, s1.heap.objs.size], _, _, H1, rfl, I1.kept (t' := s1.toks) hk, turn_enumT a (s1.heap.objs.size + 1) s1.heap.objs.size, ⟨⟨.none, he⟩, hit, Nat.succ_ne_self _⟩, fun b hb => ?_, q⟩
    have hle : s1.heap.objs.size ≤ b := by
      rcases List.mem_cons.mp hb with z | z
      · rw [z]; exact Nat.le_add_right _ _
      · rw [List.mem_singleton.mp z]; exact Nat.le_refl _
    exact I1.fpOk hle (I1.hok.fresh hle)
theorem walk_enumT {K : PySem.W.Frag} {a : Addr} {xs : List V} : Walk (IteT K a) xs.length (fun H => SqT K H a xs) (YPair (fun i => some (.int (i : Nat))) (fun i => xs[i]?)) := by
  refine ⟨fun i _ hi q => ⟨xs, xs[i], q, by simp [hi]⟩, fun _ q => ⟨xs, q, rfl⟩, fun i H v H' _ q y => ?_⟩
  obtain ⟨T, x, h1, h2, h3, h4⟩ := y
  exact ⟨T, .int (i : Nat), x, h1, h2, h3, rfl, h4 xs q⟩
section
variable {K : PySem.W.Frag} {σ : L2.St} {H : Hp} {t : TT} {te : TE}
/-- [e for x in t], t a tuple -/
theorem el_lcT {a : Addr} {xs : List V} {tl : TE} {j : Nat} {vs : List Nat} (f : Nat → Bool) (v : Nat → V) (h : Ev tl σ H (.ref a)) (hx : SqT K H a xs) (hz : xs.length ≤ 40000) (hw : ∀ x, wipe ((wipe σ vs).set j (some x)) vs = wipe σ vs)
    (ht : ∀ (i : Nat) (x : V) H1, Ex H H1 → xs[i]? = some x → EvT t ((wipe σ vs).set j (some x)) H1 (f i)) (he : ∀ (i : Nat) (x : V) H1, Ex H H1 → xs[i]? = some x → f i = true → Ev te ((wipe σ vs).set j (some x)) H1 (v i)) :
    EvL (tLc (iTup K tl) (gName j) t te vs) σ H (given xs.length f v) := fun H0 e Q q => h H0 e _ fun H1 e1 => ⟨a, rfl, ⟨xs, ex_t (e.trans e1) hx⟩, fun Dl hD =>
  lc_it (walk_tup (K := K) (a := a) (xs := xs)) (Cw H1 f v Dl) ⟨hD, Ex.new hD, upd_same⟩ (fun i H' _ p => ex_t ((e.trans e1).trans p.2.1) hx)
    (fun i x H' H2 hi p y => by
      obtain ⟨rfl, hxi⟩ := y
      exact ⟨hw x, cw_turn p (by omega) (ht i x H1 (e.trans e1) hxi) (fun hf => he i x H1 (e.trans e1) hxi hf)⟩)
    (fun H' p => q Dl H' (fresh_back e1 p.1) (e1.trans p.2.1) p.2.2)⟩
theorem given_all (n : Nat) (v : Nat → V) : given n (fun _ => true) v = (List.range n).map v := by
  unfold given
  rw [List.filter_eq_self.mpr (fun _ _ => rfl)]
theorem et_yes : EvT tYes σ H true := fun H1 _ _ q => q H1 (Ex.refl H1)
/-- all([..]) of flags -/
theorem ev_allL {bs : List Bool} {ta : TE} (h : EvL ta σ H (bs.map V.bl)) : Ev (tCB (rAll K) (tCons ta tNil)) σ H (.bl (bs.all id)) := fun H1 e Q q =>
  h H1 e _ fun p H2 _ e2 hp => ⟨p, bs, rfl, sq_of hp, q H2 e2⟩
/-- all([test(x) for x in t]) -/
theorem ev_allT {a : Addr} {xs : List V} {tl : TE} {j : Nat} {vs : List Nat} (g : Nat → Bool) (h : Ev tl σ H (.ref a)) (hx : SqT K H a xs) (hz : xs.length ≤ 40000) (hw : ∀ x, wipe ((wipe σ vs).set j (some x)) vs = wipe σ vs)
    (he : ∀ (i : Nat) (x : V) H1, Ex H H1 → xs[i]? = some x → Ev te ((wipe σ vs).set j (some x)) H1 (.bl (g i))) :
    Ev (tCB (rAll K) (tCons (tLc (iTup K tl) (gName j) tYes te vs) tNil)) σ H (.bl (((List.range xs.length).map g).all id)) :=
  ev_allL (by
    have q := el_lcT (K := K) (te := te) (fun _ => true) (fun i => .bl (g i)) h hx hz hw (fun _ _ _ _ _ => et_yes) fun i x H1 e hxi _ => he i x H1 e hxi
    rw [given_all] at q
    rw [List.map_map]
    exact q)
end
section
variable {K : PySem.W.Frag} {σ : L2.St} {H : Hp} {ta tb te : TE}
theorem ev_lenT {p : Addr} {xs : List V} (ha : Ev ta σ H (.ref p)) (h : SqT K H p xs) : Ev (tCB (rLenS K) (tCons ta tNil)) σ H (.int (xs.length : Int)) := fun H1 e Q q =>
  ha H1 e _ fun H2 e2 => ⟨p, xs, rfl, Or.inr (ex_t (e.trans e2) h), q H2 e2⟩
theorem all_get {α : Type} (ds : List α) (p : α → Bool) : ((List.range ds.length).map (fun i => ((ds[i]?).map p).getD false)).all id = ds.all p := by
  have e : (List.range ds.length).map (fun i => ((ds[i]?).map p).getD false) = ds.map p := by
    apply List.ext_getElem
    · simp
    · intro i h1 h2
      have hi : i < ds.length := by simpa using h1
      simp [hi]
  rw [e, List.all_map]
  rfl
end
section
variable {K : PySem.W.Frag} {σ : L2.St} {H : Hp} {g : TG} {tu tz : TS} {D : Ends}
/-- for i, x in enumerate(t) -/
theorem s_forEn {a : Addr} {xs : List V} {tl : TE} (h : Ev tl σ H (.ref a)) (hx : SqT K H a xs) (Pv : Nat → L2.St → Hp → Prop) (h0 : ∀ H1, Ex H H1 → Pv 0 σ H1) (hl : ∀ i σ' H', i ≤ xs.length → Pv i σ' H' → SqT K H' a xs)
    (hs : ∀ i y T σ' H', xs[i]? = some y → Pv i σ' H' → H' T = none → g (.ref T) σ' (upd H' T (.tup [.int (i : Nat), y])) fun σ2 H2 => tu { D with nx := Pv (i + 1), ct := Pv (i + 1), bk := D.nx } σ2 H2) (hd : ∀ σ' H', Pv xs.length σ' H' → D.nx σ' H') : tFor (iEnumT K (tCons tl tNil)) g tu D σ H :=
  h H (Ex.refl H) _ fun H1 e => ⟨a, xs, rfl, ex_t e hx, for_it (walk_enumT (K := K) (a := a) (xs := xs)) Pv (h0 H1 e) hl (fun i x σ' H2 H3 hi p y => by
    obtain ⟨T, u, y, rfl, hT, rfl, hu, hy⟩ := y
    cases hu
    exact hs i y T σ' H2 hy p hT) hd⟩
theorem q_forEn {a : Addr} {xs : List V} {tl : TE} (h : Ev tl σ H (.ref a)) (hx : SqT K H a xs) (Pv : Nat → L2.St → Hp → Prop) (h0 : ∀ H1, Ex H H1 → Pv 0 σ H1) (hl : ∀ i σ' H', i ≤ xs.length → Pv i σ' H' → SqT K H' a xs)
    (hs : ∀ i y T σ' H', xs[i]? = some y → Pv i σ' H' → H' T = none → g (.ref T) σ' (upd H' T (.tup [.int (i : Nat), y])) fun σ2 H2 => tu { D with nx := Pv (i + 1), ct := Pv (i + 1), bk := tz D } σ2 H2) (hd : ∀ σ' H', Pv xs.length σ' H' → tz D σ' H') : tSeq (tFor (iEnumT K (tCons tl tNil)) g tu) tz D σ H :=
  s_forEn (D := { D with nx := tz D }) h hx Pv h0 hl hs hd
end
end Wk

set_option Elab.async false
set_option linter.all false
set_option maxRecDepth 100000
set_option maxHeartbeats 2000000
namespace Wk
open PySem PySem.Spec PyProof.Rows L2 Evl
def top (i : Nat) : Stmt := PySem.Challenge.pw_wishreels_k79_areas_and_errors.main.body.getD i (.Pass ⟨0, 0, 0, 0⟩)
abbrev FnP (K : PySem.W.Frag) (x : Str) (st : Stmt) (f : Addr) (fd : FuncData) : Prop := FunD K x x (defArgs st) (defBody st) (defScope st) [] [] f fd
/-- names that are the built-in ones -/
structure Bl (mg : Str → Option Value) : Prop where
  isi : mg "isinstance" = none
  len : mg "len" = none
  tuple : mg "tuple" = none
  list : mg "list" = none
  int : mg "int" = none
  bool : mg "bool" = none
  str : mg "str" = none
  all : mg "all" = none
  set : mg "set" = none
  enum : mg "enumerate" = none
  range : mg "range" = none
  abs : mg "abs" = none
  min : mg "min" = none
  repr : mg "repr" = none
/-- a pure promise: a plain value, what stood stays -/
def spP (R : Hp → List V → V → Prop) : Sp := fun vs H Q _ => ∃ z, R H vs z ∧ ∀ H', Ex H H' → Q z H'
theorem spP_v {R : Hp → List V → V → Prop} {vs : List V} {H : Hp} {z : V} (h : ∀ H1, Ex H H1 → R H1 vs z) : SpV (spP R) vs H z := fun H1 e Q q E => ⟨z, h H1 e, fun H2 e2 => q H2 e2⟩
def isI : PyData → Bool
  | .int _ => true
  | _ => false
/-- what a datum is worth as an int -/
def valI : PyData → Int
  | .int i => i
  | _ => 0
theorem isI_eq {d : PyData} (h : isI d = true) : d = .int (valI d) := by
  cases d <;> first | rfl | (simp [isI] at h)
theorem kit_int (d : PyData) : ∃ b, kitB (tyN d) "int" = some b ∧ (b = true → ∃ c, kitB (tyN d) "bool" = some c ∧ (b && !c) = isI d) ∧ (b = false → isI d = false) := by
  cases d with
  | none => exact ⟨false, show kitB "NoneType" "int" = some false by decide +kernel, fun h => (by cases h), fun _ => rfl⟩
  | bool b => exact ⟨true, show kitB "bool" "int" = some true by decide +kernel, fun _ => ⟨true, show kitB "bool" "bool" = some true by decide +kernel, rfl⟩, fun h => (by cases h)⟩
  | int i => exact ⟨true, show kitB "int" "int" = some true by decide +kernel, fun _ => ⟨false, show kitB "int" "bool" = some false by decide +kernel, rfl⟩, fun h => (by cases h)⟩
  | str z => exact ⟨false, show kitB "str" "int" = some false by decide +kernel, fun h => (by cases h), fun _ => rfl⟩
  | list ds => exact ⟨false, show kitB "list" "int" = some false by decide +kernel, fun h => (by cases h), fun _ => rfl⟩
  | tuple ds => exact ⟨false, show kitB "tuple" "int" = some false by decide +kernel, fun h => (by cases h), fun _ => rfl⟩
  | dict ds => exact ⟨false, show kitB "dict" "int" = some false by decide +kernel, fun h => (by cases h), fun _ => rfl⟩
def isTu : PyData → Bool
  | .tuple _ => true
  | _ => false
def itemsT : PyData → List PyData
  | .tuple ds => ds
  | _ => []
theorem kit_tup (d : PyData) : kitB (tyN d) "tuple" = some (isTu d) := by
  cases d with
  | none => exact show kitB "NoneType" "tuple" = some false by decide +kernel
  | bool b => exact show kitB "bool" "tuple" = some false by decide +kernel
  | int i => exact show kitB "int" "tuple" = some false by decide +kernel
  | str z => exact show kitB "str" "tuple" = some false by decide +kernel
  | list ds => exact show kitB "list" "tuple" = some false by decide +kernel
  | tuple ds => exact show kitB "tuple" "tuple" = some true by decide +kernel
  | dict ds => exact show kitB "dict" "tuple" = some false by decide +kernel
def isR (n : Int) (d : PyData) : Bool := isI d && (decide (0 ≤ valI d) && decide (valI d ≤ n - 1))
section
variable {P : Program} {w : World} {K : PySem.W.Frag} {mg : Str → Option Value} {base : Heap} {f : Addr} {fd : FuncData}
/-! is_integer, _law_is_int -/
abbrev spIsInt : Sp := spP fun H vs z => ∃ v d, vs = [v] ∧ Dq H v d ∧ z = .bl (isI d)
abbrev sIsInt : Stmt := top 8
theorem scIsInt : FnScope ["thing"] ["thing"] (defScope sIsInt) := ⟨rfl, rfl, rfl, by decide +kernel, rfl, by decide +kernel, by decide +kernel⟩
theorem ok_isInt (B : Bl mg) (F : FnP K "is_integer" sIsInt f fd) : FnOk P w K mg base CX0 1 f fd ["thing"] spIsInt := by
  refine F.ok scIsInt (fun vs H Q E h => ?_) (fun cdv A outer s H vs Q E hr h => ?_)
  · obtain ⟨z, ⟨v, d, rfl, _⟩, _⟩ := h
    rfl
  · obtain ⟨z, ⟨v, d, rfl, hd, rfl⟩, k⟩ := h
    refine ⟨_, pss_one (ps_ret (pe_and (pe_callB call_isi (by rfl) B.isi boot_isinstance (pa_cons (pv 0) (pa_cons (pe_bltn (v := .ty "int") (by rfl) B.int PyProof.Rows.boot_int rfl) pa_nil)))
      (pe_one (pe_not (pe_callB call_isi (by rfl) B.isi boot_isinstance (pa_cons (pv 0) (pa_cons (pe_bltn (v := .ty "bool") (by rfl) B.bool PyProof.Rows.boot_bool rfl) pa_nil))))))), ?_⟩
    obtain ⟨b, hb, h1, h2⟩ := kit_int d
    have v0 : Ev (tVar 0) (start ["thing"] [v]) H v := ev_var rfl
    cases b with
    | true =>
      obtain ⟨c, hc, e⟩ := h1 rfl
      rw [← e] at k
      exact s_ret (ev_andV (ev_isi v0 hd hb) fun _ => ev_notV (ev_isi v0 hd hc)) k
    | false =>
      rw [h2 rfl] at k
      exact s_ret (ev_andV (b := false) (ev_isi v0 hd hb) fun z => (by cases z)) k

/-! is_between, is_router -/
abbrev spBetween : Sp := spP fun H vs z => ∃ (a b : Int) (v : V) (d : PyData), vs = [.int a, .int b, v] ∧ Dq H v d ∧ z = .bl (isI d && (decide (a ≤ valI d) && decide (valI d ≤ b)))
abbrev sBetween : Stmt := top 9
theorem scBetween : FnScope ["least", "most", "thing"] ["least", "most", "thing"] (defScope sBetween) := ⟨rfl, rfl, rfl, by decide +kernel, rfl, by decide +kernel, by decide +kernel⟩
theorem ok_between (B : Bl mg) (C : Cal P w K mg base "is_integer" ["thing"] 1 spIsInt) (F : FnP K "is_between" sBetween f fd) : FnOk P w K mg base CX0 2 f fd ["least", "most", "thing"] spBetween := by
  refine F.ok scBetween (fun vs H Q E h => ?_) (fun cdv A outer s H vs Q E hr h => ?_)
  · obtain ⟨z, ⟨a, b, v, d, rfl, _⟩, _⟩ := h
    rfl
  · obtain ⟨z, ⟨a, b, v, d, rfl, hd, rfl⟩, k⟩ := h
    refine ⟨_, pss_one (ps_ret (pe_and (pe_cal C hr (by rfl) (pa_cons (pv 2) pa_nil)) (pe_one (pe_chain op_le op_le (pv 0) (pv 2) (pv 1))))), ?_⟩
    have v0 : Ev (tVar 0) (start ["least", "most", "thing"] [.int a, .int b, v]) H (.int a) := ev_var rfl
    have v1 : Ev (tVar 1) (start ["least", "most", "thing"] [.int a, .int b, v]) H (.int b) := ev_var rfl
    have v2 : Ev (tVar 2) (start ["least", "most", "thing"] [.int a, .int b, v]) H v := ev_var rfl
    refine s_ret (ev_andV (a := isI d) (ev_call (ea_cons v2 ea_nil) (spP_v fun H1 e => ⟨v, d, rfl, hd.mono e, rfl⟩)) fun hi => ?_) k
    rw [isI_eq hi] at hd
    cases hd
    exact ev_chain v0 v2 v1 rv_I0 rv_I0
abbrev spRouter : Sp := spP fun H vs z => ∃ (n : Int) (v : V) (d : PyData), vs = [.int n, v] ∧ Dq H v d ∧ z = .bl (isR n d)
abbrev sRouter : Stmt := top 11
theorem scRouter : FnScope ["size", "thing"] ["size", "thing"] (defScope sRouter) := ⟨rfl, rfl, rfl, by decide +kernel, rfl, by decide +kernel, by decide +kernel⟩
theorem ok_router (C : Cal P w K mg base "is_between" ["least", "most", "thing"] 2 spBetween) (F : FnP K "is_router" sRouter f fd) : FnOk P w K mg base CX0 3 f fd ["size", "thing"] spRouter := by
  refine F.ok scRouter (fun vs H Q E h => ?_) (fun cdv A outer s H vs Q E hr h => ?_)
  · obtain ⟨z, ⟨n, v, d, rfl, _⟩, _⟩ := h
    rfl
  · obtain ⟨z, ⟨n, v, d, rfl, hd, rfl⟩, k⟩ := h
    refine ⟨_, pss_one (ps_ret (pe_cal C hr (by rfl) (pa_cons pe_int (pa_cons (pe_op op_sub (pv 0) pe_int) (pa_cons (pv 1) pa_nil))))), ?_⟩
    exact s_ret (ev_call (ea_cons ev_c (ea_cons (ev_op (ev_var rfl) ev_c rv_I0) (ea_cons (ev_var rfl) ea_nil))) (spP_v fun H1 e => ⟨0, n - 1, v, d, rfl, hd.mono e, rfl⟩)) k
end
end Wk

set_option Elab.async false
set_option linter.all false
set_option maxRecDepth 100000
set_option maxHeartbeats 4000000
namespace Wk
open PySem PySem.Spec PyProof.Rows L2 Evl
/-! an object made, a method called, where what is raised is wished for at the caller's slots -/
section
variable {X : Cx} {CX : CXT} {k : Nat} {f C : Addr} {fd : FuncData} {ps : List Str} {sp : Sp} {W : L2.St → XK} {x m : Str} {p pos apos : Pos} {e o : Expr} {es : List Expr} {ta : TE} {t : TA}
def tMkAt (C : Addr) (sp : Sp) (W : L2.St → XK) (t : TA) : TE := fun σ H Q => t σ H fun vs H1 => ∀ x dx, H1 x = none → H1 dx = none → dx ≠ x → sp (.ref x :: vs) (upd (upd H1 dx (.own x)) x (.ins C dx [])) (fun v H2 => v = .non ∧ Q (.ref x) H2) (W σ)
theorem pe_mkAt (M : Mk X.K C f) (Fn : FnOk X.prog X.w X.K X.mg X.base CX k f fd ps sp) (hr : Room (k + 1) X.A) (hg : Gl X x) (hm : X.mg x = some (.ref C)) (hb : Binds X.K fd ps []) (hx : ∀ σ, PassesAt CX X σ (W σ)) (ha : PA X (e :: es) t)
    (hdb : (x == ("__debug__" : Str)) = false := by decide) (he : starEach (e :: es) X.env = (false, eval e X.env) :: starEach es X.env := by rfl) (hpl : (backTo pos (starEach es X.env)).any (·.1) = false := by rfl) :
    PE X (.Call (.Name x p) (e :: es) [] pos) (tMkAt C sp W t) := by
  refine ⟨fun pins s σ H Q I h => wpAny_Call_Name_kw (ld_glob I hg hm (PySem.W.callWith_K (h₀ := X.base) I.ok.mod.kin M.kp (thn (ha.run pos pins s σ H _ I h) fun us s1 hh => ?_) he hpl) hdb)⟩
  obtain ⟨vs, H1, I1, r, q⟩ := hh
  refine ⟨I1.kIn, ?_⟩
  have hq := q (s1.heap.objs.size + 1) s1.heap.objs.size (I1.hok.fresh (Nat.le_succ _)) (I1.hok.fresh (Nat.le_refl _)) (Nat.ne_of_lt (Nat.lt_succ_self _))
  have J := Inv.made (C := C) I1
  have rr : Vals (V.ref (s1.heap.objs.size + 1) :: vs) (Value.ref (s1.heap.objs.size + 1) :: us) := .cons rfl r
  have hl : (Value.ref (s1.heap.objs.size + 1) :: us).length = ps.length := rr.length.symm.trans (Fn.len _ _ _ _ hq)
  have bd := hb _ (Value.ref (s1.heap.objs.size + 1) :: us) J.kIn (by rw [List.append_nil]; exact hl)
  rw [List.append_nil] at bd
  refine wpAny_call (make_map (f := f) I1.kIn M.makes M.init (beq_iff_eq.mp M.fn) (codeAny_mono (Fn.run _ X.stack _ _ ⟨_, []⟩ _ _ _ (W σ) (hr.make C us []) (J.env0.make C us []) bd rr hq) fun r s' out => ?_))
  cases r with
  | error er => exact hx σ pins _ _ er s' J out
  | ok fl =>
    cases fl with
    | ret u =>
      obtain ⟨v, H', I3, rv, ev, q3⟩ := J.after out
      subst ev
      exact ⟨rv, ⟨V.ref (s1.heap.objs.size + 1), H', I3, rfl, q3⟩⟩
    | next => exact False.elim out
    | brk => exact False.elim out
    | cont => exact False.elim out
def tMeAt (C : Addr) (m : Str) (sp : Sp) (W : L2.St → XK) (ta : TE) (t : TA) : TE := fun σ H Q => ta σ H fun x H1 => ∃ a dx fs, x = .ref a ∧ H1 a = some (.ins C dx fs) ∧ fs.lookup m = none ∧ t σ H1 fun vs H2 => sp (x :: vs) H2 Q (W σ)
theorem pe_meAt {pl : Sem Bool} (ho : PE X o ta) (c : Cls X.K C) (hm : Meth X.K C m f) (Fn : FnOk X.prog X.w X.K X.mg X.base CX k f fd ps sp) (hr : Room k X.A) (hb : Binds X.K fd ps []) (hx : ∀ σ, PassesAt CX X σ (W σ)) (ha : PA X (e :: es) t)
    (hst : starEach (e :: es) X.env = (false, eval e X.env) :: starEach es X.env := by rfl) (hpl : (backTo pos (starEach es X.env)).any (·.1) = false := by rfl)
    (ht : eval (.Call (.Attribute o m apos) (e :: es) [] pos) X.env = (do
      let ov ← eval o X.env
      standAt apos.atName
      let (f, first) ← holding [ov] (getMethod ov m pl)
      callWith pos f first (backTo pos (starEach (e :: es) X.env)) (backToKw pos (keywordEach [] X.env))) := by rfl) :
    PE X (.Call (.Attribute o m apos) (e :: es) [] pos) (tMeAt C m sp W ta t) := by
  refine ⟨fun pins s σ H Q I h => PySem.W.methodCall_KW (pl := pl) (thn (ho.run pins s σ H _ I h) fun u s1 hh => ?_) ht⟩
  obtain ⟨x, H1, I1, rx, a, dx, fs, ex, ea, l, q⟩ := hh
  subst ex
  obtain rfl : u = Value.ref a := rx
  refine getmeth_ok I1 ea c hm l (PySem.W.callWith_K (first := [.ref a]) (h₀ := X.base) I.ok.mod.kin hm.kp (thn (ha.run pos pins s1 σ H1 _ I1 q) fun us s2 hh => ?_) hst hpl)
  obtain ⟨vs, H2, I2, r, q2⟩ := hh
  exact ⟨I2.kIn, run_fnS (us := .ref a :: us) (vs := .ref a :: vs) Fn hr hb (hx σ) I2 (.cons rfl r) q2⟩
end
/-! an own error with one field -/
/-- __init__ of such an error: self.router = router -/
def spXI (C : Addr) : Sp := fun vs H Q _ => ∃ (a : Addr) (y : V), vs = [.ref a, y] ∧ H a = some (exo a C none) ∧ ∀ dx, H dx = none → dx ≠ a → Q .non (upd (upd H dx (exd dx [("router", y)])) a (exo a C (some dx)))
/-- X(e) is made: where the error's dict is -/
theorem mk_err {C : Addr} {te : TE} {σ : L2.St} {H : Hp} {y : V} {W : XK} (h : Ev te σ H y) (k : ∀ d H', H d = none → Ex H H' → H' d = some (.xd [("router", y)]) → W (.ref C) (some d) H') : tMkO C (spXI C) [] (tCons te tNil) σ H W := by
  refine h H (Ex.refl H) _ fun H1 e => ⟨by show 1 ≤ 1000; decide, fun a ha => ?_⟩
  refine ⟨a, y, rfl, upd_same, fun dx hd hne => ⟨rfl, dx, [("router", y)], upd_same, by rw [upd_ne hne, upd_same], ?_, ?_⟩⟩
  · rw [upd_ne hne] at hd
    exact hd
  · have hd1 : H1 dx = none := by rw [upd_ne hne] at hd; exact hd
    refine k dx _ (fresh_back e hd1) (fun b o hb => ?_) upd_same
    have hb1 := e b o hb
    have nb : b ≠ dx := ne_of_none hb1 hd1
    have na : b ≠ a := ne_of_none hb1 ha
    rw [upd_ne nb, del_ne na, upd_ne na, upd_ne nb, upd_ne na]
    exact hb1
/-! parts of tuples -/
section
variable {K : PySem.W.Frag} {σ : L2.St} {H : Hp} {ta tb te : TE}
/-- what stands in a tuple (an old one or a new one) -/
def EvS (te : TE) (σ : L2.St) (H : Hp) (xs : List V) : Prop := ∀ H1, Ex H H1 → ∀ Q : VK, (∀ p H2, Ex H1 H2 → H2 p = some (.tup xs) → Q (.ref p) H2) → te σ H1 Q
theorem es_sl {a : Addr} {xs : List V} {tl th : TO} {lo hi : Option Int} (h : Ev te σ H (.ref a)) (h1 : EvO tl σ H lo) (h2 : EvO th σ H hi) (hs : H a = some (.tup xs)) : EvS (tSl (rSlA K) te tl th) σ H (cutV xs lo hi) := fun H1 e Q q =>
  h H1 e _ fun H2 e2 => h1 H2 (e.trans e2) _ fun H3 e3 => h2 H3 ((e.trans e2).trans e3) _ fun H4 e4 => by
    have hs4 := (((e.trans e2).trans e3).trans e4) _ _ hs
    refine ⟨a, xs, rfl, st_of hs4, fun hw => ?_, fun hw p hp => q p _ (((e2.trans e3).trans e4).trans (Ex.new hp)) upd_same⟩
    have ec : cutV xs lo hi = xs := by
      unfold cutV
      rw [hw.1, hw.2]
      simp
    rw [ec] at q
    exact q a H4 ((e2.trans e3).trans e4) hs4
theorem es_cat {xs ys : List V} (ha : EvS ta σ H xs) (hb : EvS tb σ H ys) (hz : xs.length + ys.length ≤ 100000) : EvS (tOp (rCatA K) ta tb) σ H (xs ++ ys) := fun H1 e Q q =>
  ha H1 e _ fun p H2 e2 hp => hb H2 (e.trans e2) _ fun p' H3 e3 hp' => by
    have hp3 := e3 _ _ hp
    refine ⟨p, p', xs, ys, rfl, rfl, st_of hp3, st_of hp', sz_of hz, fun hx => ?_, fun _ hy => ?_, fun _ _ r hr => q r _ ((e2.trans e3).trans (Ex.new hr)) upd_same⟩
    · rw [hx] at q
      exact q p' H3 (e2.trans e3) hp'
    · rw [hy, List.append_nil] at q
      exact q p H3 (e2.trans e3) hp3
theorem es_tup {t : TA} {xs : List V} (h : EvA t σ H xs) (hz : xs.length ≤ 100000) : EvS (tTup t) σ H xs := fun H1 e Q q => eu_tup h hz H1 e Q fun p H2 _ e2 hp => q p H2 e2 hp
theorem es_var {a : Addr} {xs : List V} (h : Ev te σ H (.ref a)) (hs : H a = some (.tup xs)) : EvS te σ H xs := fun H1 e Q q => h H1 e _ fun H2 e2 => q a H2 e2 ((e.trans e2) _ _ hs)
theorem es_mono {xs : List V} {H' : Hp} (e : Ex H H') (h : EvS te σ H xs) : EvS te σ H' xs := fun H1 e1 Q q => h H1 (e.trans e1) Q q
end
/-! x in t, t a tuple of data -/
section
variable {X : Cx}
def rInU (K : PySem.W.Frag) : R2 := fun x y H Q => ∃ d ds, Dp K H x d ∧ Dp K H y (.tuple ds) ∧ SeqAt.shaped d = true ∧ PyData.canLayAll0 ds = true ∧ Q (.bl (ds.any fun z => PyData.eqv z d)) H
def rNotInU (K : PySem.W.Frag) : R2 := fun x y H Q => ∃ d ds, Dp K H x d ∧ Dp K H y (.tuple ds) ∧ SeqAt.shaped d = true ∧ PyData.canLayAll0 ds = true ∧ Q (.bl (!ds.any fun z => PyData.eqv z d)) H
theorem op_inU (hu : X.A.units + 66 < cLine) : OpR X (compareOp .In) (rInU X.K) := fun pins s σ H x y v u Q I rx ry h => by
  obtain ⟨d, ds, hd, he, sd, se, q⟩ := h
  obtain ⟨as, r1⟩ := Dp.reads I d x v hd rx
  obtain ⟨bs, r2⟩ := Dp.reads I (.tuple ds) y u he ry
  have hdp := SeqAt.depth_of_shaped sd
  exact SeqAt.in_tuple_reads r2 r1 se (SeqAt.canLay_of_shaped sd) (by have := Nat.min_le_right (PyData.depthAll ds) d.depth; omega) ⟨.bl _, H, I, rfl, q⟩
theorem op_notInU (hu : X.A.units + 66 < cLine) : OpR X (compareOp .NotIn) (rNotInU X.K) := fun pins s σ H x y v u Q I rx ry h => by
  obtain ⟨d, ds, hd, he, sd, se, q⟩ := h
  obtain ⟨as, r1⟩ := Dp.reads I d x v hd rx
  obtain ⟨bs, r2⟩ := Dp.reads I (.tuple ds) y u he ry
  have hdp := SeqAt.depth_of_shaped sd
  exact SeqAt.notIn_tuple_reads r2 r1 se (SeqAt.canLay_of_shaped sd) (by have := Nat.min_le_right (PyData.depthAll ds) d.depth; omega) ⟨.bl _, H, I, rfl, q⟩
end
end Wk

set_option Elab.async false
set_option linter.all false
set_option maxRecDepth 100000
set_option maxHeartbeats 4000000
namespace Wk
open PySem PySem.Spec PyProof.Rows L2 Evl SeqAt
/-! == of a sequence and the empty one: by the lengths alone -/
section
variable {X : Cx}
def rEqEL (K : PySem.W.Frag) : R2 := fun x y H Q => ∃ a b xs, x = .ref a ∧ y = .ref b ∧ SqL K H a xs ∧ SqL K H b [] ∧ Q (.bl xs.isEmpty) H
theorem op_eqEL (hu : X.A.units < cLine) : OpR X (compareOp .Eq) (rEqEL X.K) := fun pins s σ H x y v u Q I rx ry h => by
  obtain ⟨a, b, xs, rfl, rfl, ha, hb, q⟩ := h
  cases rx
  cases ry
  obtain ⟨its, r1, p1, _⟩ := I.list ha
  obtain ⟨its2, r2, p2, _⟩ := I.list hb
  cases r2
  cases r1 with
  | nil => exact eq_listAt (e := fun _ => true) p1.isList p2.isList rfl hu (fun j h1 _ => absurd h1 (by simp)) ⟨.bl true, H, I, rfl, q⟩
  | cons r rr => exact eq_list_lengthsAt p1.isList p2.isList (by simp) hu ⟨.bl false, H, I, rfl, q⟩
def rEqEU (K : PySem.W.Frag) : R2 := fun x y H Q => ∃ a b xs, x = .ref a ∧ y = .ref b ∧ SqT K H a xs ∧ SqT K H b [] ∧ Q (.bl xs.isEmpty) H
theorem op_eqEU (hu : X.A.units < cLine) : OpR X (compareOp .Eq) (rEqEU X.K) := fun pins s σ H x y v u Q I rx ry h => by
  obtain ⟨a, b, xs, rfl, rfl, ha, hb, q⟩ := h
  cases rx
  cases ry
  obtain ⟨its, r1, p1, _⟩ := I.tuple ha
  obtain ⟨its2, r2, p2, _⟩ := I.tuple hb
  cases r2
  refine eq_tupleAt (e := fun _ => true) p1 p2 hu (fun j _ h2 => absurd h2 (by simp)) ⟨.bl xs.isEmpty, H, I, ?_, q⟩
  cases r1 <;> rfl
def rNeEU (K : PySem.W.Frag) : R2 := fun x y H Q => ∃ a b xs, x = .ref a ∧ y = .ref b ∧ SqT K H a xs ∧ SqT K H b [] ∧ Q (.bl (!xs.isEmpty)) H
theorem op_neEU (hu : X.A.units < cLine) : OpR X (compareOp .NotEq) (rNeEU X.K) := fun pins s σ H x y v u Q I rx ry h => by
  obtain ⟨a, b, xs, rfl, rfl, ha, hb, q⟩ := h
  cases rx
  cases ry
  obtain ⟨its, r1, p1, _⟩ := I.tuple ha
  obtain ⟨its2, r2, p2, _⟩ := I.tuple hb
  cases r2
  refine RcNeAt.tuples (e := fun _ => true) p1 p2 hu (fun j _ h2 => absurd h2 (by simp)) X.prog X.w _ _ ⟨.bl (!xs.isEmpty), H, I, ?_, q⟩
  cases r1 <;> rfl
end
/-! a dict and a tuple are unlike -/
theorem dictEqTup (l b : Addr) (o : Obj) (hoc : o.cls = .type "dict") (its : Array Value) (n : Nat) (dd : Option Addr) (sl : Array (Option Value)) :
    Meets (Builtin.«dict.__eq__» ⟨[.ref l, .ref b], []⟩) (fun _ R s => s.heap.get? l = some o ∧ s.heap.get? b = some { cls := .type "tuple", dict := dd, data := .seq its n, slots := sl } ∧ R (.ok (.ret .notImplemented)) s) :=
  .of_wp fun prog w A R s h => by
    obtain ⟨hp, g, d, tk, os⟩ := s
    obtain ⟨hl, hb, h⟩ := h
    obtain ⟨oc, od, dt, os2⟩ := o
    simp only at hoc
    subst hoc
    have f1 := F.sub_tuple_dict
    wp_walk using wpAny_loadPart' hl, wpAny_loadPart' hb
    exact ⟨_, rfl, h⟩
theorem tupEqDict (l b : Addr) (o : Obj) (hoc : o.cls = .type "dict") (its : Array Value) (n : Nat) (dd : Option Addr) (sl : Array (Option Value)) :
    Meets (Builtin.«tuple.__eq__» ⟨[.ref b, .ref l], []⟩) (fun _ R s => s.heap.get? b = some { cls := .type "tuple", dict := dd, data := .seq its n, slots := sl } ∧ s.heap.get? l = some o ∧ R (.ok (.ret .notImplemented)) s) :=
  .of_wp fun prog w A R s h => by
    obtain ⟨hp, g, d, tk, os⟩ := s
    obtain ⟨hb, hl, h⟩ := h
    obtain ⟨oc, od, dt, os2⟩ := o
    simp only at hoc
    subst hoc
    have f1 := F.sub_dict_tuple
    wp_walk using wpAny_loadPart' hl, wpAny_loadPart' hb
    exact ⟨_, rfl, h⟩
section
variable {A : Around} {s : Shared}
theorem eqAt_dictTup {l b : Addr} {o : Obj} {its : Array Value} (hl : s.heap.get? l = some o) (hoc : o.cls = .type "dict") (hb : s.heap.IsTuple b its) (hu : A.units < cLine) : EqAt A s (.ref l) (.ref b) false := by
  obtain ⟨⟨c2, dd, dt, sl⟩, ho2, hc2, n, hd2⟩ := hb
  simp only at hc2 hd2
  subst hc2 hd2
  have hne : l ≠ b := fun z => by
    rw [z, ho2] at hl
    cases hl
    exact absurd hoc (by simp)
  refine EqAt.of_refs hne fun prog w E Q h => ?_
  exact rc_eq_decline_or (k := false) ⟨_, hl, hoc⟩ ⟨_, ho2, rfl⟩ (by decide) F.sub_tuple_dict F.slot_dict_eq F.slot_tuple_eq_refl
    (fun _ hq => call_meets F.slot_dict_eq ⟨_, hl, hoc⟩ F.entry_dict_eq (F.args_dict_eq_2 _ _) (dictEqTup l b o hoc its n dd sl) ⟨hl, ho2, hq⟩)
    (fun _ hq => call_meets F.slot_tuple_eq_refl ⟨_, ho2, rfl⟩ F.entry_tuple_eq (F.args_tuple_eq_2 _ _) (tupEqDict l b o hoc its n dd sl) ⟨ho2, hl, hq⟩)
    (fun _ hq => wpAny_isSame_ref_other hne hl ho2 (by rw [hoc]; simp) hq) (.inr hu) h
end
/-- an item of an edited row -/
def Itm (d : PyData) : Prop := d = .dict [] ∨ (d.canLay0 = true ∧ d.depth ≤ 8)
section
variable {X : Cx}
/-- x not in l, l a list of such items, x a tuple: a flag -/
def rNotInX (K : PySem.W.Frag) : R2 := fun x y H Q => ∃ a p ds vs es, x = .ref a ∧ y = .ref p ∧ H p = some (.lst vs) ∧ DqA H vs ds ∧ (∀ d ∈ ds, Itm d) ∧ Dq H (.ref a) (.tuple es) ∧ PyData.canLay0 (.tuple es) = true ∧ ∀ b : Bool, Q (.bl b) H
theorem op_notInX (hu : X.A.units + 66 < cLine) : OpR X (compareOp .NotIn) (rNotInX X.K) := fun pins s σ H x y v u Q I rx ry h => by
  obtain ⟨a, p, ds, vs, es, rfl, rfl, hp, hds, hi, hx, cx, q⟩ := h
  cases rx
  cases ry
  obtain ⟨its, r1, p1, _⟩ := I.list (sq_of hp)
  have hxp := hx
  cases hxp with
  | tup h1 h2 =>
    obtain ⟨as, rx⟩ := Dp.reads I (.tuple es) (.ref a) (.ref a) (Dq.dp (K := X.K) cx hx) rfl
    obtain ⟨its2, r2, p2, _⟩ := I.tuple (st_of h1)
    have key : ∀ y ∈ its, ∃ b, EqAt X.A.in1 s y (.ref a) b := fun y hy => by
      obtain ⟨i, hiy⟩ := List.mem_iff_getElem?.mp hy
      have hil : i < vs.length := by
        have := (List.getElem?_eq_some_iff.mp hiy).1
        rw [r1.length]; exact this
      have hv : vs[i]? = some vs[i] := List.getElem?_eq_getElem hil
      obtain ⟨u2, hu2, ru⟩ := r1.get hv
      rw [hiy] at hu2
      cases hu2
      obtain ⟨d, ed, hd⟩ := hds.get hv
      rcases hi d (List.mem_of_getElem? ed) with z | ⟨z, zd⟩
      · subst z
        generalize hvv : vs[i] = vv at *
        cases hd with
        | dic hdd =>
          cases ru
          obtain ⟨_, _, vs2, _, o, es2, ep, g1, g2, _⟩ := (show ObjOk X.prog X.w H s.heap _ (.dK []) from I.hok _ _ hdd)
          exact ⟨false, eqAt_dictTup g1 g2.1 p2 (by show X.A.in1.units < cLine; simp; omega)⟩
      · obtain ⟨bs, ry⟩ := Dp.reads I d vs[i] y (Dq.dp (K := X.K) z hd) ru
        exact ⟨_, eqAt_reads d (.tuple es) X.A.in1 s y (.ref a) bs as ry rx z cx (by
          have hm := Nat.min_le_left d.depth (PyData.tuple es).depth
          show X.A.in1.units + _ < cLine
          simp
          omega)⟩
    have key2 : ∃ e : Value → Bool, ∀ y, y ∈ its.toArray → EqAt X.A.in1 s y (.ref a) (e y) := by
      refine ⟨fun y => @decide (EqAt X.A.in1 s y (.ref a) true) (Classical.propDecidable _), fun y hy => ?_⟩
      obtain ⟨b, hb⟩ := key y (by simpa using hy)
      by_cases c : EqAt X.A.in1 s y (.ref a) true
      · simp only [c, decide_true]
      · simp only [c, decide_false]
        cases b with
        | false => exact hb
        | true => exact absurd hb c
    obtain ⟨e, he⟩ := key2
    exact notIn_listAt e p1.isList he ⟨.bl _, H, I, rfl, q _⟩
end
end Wk

set_option Elab.async false
set_option linter.all false
set_option maxRecDepth 100000
set_option maxHeartbeats 2000000
namespace Wk
open PySem PySem.Spec PyProof.Rows L2 Evl
theorem cut_to (xs : List V) (i : Nat) (h : i ≤ xs.length) : cutV xs none (some (i : Int)) = xs.take i := by
  unfold cutV
  rw [HT.sIx_none, HT.sIx_nat, Nat.min_eq_left h]
  simp
theorem flat_ints (ns : List Int) : (ns.map V.int).all flatV = true := by
  rw [List.all_map, List.all_eq_true]
  intro x _
  rfl
theorem cut_from (xs : List V) (i : Nat) (h : i ≤ xs.length) : cutV xs (some (i : Int)) none = xs.drop i := by
  unfold cutV
  rw [HT.sIx_nat, HT.sIx_none, Nat.min_eq_left h]
  exact List.take_of_length_le (by simp)
theorem seqIx {k n : Nat} (h : k < n) : seqIndex? (k : Int) n = some k := by
  have q := ixN_seq (n := n) (i := (k : Int)) (j := k) (by
    unfold ixN
    rw [if_pos (by omega), if_pos (by omega)]
    simp)
  exact q.1
theorem ix_listK {X : Cx} {K : PySem.W.Frag} (hK : X.K = K) : IxR X (rIxL K) := by
  subst hK
  exact ix_list
theorem ixNat {n : Nat} {x : Int} (h0 : 0 ≤ x) (h1 : x < n) : ixN n x = some x.toNat := by
  unfold ixN
  rw [if_pos h0, if_pos h1]
theorem at_ints {os : List Int} {j : Nat} (h : j < os.length) : atI (os.map V.int) (j : Int) = some (.int os[j]) := atI_nat (by rw [List.getElem?_map, List.getElem?_eq_getElem h]; rfl)
theorem g_name {i : Nat} {x : V} {σ : L2.St} {H : Hp} {k : L2.St → Hp → Prop} (h : k (σ.set i (some x)) H) : gName i x σ H k := h
theorem asg_lst1 {te : TE} {g : TG} {D : Ends} {σ : L2.St} {H : Hp} (h : te σ H fun x H1 => 1 ≤ sizeLine ∧ ∀ b, H1 b = none → g (.ref b) σ (upd H1 b (.lst [x])) D.nx) : tAsg (tLst (tCons te tNil)) g D σ H := h
theorem cb1 {r : List V → Hp → VK → Prop} {ta : TE} {σ : L2.St} {H : Hp} {Q : VK} (h : ta σ H fun x H1 => r [x] H1 Q) : tCB r (tCons ta tNil) σ H Q := h
theorem q_c {i : Nat} {v : V} {tz : TS} {D : Ends} {σ : L2.St} {H : Hp} (h : tz D (σ.set i (some v)) H) : tSeq (tAsg (tC v) (gName i)) tz D σ H := h
theorem call_tupleK {X : Cx} {K : PySem.W.Frag} (hK : X.K = K) : CallR X (.type "tuple") (fun xs H Q => ∃ p ys, xs = [.ref p] ∧ ((SqL K H p ys ∧ ∀ l, H l = none → Q (.ref l) (upd H l (.tup ys))) ∨ (SqT K H p ys ∧ Q (.ref p) H))) := by
  subst hK
  exact call_tuple_of
theorem ret_cb {r : List V → Hp → VK → Prop} {ta : TE} {D : Ends} {σ : L2.St} {H : Hp} (h : ta σ H fun x H1 => r [x] H1 D.rt) : tRet (tCB r (tCons ta tNil)) D σ H := h
theorem ret_op {r : R2} {ta tb : TE} {D : Ends} {σ : L2.St} {H : Hp} (h : ta σ H fun x H1 => tb σ H1 fun y H2 => r x y H2 D.rt) : tRet (tOp r ta tb) D σ H := h
theorem call_listK2 {X : Cx} {K : PySem.W.Frag} (hK : X.K = K) : CallR X (.type "list") (fun xs H Q => ∃ p ys, xs = [.ref p] ∧ (SqL K H p ys ∨ SqT K H p ys) ∧ ∀ l, H l = none → Q (.ref l) (upd H l (.lst ys))) := by
  subst hK
  exact call_list_of
theorem take_snoc {α : Type} {l : List α} {i : Nat} {x : α} (h : l[i]? = some x) : l.take (i + 1) = l.take i ++ [x] := by
  rw [List.take_add_one, h]
  rfl
theorem ev_inS {K : PySem.W.Frag} {σ : L2.St} {H : Hp} {ta tb : TE} {x : V} {xs : List V} (ha : Ev ta σ H x) (hb : EvS tb σ H xs) (hx : flatV x = true) (hf : xs.all flatV = true) : Ev (tOp (rIn K false) ta tb) σ H (.bl (inV x xs)) := fun H1 e Q q =>
  ha H1 e _ fun H2 e2 => hb H2 (e.trans e2) _ fun p H3 e3 hp => ⟨p, xs, rfl, .inr (st_of hp), hx, hf, q H3 (e2.trans e3)⟩
theorem modP (a b : Int) (h : 0 < b) : 0 ≤ a % b ∧ a % b < b := ⟨Int.emod_nonneg _ (by omega), Int.emod_lt_of_pos _ h⟩
theorem q_asgW {te : TE} {tz : TS} {D : Ends} {σ : L2.St} {H : Hp} {i : Nat} (h : te σ H fun x H1 => tz D (σ.set i (some x)) H1) : tSeq (tAsg te (gName i)) tz D σ H := h
end Wk

set_option Elab.async false
set_option linter.all false
set_option maxRecDepth 100000
set_option maxHeartbeats 2000000
namespace Wk
open PySem PySem.Spec PyProof.Rows L2 Evl
/-! the pool: the list at p of the list at q that stays, and of three numbers; G is what stays -/
structure Pm (G H : Hp) (p q : Addr) : Prop where
  ex : Ex G H
  gp : G p = none
  gq : ∃ cs : List Int, G q = some (.lst (cs.map V.int)) ∧ cs.length ≤ 63
  at_ : ∃ (a b c : Int), H p = some (.lst [.ref q, .int a, .int b, .int c]) ∧ 0 ≤ a ∧ 0 ≤ b ∧ 0 ≤ c
theorem Pm.np {G H : Hp} {p q a : Addr} (h : Pm G H p q) (ha : H a = none) : a ≠ p := fun z => by
  obtain ⟨a', b, c, h2, _⟩ := h.at_
  rw [z, h2] at ha
  cases ha
theorem Pm.ext {G H H' : Hp} {p q : Addr} (h : Pm G H p q) (e : Ex H H') : Pm G H' p q := by
  obtain ⟨a, b, c, h2, r⟩ := h.at_
  exact ⟨h.ex.trans e, h.gp, h.gq, a, b, c, e _ _ h2, r⟩
theorem Pm.new {G H : Hp} {p q a : Addr} {o : HO} (h : Pm G H p q) (ha : H a = none) : Pm (upd G a o) (upd H a o) p q := by
  obtain ⟨a', b, c, h2, r⟩ := h.at_
  obtain ⟨cs, h0, h1⟩ := h.gq
  have np := h.np ha
  have ga := fresh_back h.ex ha
  refine ⟨fun b u hb => ?_, by rw [upd_ne (Ne.symm np)]; exact h.gp, ⟨cs, (Ex.new ga) _ _ h0, h1⟩, a', b, c, by rw [upd_ne (Ne.symm np)]; exact h2, r⟩
  by_cases c : b = a
  · rw [c, upd_same] at hb ⊢
    exact hb
  · rw [upd_ne c] at hb ⊢
    exact h.ex _ _ hb
theorem Pm.mut {G H : Hp} {p q a : Addr} {o : HO} (h : Pm G H p q) (ga : G a = none) (np : a ≠ p) : Pm G (upd H a o) p q := by
  obtain ⟨a', b, c, h2, r⟩ := h.at_
  exact ⟨Ex.mut h.ex ga, h.gp, h.gq, a', b, c, by rw [upd_ne (Ne.symm np)]; exact h2, r⟩
theorem Pm.hold {G H : Hp} {p q a : Addr} {o : HO} (h : Pm G H p q) (ha : H a = some o) (np : a ≠ p) (ga : G a = none) : Pm (upd G a o) H p q := by
  obtain ⟨cs, h0, h1⟩ := h.gq
  refine ⟨fun b u hb => ?_, by rw [upd_ne (Ne.symm np)]; exact h.gp, ⟨cs, (Ex.new ga) _ _ h0, h1⟩, h.at_⟩
  by_cases c : b = a
  · rw [c, upd_same] at hb
    cases hb
    rw [c]
    exact ha
  · rw [upd_ne c] at hb
    exact h.ex _ _ hb
def Of1 (p : Addr) (H H' : Hp) : Prop := ∀ b o, b ≠ p → H b = some o → H' b = some o
theorem Of1.refl (p : Addr) (H : Hp) : Of1 p H H := fun _ _ _ h => h
theorem Of1.trans {p : Addr} {H H1 H2 : Hp} (a : Of1 p H H1) (b : Of1 p H1 H2) : Of1 p H H2 := fun c o h1 h => b c o h1 (a c o h1 h)
theorem Of1.ex {p : Addr} {H H1 : Hp} (e : Ex H H1) : Of1 p H H1 := fun c o _ h => e c o h
open Classical in
noncomputable def Hd1 (H : Hp) (p : Addr) : Hp := fun b => if b = p then none else H b
theorem hd1_at {H : Hp} {p b : Addr} (hp : b ≠ p) : Hd1 H p b = H b := by
  unfold Hd1
  rw [if_neg hp]
theorem Pm.sub {G H : Hp} {p q : Addr} (h : Pm G H p q) : Ex G (Hd1 H p) := fun b o hb => by
  have hp : b ≠ p := fun z => by rw [z, h.gp] at hb; cases hb
  rw [hd1_at hp]
  exact h.ex _ _ hb
theorem Pm.hd {G H : Hp} {p q : Addr} (h : Pm G H p q) : Pm (Hd1 H p) H p q := by
  obtain ⟨cs, h0, h1⟩ := h.gq
  refine ⟨fun b o hb => ?_, by unfold Hd1; rw [if_pos rfl], ⟨cs, h.sub _ _ h0, h1⟩, h.at_⟩
  unfold Hd1 at hb
  split at hb
  · cases hb
  · exact hb
theorem Pm.off {H H' : Hp} {p q : Addr} (h : Pm (Hd1 H p) H' p q) : Of1 p H H' := fun b o hp hb => h.ex b o (by rw [hd1_at hp]; exact hb)
theorem Pm.back {G H H' : Hp} {p q : Addr} (h0 : Pm G H p q) (h : Pm (Hd1 H p) H' p q) : Pm G H' p q := ⟨h0.sub.trans h.ex, h0.gp, h0.gq, h.at_⟩
/-- less stays -/
theorem Pm.less {G G' H : Hp} {p q : Addr} (h : Pm G H p q) (e : Ex G' G) (hq : ∃ cs : List Int, G' q = some (.lst (cs.map V.int)) ∧ cs.length ≤ 63) : Pm G' H p q := ⟨e.trans h.ex, fresh_back e h.gp, hq, h.at_⟩
theorem rng_getD (ns : List Int) : (List.range ns.length).map (fun i => V.int (ns.getD i 0)) = ns.map V.int := by
  apply List.ext_getElem
  · simp
  · intro i h1 h2
    have h3 : i < ns.length := by simpa using h1
    simp [List.getD_eq_getElem?_getD, List.getElem?_eq_getElem h3]
theorem given_yesAll (n : Nat) (v : Nat → V) : given n (fun _ => true) v = (List.range n).map v := by
  unfold given
  rw [List.filter_eq_self.mpr fun _ _ => rfl]
theorem cut_all {ns : List Int} (h : ns.length ≤ 63) : cutV (ns.map V.int) none (some 63) = ns.map V.int := by
  unfold cutV
  rw [HT.sIx_none, show ((63 : Int)) = ((63 : Nat) : Int) from rfl, HT.sIx_nat, List.length_map, Nat.min_eq_right h]
  simp
  exact List.take_of_length_le (by simp)
theorem ret_lst1 {te : TE} {ta : TA} {D : Ends} {σ : L2.St} {H : Hp} (h : te σ H fun x H1 => ta σ H1 fun vs H2 => (x :: vs).length ≤ sizeLine ∧ ∀ l, H2 l = none → D.rt (.ref l) (upd H2 l (.lst (x :: vs)))) : tRet (tLst (tCons te ta)) D σ H := h
section
variable {P : Program} {w : World} {K : PySem.W.Frag} {mg : Str → Option Value} {base : Heap} {f : Addr} {fd : FuncData}
/-! _law_pool -/
def spPool (K : PySem.W.Frag) : Sp := fun vs H Q _ => ∃ (a : Addr) (ns : List Int), vs = [.ref a] ∧ SqL K H a (ns.map V.int) ∧ ns.length ≤ 63 ∧ ∀ G H' p q, Ex H G → Pm G H' p q → Q (.ref p) H'
abbrev sPool : Stmt := top 28
abbrev nPool : List Str := ["_law_script", "_law_cell"]
theorem scPool : FnScope nPool ["_law_script"] (defScope sPool) := ⟨rfl, rfl, rfl, by decide +kernel, rfl, by decide +kernel, by decide +kernel⟩
theorem ok_pool (B : Bl mg) (F : FnP K "_law_pool" sPool f fd) : FnOk P w K mg base CX0 1 f fd ["_law_script"] (spPool K) := by
  refine F.ok scPool (fun vs H Q E h => ?_) (fun cdv A outer s H vs Q E hr h => ?_)
  · obtain ⟨a, ns, rfl, _⟩ := h
    rfl
  · obtain ⟨a, ns, rfl, hs, hl, k⟩ := h
    refine ⟨_, pss_one (ps_ret (pe_lst (pa_cons (pe_lc (own := [("_law_cell", 1)]) (g := gName 1) (tt := tYes) rfl scPool.nd (pi_list (pe_slice sl_list (pv 0) po_none (po_some pe_int))) (blkOk_by (N := nPool) (sc := defScope sPool) (by decide +kernel))
          (fun _ _ _ _ _ => pg_name (i := 1) scPool.nd rfl (Or.inl rfl)) (fun _ _ _ _ _ => pts_nil)
          (fun _ _ _ _ _ => pe_callTy call_int1 (by rfl) B.int PyProof.Rows.boot_int (pa_cons (pv 1) pa_nil))) (pa_cons pe_int (pa_cons pe_int (pa_cons pe_int pa_nil)))))), ?_⟩
    have hsl : EvL (tSl (rSlL K) (tVar 0) tNoPart (tPart (tC (.int 63)))) (wipe (start nPool [V.ref a]) [1]) H (ns.map V.int) := by
      have q := el_sl (K := K) (te := tVar 0) (σ := wipe (start nPool [V.ref a]) [1]) (H := H) (ev_var rfl) eo_none (eo_some (i := 63) ev_c) hs
      rw [cut_all hl] at q
      exact q
    have hlc := el_lcNL (K := K) (σ := start nPool [V.ref a]) (H := H) (j := 1) (vs := [1]) (te := tCB (fun xs H Q => (∃ i, xs = [.int i] ∧ Q (.int i) H) ∨ ∃ k, xs = [.bl k] ∧ Q (.int (if k then 1 else 0)) H) (tCons (tVar 1) tNil)) (t := tYes) (fun _ => true) (fun i => V.int (ns.getD i 0)) hsl (by rw [List.length_map]; omega) (fun x => rfl) (fun _ _ _ _ _ => et_yes) (fun i x H1 e hx _ => by
      rw [List.getElem?_map] at hx
      cases hn : ns[i]? with
      | none => rw [hn] at hx; cases hx
      | some n =>
        rw [hn] at hx
        have ex : x = .int n := (Option.some.inj hx).symm
        subst ex
        rw [show ns.getD i 0 = n by rw [List.getD_eq_getElem?_getD, hn]; rfl]
        exact ev_cb (ea_cons (ev_var rfl) ea_nil) fun H2 e2 Q2 q => .inl ⟨n, rfl, q H2 (Ex.refl H2)⟩)
    rw [given_yesAll, List.length_map, rng_getD] at hlc
    refine ret_lst1 (hlc H (Ex.refl _) _ fun q H1 hq e1 hq1 => ?_)
    refine ⟨by show 4 ≤ sizeLine; decide, fun p hp => ?_⟩
    exact k H1 _ p q e1 ⟨Ex.new hp, hp, ⟨ns, hq1, hl⟩, 0, 0, 0, upd_same, by decide, by decide, by decide⟩
/-! _law_mixed -/
def mx1 (c m : Int) : Int := ((c + 7919 * m + 1) * 48271) % 2147483647
def mx2 (y : Int) : Int := (y * (y / 1009 + 69621)) % 2147483647
def mx3 (y : Int) : Int := (y * (y / 2003 + 40692)) % 2147483399
def mixI (c m : Int) : Int := mx3 (mx2 (mx1 c m))
theorem mixI_nn (c m : Int) : 0 ≤ mixI c m := (modP _ 2147483399 (by decide)).1
abbrev spMixed : Sp := spP fun _ vs z => ∃ c m : Int, vs = [.int c, .int m] ∧ z = .int (mixI c m)
abbrev sMixed : Stmt := top 29
abbrev nMixed : List Str := ["_law_cell", "_law_many", "_law_number"]
theorem scMixed : FnScope nMixed ["_law_cell", "_law_many"] (defScope sMixed) := ⟨rfl, rfl, rfl, by decide +kernel, rfl, by decide +kernel, by decide +kernel⟩
theorem ok_mixed (B : Bl mg) (F : FnP K "_law_mixed" sMixed f fd) : FnOk P w K mg base CX0 1 f fd ["_law_cell", "_law_many"] spMixed := by
  refine F.ok scMixed (fun vs H Q E h => ?_) (fun cdv A outer s H vs Q E hr h => ?_)
  · obtain ⟨z, ⟨c, m, rfl, _⟩, _⟩ := h
    rfl
  · obtain ⟨z, ⟨c, m, rfl, rfl⟩, k⟩ := h
    refine ⟨_, pss_cons (ps_set (i := 2) scMixed.nd rfl (Or.inl rfl) (pe_op op_mod (pe_callTy call_int1 (by rfl) B.int PyProof.Rows.boot_int (pa_cons (pe_op op_mul (pe_op op_add (pe_op op_add (pv 0) (pe_op op_mul pe_int (pv 1))) pe_int) pe_int) pa_nil)) pe_int))
      (pss_cons (ps_set (i := 2) scMixed.nd rfl (Or.inl rfl) (pe_op op_mod (pe_callTy call_int1 (by rfl) B.int PyProof.Rows.boot_int (pa_cons (pe_op op_mul (pv 2) (pe_op op_add (pe_op op_fdiv (pv 2) pe_int) pe_int)) pa_nil)) pe_int))
      (pss_one (ps_ret (pe_op op_mod (pe_callTy call_int1 (by rfl) B.int PyProof.Rows.boot_int (pa_cons (pe_op op_mul (pv 2) (pe_op op_add (pe_op op_fdiv (pv 2) pe_int) pe_int)) pa_nil)) pe_int)))), ?_⟩
    refine ⟨.int c, rfl, .int m, rfl, 7919, m, rfl, rfl, .inl ⟨by decide, by decide⟩, c, _, rfl, rfl, _, 1, rfl, rfl, _, 48271, rfl, rfl, .inr ⟨by decide, by decide⟩, .inl ⟨_, rfl, _, 2147483647, rfl, rfl, (show (0 : Int) < 2147483647 by decide), ?_⟩⟩
    have m1 := modP ((c + 7919 * m + 1) * 48271) 2147483647 (by decide)
    change tSeq _ _ _ [some (.int c), some (.int m), some (.int (mx1 c m))] H
    have k' : ∀ H', Ex H H' → Q (.int (mx3 (mx2 (mx1 c m)))) H' := k
    have hy1 : 0 ≤ mx1 c m ∧ mx1 c m < 2147483647 := m1
    generalize mx1 c m = y1 at k' hy1 ⊢
    refine ⟨.int y1, rfl, .int y1, rfl, y1, 1009, rfl, rfl, ⟨by decide, by decide⟩, _, 69621, rfl, rfl, y1, _, rfl, rfl, .inl ⟨by omega, by omega⟩, .inl ⟨_, rfl, _, 2147483647, rfl, rfl, (show (0 : Int) < 2147483647 by decide), ?_⟩⟩
    have m2 : 0 ≤ mx2 y1 ∧ mx2 y1 < 2147483647 := modP (y1 * (y1 / 1009 + 69621)) 2147483647 (by decide)
    refine g_name ?_
    exact ⟨.int (mx2 y1), rfl, .int (mx2 y1), rfl, mx2 y1, 2003, rfl, rfl, ⟨by decide, by decide⟩, _, 40692, rfl, rfl, mx2 y1, _, rfl, rfl, .inl ⟨by omega, by omega⟩, .inl ⟨_, rfl, _, 2147483399, rfl, rfl, (show (0 : Int) < 2147483399 by decide), k' H (Ex.refl _)⟩⟩
/-! _law_draw -/
def spDraw : Sp := fun vs H Q _ => ∃ (G : Hp) (p q : Addr) (z : Int), vs = [.ref p, .int z] ∧ Pm G H p q ∧ 0 < z ∧ z ≤ 1000000000 ∧ ∀ H' (i : Int), Pm G H' p q → 0 ≤ i → i < z → Q (.int i) H'
abbrev sDraw : Stmt := top 30
abbrev nDraw : List Str := ["_law_pool_here", "_law_limit", "_law_drawn", "_law_cell", "_law_fresh"]
theorem scDraw : FnScope nDraw ["_law_pool_here", "_law_limit"] (defScope sDraw) := ⟨rfl, rfl, rfl, by decide +kernel, rfl, by decide +kernel, by decide +kernel⟩
theorem ok_draw (B : Bl mg) (C : Cal P w K mg base "_law_mixed" ["_law_cell", "_law_many"] 1 spMixed) (F : FnP K "_law_draw" sDraw f fd) : FnOk P w K mg base CX0 2 f fd ["_law_pool_here", "_law_limit"] spDraw := by
  refine F.ok scDraw (fun vs H Q E h => ?_) (fun cdv A outer s H vs Q E hr h => ?_)
  · obtain ⟨G, p, q, z, rfl, _⟩ := h
    rfl
  · obtain ⟨G, p, q, z, rfl, hP, hz, hz2, k⟩ := h
    refine ⟨_, pss_cons (ps_asg (pe_op op_add (pe_ix ix_list (pv 0) pe_int (fun _ _ => rfl)) pe_int) (pg_sub (pv 0) pe_int set_list))
      (pss_cons (ps_if (pt_cmpR op_ge (pe_ix ix_list (pv 0) pe_int (fun _ _ => rfl)) (pv 1) (nomark _))
          (pss_cons (ps_set (i := 2) scDraw.nd rfl (Or.inl rfl) (pe_op op_mod (pe_callTy call_int1 (by rfl) B.int PyProof.Rows.boot_int (pa_cons (pe_ix ix_list (pv 0) pe_int (fun _ _ => rfl)) pa_nil)) (pv 1)))
          (pss_cons (ps_asg (pe_op op_fdiv (pe_ix ix_list (pv 0) pe_int (fun _ _ => rfl)) (pv 1)) (pg_sub (pv 0) pe_int set_list))
          (pss_one (ps_ret (pv 2))))) pss_nil)
      (pss_cons (ps_set (i := 3) scDraw.nd rfl (Or.inl rfl) pe_int)
      (pss_cons (ps_set (i := 4) scDraw.nd rfl (Or.inl rfl) (pe_cmpR op_lt (pe_ix ix_list (pv 0) pe_int (fun _ _ => rfl)) (pe_callB call_len_seq (by rfl) B.len PySem.boot_len (pa_cons (pe_ix ix_list (pv 0) pe_int (fun _ _ => rfl)) pa_nil)) (nomark _)))
      (pss_cut (ps_if (pt_cmpR op_gt (pe_callB call_len_seq (by rfl) B.len PySem.boot_len (pa_cons (pe_ix ix_list (pv 0) pe_int (fun _ _ => rfl)) pa_nil)) pe_int (nomark _))
          (pss_one (ps_set (i := 3) scDraw.nd rfl (Or.inl rfl) (pe_callB call_abs (by rfl) B.abs boot_abs (pa_cons (pe_ix ix_list (pe_ix ix_list (pv 0) pe_int (fun _ _ => rfl)) (pe_op op_mod (pe_callTy call_int1 (by rfl) B.int PyProof.Rows.boot_int (pa_cons (pe_ix ix_list (pv 0) pe_int (fun _ _ => rfl)) pa_nil)) (pe_callB call_len_seq (by rfl) B.len PySem.boot_len (pa_cons (pe_ix ix_list (pv 0) pe_int (fun _ _ => rfl)) pa_nil))) (fun _ _ => rfl)) pa_nil)))) pss_nil)
      (pss_cons (ps_asg (pe_op op_add (pe_ix ix_list (pv 0) pe_int (fun _ _ => rfl)) pe_int) (pg_sub (pv 0) pe_int set_list))
      (pss_cons (ps_asg pe_int (pg_sub (pv 0) pe_int set_list))
      (pss_cons (ps_if (PW.pt (pw_and (pt_val (pv 4)) (pw_and1 (pt_cmpR op_ge (pv 3) (pe_op op_pow pe_int pe_int) (nomark _)))))
          (pss_cons (ps_asg (pe_op op_fdiv (pv 3) (pv 1)) (pg_sub (pv 0) pe_int set_list))
          (pss_one (ps_ret (pe_op op_mod (pe_callTy call_int1 (by rfl) B.int PyProof.Rows.boot_int (pa_cons (pv 3) pa_nil)) (pv 1))))) pss_nil)
      (pss_one (ps_ret (pe_op op_mod (pe_callTy call_int1 (by rfl) B.int PyProof.Rows.boot_int (pa_cons (pe_op op_fdiv (pe_cal C hr (by rfl) (pa_cons (pv 3) (pa_cons (pe_ix ix_list (pv 0) pe_int (fun _ _ => rfl)) pa_nil))) pe_int) pa_nil)) (pv 1))))))))))), ?_⟩
    obtain ⟨cs, gq, hcs⟩ := hP.gq
    obtain ⟨a, b, c, hp, ha, hb, hc⟩ := hP.at_
    have hzz : z < 2 ^ 30 := by omega
    refine ⟨.ref p, rfl, p, _, 3, .int c, rfl, rfl, sq_of hp, rfl, c, 1, rfl, rfl, .ref p, rfl, p, _, 3, 3, rfl, rfl, hp, rfl, ?_⟩
    have hpa : (upd H p (.lst ([V.ref q, .int a, .int b, .int c].set 3 (.int (c + 1))))) p = some (.lst [.ref q, .int a, .int b, .int (c + 1)]) := upd_same
    have hPa : Ex G (upd H p (.lst ([V.ref q, .int a, .int b, .int c].set 3 (.int (c + 1))))) := Ex.mut hP.ex hP.gp
    generalize upd H p (.lst ([V.ref q, .int a, .int b, .int c].set 3 (.int (c + 1)))) = H1 at *
    have hc1 : 0 ≤ c + 1 := by omega
    generalize c + 1 = c' at *
    have hq1 := hPa _ _ gq
    refine q_when (b := decide (z ≤ b)) (et_test (ev_op (r := rI0 fun i j => .bl (decide (j ≤ i))) (x := .int b) (y := .int z) (ev_op (ev_var rfl) ev_c (rv_ixL (K := K) (i := 2) (sq_of hpa) rfl)) (ev_var rfl) rv_I0)) (fun hbz H2 e2 => ?_) (fun hbz H2 e2 => ?_)
    · have hp2 := e2 _ _ hpa
      have m := modP b z hz
      refine ⟨.ref p, rfl, p, _, 2, .int b, rfl, rfl, sq_of hp2, rfl, .inl ⟨b, rfl, .int z, rfl, b, z, rfl, rfl, hz, ?_⟩⟩
      refine g_name ?_
      dsimp only
      refine ⟨.ref p, rfl, p, _, 2, .int b, rfl, rfl, sq_of hp2, rfl, .int z, rfl, b, z, rfl, rfl, ⟨hz, by omega⟩, .ref p, rfl, p, _, 2, 2, rfl, rfl, hp2, rfl, ?_⟩
      refine ⟨_, rfl, k _ _ ⟨Ex.mut (hPa.trans e2) hP.gp, hP.gp, hP.gq, _, _, _, upd_same, ha, ?_, hc1⟩ m.1 m.2⟩
      exact Int.ediv_nonneg hb (by omega)
    · have hp2 := e2 _ _ hpa
      have hq2 := e2 _ _ hq1
      have hP2 := hPa.trans e2
      refine q_c ?_
      refine q_asg (v := .bl (decide (a < (cs.length : Int)))) (by
        have z := ev_len (K := K) (ta := tOp (rIxL K) (tVar 0) (tC (.int 0))) (σ := [some (.ref p), some (.int z), none, some (.int 0), none]) (H := H2) (ev_op (ev_var rfl) ev_c (rv_ixL (K := K) (i := 0) (sq_of hp2) rfl)) (sq_of hq2)
        rw [List.length_map] at z
        exact ev_op (r := rI0 fun i j => .bl (decide (i < j))) (ev_op (ev_var rfl) ev_c (rv_ixL (K := K) (i := 1) (sq_of hp2) rfl)) z rv_I0) fun H3 e3 => ?_
      have hp3 := e3 _ _ hp2
      have hq3 := e3 _ _ hq2
      have hP3 := hP2.trans e3
      generalize decide (a < (cs.length : Int)) = fr
      change tCut _ _ _ [some (.ref p), some (.int z), none, some (.int 0), some (.bl fr)] H3
      refine q_cut (M := fun σ' H' => ∃ v : Int, 0 ≤ v ∧ σ' = [some (.ref p), some (.int z), none, some (.int v), some (.bl fr)] ∧ Ex H3 H') ?_ ?_
      · refine s_when (b := decide (0 < (cs.length : Int))) (et_test (by
          have z := ev_len (K := K) (ta := tOp (rIxL K) (tVar 0) (tC (.int 0))) (σ := [some (.ref p), some (.int z), none, some (.int 0), some (.bl fr)]) (H := H3) (ev_op (ev_var rfl) ev_c (rv_ixL (K := K) (i := 0) (sq_of hp3) rfl)) (sq_of hq3)
          rw [List.length_map] at z
          exact ev_op (r := rI0 fun i j => .bl (decide (j < i))) z ev_c rv_I0)) (fun h0 H4 e4 => ?_) (fun _ H4 e4 => ⟨0, by decide, rfl, e4⟩)
        have h0 := of_decide_eq_true h0
        have hp4 := e4 _ _ hp3
        have hq4 := e4 _ _ hq3
        have m := modP a (cs.length : Int) h0
        obtain ⟨j, hj⟩ : ∃ j : Nat, a % (cs.length : Int) = (j : Int) := ⟨(a % (cs.length : Int)).toNat, by omega⟩
        have hjl : j < cs.length := by omega
        have hcj : (cs.map V.int)[j]? = some (.int cs[j]) := by rw [List.getElem?_map, List.getElem?_eq_getElem hjl]; rfl
        generalize cs[j] = v at *
        refine ⟨.ref p, rfl, p, _, 0, .ref q, rfl, rfl, sq_of hp4, rfl, .ref p, rfl, p, _, 1, .int a, rfl, rfl, sq_of hp4, rfl, .inl ⟨a, rfl, .ref p, rfl, p, _, 0, .ref q, rfl, rfl, sq_of hp4, rfl, q, _, rfl, .inl (sq_of hq4), a, _, rfl, rfl, by rw [List.length_map]; exact h0, ?_⟩⟩
        rw [List.length_map]
        dsimp only
        rw [hj]
        refine ⟨q, _, (j : Int), .int v, rfl, rfl, sq_of hq4, atI_nat hcj, v, rfl, ?_⟩
        refine g_name ⟨_, ?_, rfl, e4⟩
        split <;> omega
      · rintro σ' H4 ⟨v, hv, rfl, e4⟩
        have hp4 := e4 _ _ hp3
        have hP4 := hP3.trans e4
        refine ⟨.ref p, rfl, p, _, 1, .int a, rfl, rfl, sq_of hp4, rfl, a, 1, rfl, rfl, .ref p, rfl, p, _, 1, 1, rfl, rfl, hp4, rfl, ?_⟩
        have hp5 : (upd H4 p (.lst ([V.ref q, .int a, .int b, .int c'].set 1 (.int (a + 1))))) p = some (.lst [.ref q, .int (a + 1), .int b, .int c']) := upd_same
        have hP5 : Ex G (upd H4 p (.lst ([V.ref q, .int a, .int b, .int c'].set 1 (.int (a + 1))))) := Ex.mut hP4 hP.gp
        generalize upd H4 p (.lst ([V.ref q, .int a, .int b, .int c'].set 1 (.int (a + 1)))) = H5 at *
        refine ⟨.ref p, rfl, p, _, 2, 2, rfl, rfl, hp5, rfl, ?_⟩
        have hp6 : (upd H5 p (.lst ([V.ref q, .int (a + 1), .int b, .int c'].set 2 (.int 0)))) p = some (.lst [.ref q, .int (a + 1), .int 0, .int c']) := upd_same
        have hP6 : Ex G (upd H5 p (.lst ([V.ref q, .int (a + 1), .int b, .int c'].set 2 (.int 0)))) := Ex.mut hP5 hP.gp
        generalize upd H5 p (.lst ([V.ref q, .int (a + 1), .int b, .int c'].set 2 (.int 0))) = H6 at *
        have ha1 : 0 ≤ a + 1 := by omega
        generalize a + 1 = a' at *
        refine q_when (b := fr && decide ((10 : Int) ^ (18 : Int).toNat ≤ v)) (et_and (et_B (ev_var rfl)) fun _ => et_test fun H7 e7 Q7 q7 => ⟨.int v, rfl, 10, 18, rfl, rfl, ⟨by decide, by decide, by decide⟩, v, _, rfl, rfl, q7 H7 (Ex.refl _)⟩) (fun _ H7 e7 => ?_) (fun _ H7 e7 => ?_)
        · have hp7 := e7 _ _ hp6
          have m := modP v z hz
          refine ⟨.int v, rfl, .int z, rfl, v, z, rfl, rfl, ⟨hz, by omega⟩, .ref p, rfl, p, _, 2, 2, rfl, rfl, hp7, rfl, ?_⟩
          refine ⟨.int v, rfl, .inl ⟨v, rfl, .int z, rfl, v, z, rfl, rfl, hz, k _ _ ⟨Ex.mut (hP6.trans e7) hP.gp, hP.gp, hP.gq, _, _, _, upd_same, ha1, Int.ediv_nonneg hv (by omega), hc1⟩ m.1 m.2⟩⟩
        · have hp7 := e7 _ _ hp6
          refine ⟨.int v, rfl, .ref p, rfl, p, _, 3, .int c', rfl, rfl, sq_of hp7, rfl, .int (mixI v c'), ⟨v, c', rfl, rfl⟩, fun H8 e8 => ?_⟩
          have m := modP (mixI v c' / 16) z hz
          refine ⟨_, 16, rfl, rfl, ⟨by decide, by decide⟩, .inl ⟨_, rfl, .int z, rfl, _, z, rfl, rfl, hz, k _ _ ⟨(hP6.trans e7).trans e8, hP.gp, hP.gq, _, _, _, e8 _ _ hp7, ha1, by decide, hc1⟩ m.1 m.2⟩⟩
/-- a draw, as a call -/
theorem ev_draw {G H : Hp} {p q : Addr} {z : Int} {Q : VK} (h : Pm G H p q) (hz : 0 < z) (hz2 : z ≤ 1000000000) (k : ∀ H' (i : Int), Pm G H' p q → Of1 p H H' → 0 ≤ i → i < z → Q (.int i) H') (E : XK) : spDraw [.ref p, .int z] H Q E :=
  ⟨Hd1 H p, p, q, z, rfl, h.hd, hz, hz2, fun H' i hP h0 h1 => k H' i (h.back hP) hP.off h0 h1⟩
end
end Wk


set_option Elab.async false
set_option linter.all false
set_option maxRecDepth 100000
set_option maxHeartbeats 2000000
namespace Wk
open L2 PySem PySem.Spec PyProof.Rows
section
variable {X : Cx}
/-- one entry more by a comprehension, in a dict of either kind of keys -/
theorem put_dp {ps : List (Addr × Obj)} {σ : L2.St} {H Hn : Hp} {s : Shared} {D : Addr} {y z : V} {u r : Value}
    {E : Value → Shared → Prop} {Q : Unit → Shared → Prop} (hu : X.A.units < cLine) (I : Inv X ps σ H s)
    (g : DPut H D y z Hn) (ry : L2.RelV y u) (rz : L2.RelV z r) (h : ∀ s', Inv X ps σ Hn s' → Q () s') :
    wpAny (model X.prog X.w) X.A (dictSet D u r) Q E s := by
  rcases g with ⟨kvs, k, e, rfl, l, rfl⟩ | ⟨kvs, k, b, e, rfl, eb, l, rfl⟩
  · exact d_dictSet I e l ry rz h
  · obtain rfl : u = Value.ref b := ry
    obtain ⟨z1, nd, xs, rel, dd⟩ := dt_of I.hok e
    have l1 := length_putK kvs k z
    refine wpAny_dictSet_heap (hsz := by rw [← Paired.length rel]; exact z1) hu (key_of I.hok eb) dd
      fun h1 d1 sb => h _ ?_
    obtain ⟨q, es, ep, hq, a1, a2, a3, _, a4⟩ := d1
    refine d_write I (by rw [e]; trivial) sb ⟨q, hq⟩ ⟨by omega, nd, _, (rel.put k eb rz).keeps ?_, q, es, ep, hq, a1, a2, a3, a4⟩
    intro c ys ec
    exact (upd_ne (ne_of ec e (by intro z; cases z))).trans ec
end
/-- what one item does: the target, the tests, then key, value and the entry -/
def dqStep (g : TG) (tt : TT) (tk tv : TE) (vs : List Nat) (D : Addr) (Nx : Hp → Prop) (σ : L2.St) (x : V) (H : Hp) : Prop :=
  g x (wipe σ vs) H fun σa Ha => wipe σa vs = wipe σ vs ∧ tt σa Ha fun b Hb =>
    if b = true then tk σa Hb fun y Hc => tv σa Hc fun z Hd => ∃ Hn, DPut Hd D y z Hn ∧ Nx Hn
    else Nx Hb
/-- the walk of such a comprehension by a measure -/
def dqWalk (J : It) (step : (Hp → Prop) → V → Hp → Prop) (Qs : Hp → Prop) (W : Nat → Nat → Hp → Prop) : Prop :=
  ∀ i m H, W i m H → (J.stop i H ∧ Qs H) ∨
    (J.go i H ∧ ∃ Nx : Hp → Prop, (∀ Ha, Nx Ha → ∃ k, k < m ∧ W (i + 1) k Ha) ∧ ∀ x Ha, J.yld i H x Ha → step Nx x Ha)
theorem dq_loop {Y : Cx} {σ : L2.St} {vs : List Nat} {R : Result → Shared → Prop} {J : It} {fp : List Addr} {it D : Addr}
    {tn : Nat → Heap → Prop} {kx vx tg iter : Expr} {ifs : List Expr} {scope : Scope} {pos : Pos} {g : TG} {tt : TT} {tk tv : TE}
    {W : Nat → Nat → Hp → Prop} {Qs : Hp → Prop} (hc : Y.calm = true) (hx : Y.xe = fun _ _ => False) (hu : Y.A.units < cLine)
    (T : Turn Y.prog Y.w Y.K tg J fp it tn) (pg : PG Y tg g) (pt : PTs Y ifs tt) (pk : PE Y kx tk) (pv : PE Y vx tv)
    (own : ∀ {σ' : L2.St} {H' : Hp} {s' : Shared}, Inv Y [] σ' H' s' → (∀ b ∈ fp, H' b = none) → ∀ b ∈ fp, FpOk Y [] H' b)
    (walk : dqWalk J (fun Nx x H => dqStep g tt tk tv vs D Nx σ x H) Qs W)
    (last : ∀ H s, Inv Y [] (wipe σ vs) H s → Qs H → R (.ok .next) s)
    {m : Nat} {H : Hp} {s : Shared} (I : Inv Y [] (wipe σ vs) H s) (st : tn 0 s.heap) (nf : ∀ b ∈ fp, H b = none) (w : W 0 m H) :
    codeAny (model Y.prog Y.w) Y.A
      (.compLoop (.DictComp kx vx [⟨tg, iter, ifs, 0⟩] scope pos) 0 (.ref it) (.ref D) Y.env) R s := by
  refine compLoop_anyD (fun k s1 => ∃ i H1, Inv Y [] (wipe σ vs) H1 s1 ∧ tn i s1.heap ∧ (∀ b ∈ fp, H1 b = none) ∧ W i k H1)
    (fun k s1 hk => ?_) m ⟨0, H, I, st, nf, w⟩
  obtain ⟨i, H1, I1, st1, nf1, w1⟩ := hk
  cases walk i k H1 w1 with
  | inl e =>
    refine thnF (T.done Y rfl rfl rfl hc i [] s1 _ H1 (fun _ _ => False) I1 (own I1 nf1) st1 e.1) ?_
    rintro _ s2 ⟨rfl, I2⟩
    exact last H1 s2 I2 e.2
  | inr e =>
    obtain ⟨go, Nx, less, step⟩ := e
    refine thnF (T.item Y rfl rfl rfl hc i [] s1 _ H1 (fun _ _ => False) I1 (own I1 nf1) st1 go) ?_
    rintro _ s2 ⟨u, rfl, it2⟩
    refine thnF it2 ?_
    rintro _ s3 ⟨x, H3, I3, rx, yx, st3, nf3⟩
    have pin := I3.pinned (own I3 nf3) (T.obj _ _ st3)
    have t1 := pg.run _ s3 _ H3 x u _ pin rx (step x H3 yx)
    rw [hx] at t1
    refine thnF t1 ?_
    rintro _ s4 ⟨σ4, H4, I4, ew, q4⟩
    have back : ∀ {s9 : Shared} {H9 : Hp}, Inv Y ([] ++ pinsAt fp s3.heap) σ4 H9 s9 → Nx H9 →
        ∃ j, j < k ∧ ∃ i' H', Inv Y [] (wipe σ vs) H' s9 ∧ tn i' s9.heap ∧ (∀ b ∈ fp, H' b = none) ∧ W i' j H' := by
      intro s9 H9 I9 nx
      obtain ⟨j, lt, wj⟩ := less H9 nx
      have same : ∀ b ∈ fp, ∀ o, s3.heap.get? b = some o → s9.heap.get? b = some o ∧ H9 b = none := by
        intro b hb o eo
        have a := I9.pin (b, o) (List.mem_append_right _ (List.mem_append_right _ (mem_pinsAt hb eo)))
        exact ⟨a.1, a.2.1⟩
      refine ⟨j, lt, i + 1, H9, ?_, T.keep _ _ _ st3 fun b hb o eo => (same b hb o eo).1, ?_, wj⟩
      · refine (I9.unpinned (pins := [])).weak (by rw [← ew, wipe_length]) ?_
        intro n v en
        rw [← ew] at en
        exact (wipe_some en).1
      · intro b hb
        obtain ⟨o, eo, _⟩ := T.obj _ _ st3 b hb
        exact (same b hb o eo).2
    have t2 := pt.run _ s4 σ4 H4 _ I4 q4
    rw [hx] at t2
    refine thnF t2 ?_
    rintro b s5 ⟨H5, I5, q5⟩
    cases b with
    | false => exact back I5 q5
    | true =>
      have t3 := pk.run _ s5 σ4 H5 _ I5 q5
      rw [hx] at t3
      refine thnF t3 ?_
      rintro ky s6 ⟨y, H6, I6, ry, q6⟩
      have t4 := pv.run _ s6 σ4 H6 _ I6 q6
      rw [hx] at t4
      refine thnF t4 ?_
      rintro vy s7 ⟨z, H7, I7, rz, Hn, put, nx⟩
      exact put_dp hu I7 put ry rz fun s8 I8 => back I8 nx
/-- {k: v for .. in .. if ..}, keys tuples -/
def tDq (wi : TI) (g : TG) (tt : TT) (tk tv : TE) (vs : List Nat) : TE := fun σ H Q => wi σ H fun J H1 => ∀ D, H1 D = none →
  ∃ W : Nat → Nat → Hp → Prop, (∃ m, W 0 m (upd H1 D (.dT []))) ∧
    dqWalk J (fun Nx x Ha => dqStep g tt tk tv vs D Nx σ x Ha) (fun Ha => Q (.ref D) Ha) W
/-- the context of the block -/
abbrev Bq (X : Cx) (scope : Scope) (s : Shared) (H : Hp) (C : Addr) (cl : List (Str × Addr)) (fp : List Addr) : Cx :=
  X.blk s H scope (compEnvC scope cl C X.env) fp
theorem pe_dq {X : Cx} {kx vx tg iter : Expr} {ifs : List Expr} {scope : Scope} {own : List (Str × Nat)} {pos : Pos}
    {wi : TI} {g : TG} {tt : TT} {tk tv : TE} (hc : X.calm = true) (hu : X.A.units + 1 < cLine) (hN : X.N.Nodup)
    (hi : PI X tg iter wi) (ok : BlkOk X.N X.env.scope scope own) (hg : ∀ s H C cl fp, PG (Bq X scope s H C cl fp) tg g)
    (ht : ∀ s H C cl fp, PTs (Bq X scope s H C cl fp) ifs tt) (hk : ∀ s H C cl fp, PE (Bq X scope s H C cl fp) kx tk)
    (he : ∀ s H C cl fp, PE (Bq X scope s H C cl fp) vx tv) (hs : ∀ x, foldedSetIterable iter X.env x = pure x := by intro _; rfl) :
    PE X (.DictComp kx vx [⟨tg, iter, ifs, 0⟩] scope pos) (tDq wi g tt tk tv (own.map (·.2))) := by
  constructor
  intro ps s σ H Q I h
  rw [arm_eval_DictComp]
  have look : ∀ y ∈ scope.names, y.2 = .free → ∃ c, X.env.cells.lookup y.1 = some c := by
    intro y hy e
    exact I.ok.has _ (ok.free y hy e)
  refine wpAny_comprehension_free (use := none) rfl hs (closure_ok look) ok.kind (fun y hy e => (ok.uniq y hy).trans (by rw [e])) ?_
  refine thn (hi.run ps s σ H _ I h) ?_
  intro xv s1 h1
  refine thn h1 ?_
  rintro _ s2 ⟨it, fp, tn, J, H2, rfl, I2, T, st2, f2, q⟩
  refine wpAny_newObj_type ?_
  refine newEnv_comp ?_
  obtain ⟨D, hD⟩ : ∃ D, D = s2.heap.objs.size := ⟨_, rfl⟩
  rw [← hD]
  obtain ⟨W, ⟨m0, w0⟩, walk⟩ := q D (I2.hok.fresh (Nat.le_of_eq hD.symm))
  obtain ⟨s3, e3⟩ : ∃ s3 : Shared, s3 = { s2 with heap := s2.heap.push { cls := .type "dict", data := .dict #[] } } := ⟨_, rfl⟩
  have g3 : ∀ b o, s2.heap.get? b = some o → s3.heap.get? b = some o := by
    intro b o e
    rw [e3]
    exact Heap.get?_push_of_some _ (by exact e)
  have I3 : Inv X ps σ (upd H2 D (.dT [])) s3 := by
    rw [e3, hD]
    exact I2.laid (t' := s2.toks) (fun b o e => Heap.get?_push_of_some _ e) (Nat.le_refl _) (dt_empty s2.heap I2.big)
  rw [← e3]
  obtain ⟨H3, eH3⟩ : ∃ H3, H3 = upd H2 D (.dT []) := ⟨_, rfl⟩
  rw [← eH3] at I3 w0
  have f3 : ∀ b ∈ fp, FpOk X ps H3 b ∧ b < s3.heap.objs.size := by
    intro b hb
    obtain ⟨o, e, _⟩ := T.obj 0 _ st2 b hb
    refine ⟨⟨?_, (f2 b hb).2⟩, Heap.lt_size (g3 b o e)⟩
    rw [eH3, upd_ne (by rw [hD]; exact Nat.ne_of_lt (Heap.lt_size e))]
    exact (f2 b hb).1
  have st3 : tn 0 s3.heap := T.keep _ _ _ st2 fun b _ o e => g3 b o e
  have Ib := block_start I3 ok hN f3
  obtain ⟨C, hC⟩ : ∃ C, C = s3.heap.objs.size := ⟨_, rfl⟩
  rw [← hC] at Ib ⊢
  obtain ⟨cl, ecl⟩ : ∃ cl, cl = cellsFrom (C + 1) scope.names (cloFrom X.env.cells scope.names []) := ⟨_, rfl⟩
  rw [← ecl] at Ib ⊢
  have st4 : tn 0 (pushCells (s3.heap.push { cls := .type "dict", data := .dict #[] }) scope.names) := T.keep _ _ _ st3 fun b _ o e =>
    pushCells_keeps _ _ _ _ (Heap.get?_push_of_some _ e)
  have loop : codeAny (model X.prog X.w) X.A
      (.compLoop (.DictComp kx vx [⟨tg, iter, ifs, 0⟩] scope pos) 0 (.ref it) (.ref D) (compEnvC scope cl C X.env))
      (compPost (model X.prog X.w) X.A X.xe none (EP X ps σ Q) (.ref D) C)
      { s3 with heap := pushCells (s3.heap.push { cls := .type "dict", data := .dict #[] }) scope.names } := by
    refine dq_loop (Y := Bq X scope s3 H3 C cl fp) (σ := σ) hc rfl (Nat.lt_of_succ_lt hu) T (hg s3 H3 C cl fp)
      (ht s3 H3 C cl fp) (hk s3 H3 C cl fp) (he s3 H3 C cl fp) ?_ walk ?_ Ib st4 (fun b hb => (f3 b hb).1.1) w0
    · intro σ' H' s' I' nf b hb
      refine ⟨nf b hb, (I'.ok.exf b hb).1, I'.ok.exfs b hb, .inl hb, fun x c e => (I'.ok.exf b hb).2 x c e, ?_⟩
      intro p hp
      exact absurd (show p ∈ ([] : List (Addr × Obj)) ++ [] from hp) (by simp)
    · intro H6 s6 I6 q6
      have I7 : Inv X ps σ H6 s6 := by
        refine I3.call' (ch := fp) I6.os I6.base I6.hok I6.bare ?_
        intro b hb
        obtain ⟨_, n1, _, n2, n3, n4⟩ := (f3 b hb).1
        exact ⟨n2, n1, n3, n4⟩
      obtain ⟨m, hn, _⟩ := I6.loc
      refine ⟨m, hn, fun h' sb => ?_⟩
      obtain ⟨n0, n1, n2, n3, n4, n5⟩ := I3.fpOk (b := C) (Nat.le_of_eq hC.symm) (show H6 C = none from I6.free)
      refine ⟨.ref D, H6, ?_, rfl, q6⟩
      exact I7.turned (t' := s6.toks) (fun b o hb e => (sb.2 b hb).trans e) n0 n1 n3 n4 n5
  exact codeAny_compStart_dict loop (T.self _ 0 _ _ _ st4 loop)
end Wk

set_option Elab.async false
set_option linter.all false
set_option maxRecDepth 100000
set_option maxHeartbeats 2000000
namespace Wk
open L2 PySem PySem.Spec PyProof.Rows Evl
/-- the items that a comprehension has put, item j of the source by Y j -/
def Grown (Y : Nat → V → Hp → Prop) (H : Hp) : List Nat → List V → Prop
  | [], us => us = []
  | j :: js, us => ∃ u r, us = u :: r ∧ Y j u H ∧ Grown Y H js r
def UpY (Y : Nat → V → Hp → Prop) : Prop := ∀ i u H H', Ex H H' → Y i u H → Y i u H'
theorem Grown.up {Y : Nat → V → Hp → Prop} (hY : UpY Y) {H H' : Hp} (e : Ex H H') : ∀ {js : List Nat} {us : List V}, Grown Y H js us → Grown Y H' js us
  | [], _, h => h
  | j :: js, _, ⟨u, r, h1, h2, h3⟩ => ⟨u, r, h1, hY j u H H' e h2, Grown.up hY e h3⟩
theorem Grown.snoc {Y : Nat → V → Hp → Prop} {H : Hp} {j : Nat} {u : V} (h : Y j u H) : ∀ {js : List Nat} {us : List V}, Grown Y H js us → Grown Y H (js ++ [j]) (us ++ [u])
  | [], _, h0 => by
    rw [show _ = [] from h0]
    exact ⟨u, [], rfl, h, rfl⟩
  | k :: js, _, ⟨v, r, h1, h2, h3⟩ => by
    subst h1
    exact ⟨v, r ++ [u], rfl, h2, Grown.snoc h h3⟩
theorem Grown.len {Y : Nat → V → Hp → Prop} {H : Hp} : ∀ {js : List Nat} {us : List V}, Grown Y H js us → us.length = js.length
  | [], _, h0 => by
    rw [show _ = [] from h0]
    rfl
  | k :: js, _, ⟨v, r, h1, h2, h3⟩ => by
    subst h1
    simp [Grown.len h3]
def upTo (f : Nat → Bool) (i : Nat) : List Nat := (List.range i).filter f
theorem upTo_yes {f : Nat → Bool} {i : Nat} (h : f i = true) : upTo f (i + 1) = upTo f i ++ [i] := by
  unfold upTo
  rw [List.range_succ, List.filter_append]
  simp [h]
theorem upTo_no {f : Nat → Bool} {i : Nat} (h : f i = false) : upTo f (i + 1) = upTo f i := by
  unfold upTo
  rw [List.range_succ, List.filter_append]
  simp [h]
theorem upTo_len (f : Nat → Bool) (i : Nat) : (upTo f i).length ≤ i := by
  unfold upTo
  have h := List.length_filter_le f (List.range i)
  rw [List.length_range] at h
  exact h
/-- what is evaluated is told by Y, the heap may grow -/
def EvY (te : TE) (σ : L2.St) (H : Hp) (Y : V → Hp → Prop) : Prop := ∀ H1, Ex H H1 → ∀ Q : VK, (∀ u H2, Ex H1 H2 → Y u H2 → Q u H2) → te σ H1 Q
def off (D : Addr) (H : Hp) : Hp := fun a => if a = D then none else H a
theorem off_ex {D : Addr} {H H' : Hp} (e : Ex H H') : Ex (off D H) (off D H') := fun a o h => by
  unfold off at h ⊢
  by_cases z : a = D
  · rw [if_pos z] at h
    cases h
  · rw [if_neg z] at h ⊢
    exact e a o h
theorem off_in (D : Addr) (H : Hp) : Ex (off D H) H := fun a o h => by
  unfold off at h
  split at h
  · cases h
  · exact h
theorem off_upd {D : Addr} {H : Hp} {o : HO} : off D (upd H D o) = off D H := by
  funext a
  unfold off upd
  split <;> rfl
theorem off_at {D a : Addr} {H : Hp} (h : a ≠ D) : off D H a = H a := by
  unfold off
  rw [if_neg h]
/-- a word of an item that outlives new objects and does not speak of lists -/
structure GoodY (Y : Nat → V → Hp → Prop) : Prop where
  up : UpY Y
  off : ∀ i u H D l, H D = some (.lst l) → Y i u H → Y i u (Wk.off D H)
def Gw (Y : Nat → V → Hp → Prop) (H : Hp) (f : Nat → Bool) (D : Addr) (i : Nat) (H' : Hp) : Prop :=
  H D = none ∧ Ex H H' ∧ ∃ us, H' D = some (.lst us) ∧ Grown Y (off D H') (upTo f i) us
theorem gw_turn {Y : Nat → V → Hp → Prop} (hY : GoodY Y) {H H' : Hp} {f : Nat → Bool} {D : Addr} {i : Nat} {t : TT} {te : TE} {σ2 : L2.St} (p : Gw Y H f D i H') (hi : i < 50000)
    (ht : EvT t σ2 H' (f i)) (he : f i = true → EvY te σ2 H' (Y i)) :
    t σ2 H' fun b H3 => if b = true then te σ2 H3 fun y H4 => ∃ acc, H4 D = some (.lst acc) ∧ acc.length < sizeLine ∧ Gw Y H f D (i + 1) (upd H4 D (.lst (acc ++ [y])))
      else Gw Y H f D (i + 1) H3 := by
  obtain ⟨p1, p2, us, p3, p4⟩ := p
  refine ht H' (Ex.refl _) _ fun H3 e3 => ?_
  cases hf : f i with
  | false =>
    refine ⟨p1, p2.trans e3, us, e3 _ _ p3, ?_⟩
    rw [upTo_no hf]
    exact p4.up hY.up (off_ex e3)
  | true =>
    refine he hf H3 e3 _ fun u H4 e4 y => ?_
    have d4 := e4 _ _ (e3 _ _ p3)
    have l1 := p4.len
    have l2 := upTo_len f i
    refine ⟨us, d4, sz_lt (by omega), p1, Ex.mut ((p2.trans e3).trans e4) p1, us ++ [u], upd_same, ?_⟩
    rw [upTo_yes hf, off_upd]
    exact Grown.snoc (hY.off i u H4 D us d4 y) (p4.up hY.up (off_ex (e3.trans e4)))
/-- a list comprehension whose items may be new objects -/
theorem grow_lc {J : It} {n : Nat} {Gd : Hp → Prop} {Yx : Nat → V → Prop} {Y : Nat → V → Hp → Prop} {j : Nat} {vs : List Nat} {σ : L2.St} {H : Hp} {D : Addr} {Qd : Hp → Prop} {t : TT} {te : TE}
    (w : Walk J n Gd (fun i H x H' => H' = H ∧ Yx i x)) (hY : GoodY Y) (f : Nat → Bool) (hD : H D = none) (hn : n ≤ 40000) (hG : ∀ H', Ex H H' → Gd H') (hw : ∀ x, wipe ((wipe σ vs).set j (some x)) vs = wipe σ vs)
    (ht : ∀ i x H', Ex H H' → i < n → Yx i x → EvT t ((wipe σ vs).set j (some x)) H' (f i)) (he : ∀ i x H', Ex H H' → i < n → Yx i x → f i = true → EvY te ((wipe σ vs).set j (some x)) H' (Y i))
    (hq : ∀ us H', Ex H H' → H' D = some (.lst us) → Grown Y H' (upTo f n) us → Qd H') :
    ∃ W : Nat → Nat → Hp → Prop, (∃ m, W 0 m (upd H D (.lst []))) ∧ ∀ i m H, W i m H →
      (J.stop i H ∧ Qd H) ∨ (J.go i H ∧ ∃ Nx : Hp → Prop, (∀ H', Nx H' → ∃ m', m' < m ∧ W (i + 1) m' H') ∧ ∀ x H', J.yld i H x H' → gName j x (wipe σ vs) H' fun σ2 H2 => wipe σ2 vs = wipe σ vs ∧ t σ2 H2 fun b H3 =>
        if b = true then te σ2 H3 fun y H4 => ∃ acc, H4 D = some (.lst acc) ∧ acc.length < sizeLine ∧ Nx (upd H4 D (.lst (acc ++ [y]))) else Nx H3) := by
  refine lc_it w (Gw Y H f D) ⟨hD, Ex.new hD, [], upd_same, rfl⟩ (fun i H' _ p => hG H' p.2.1) (fun i x H' H2 hi p y => ?_) (fun H' p => ?_)
  · obtain ⟨rfl, yx⟩ := y
    exact ⟨hw x, gw_turn hY p (by omega) (ht i x _ p.2.1 hi yx) (fun hf => he i x _ p.2.1 hi yx hf)⟩
  · obtain ⟨_, e, us, d, g⟩ := p
    exact hq us H' e d (g.up hY.up (off_in D H'))
/-- the keys of a dict are the first i of k, each with True -/
def KHas (k : Nat → List L2.Key) (i : Nat) (kvs : List (List L2.Key × V)) : Prop :=
  ∀ q, (valV kvs q = some (V.bl true) ∧ ∃ j, j < i ∧ k j = q) ∨ (valV kvs q = none ∧ ∀ j, j < i → k j ≠ q)
/-- the keys that a comprehension has put -/
def Kw (k : Nat → List L2.Key) (H : Hp) (D : Addr) (i : Nat) (H' : Hp) : Prop :=
  H D = none ∧ Ex H H' ∧ ∃ kvs, H' D = some (.dT kvs) ∧ kvs.length ≤ i ∧ KHas k i kvs
/-- {x: True for x in ..}, of tuples of whole numbers or texts -/
theorem grow_dq {J : It} {n : Nat} {Gd : Hp → Prop} {Yx : Nat → V → Prop} {k : Nat → List L2.Key} {j : Nat} {vs : List Nat} {σ : L2.St} {H : Hp} {D : Addr} {Qd : Hp → Prop} {tk tv : TE}
    (w : Walk J n Gd (fun i H x H' => H' = H ∧ Yx i x)) (hD : H D = none) (hn : n ≤ 40000) (hG : ∀ H', Ex H H' → Gd H') (hw : ∀ x, wipe ((wipe σ vs).set j (some x)) vs = wipe σ vs)
    (hk : ∀ i x H', Ex H H' → i < n → Yx i x → EvY tk ((wipe σ vs).set j (some x)) H' (fun u H2 => ∃ b, u = .ref b ∧ H2 b = some (.tup ((k i).map kV))))
    (hv : ∀ i x H', Ex H H' → i < n → Yx i x → Ev tv ((wipe σ vs).set j (some x)) H' (.bl true))
    (hq : ∀ kvs H', Ex H H' → H' D = some (.dT kvs) → KHas k n kvs → Qd H') :
    ∃ W : Nat → Nat → Hp → Prop, (∃ m, W 0 m (upd H D (.dT []))) ∧ dqWalk J (fun Nx x Ha => dqStep (gName j) tYes tk tv vs D Nx σ x Ha) Qd W := by
  refine ⟨fun i m H' => m = n - i ∧ i ≤ n ∧ Kw k H D i H', ⟨n, by simp, Nat.zero_le _, hD, Ex.new hD, [], upd_same, Nat.le_refl _, fun q => .inr ⟨rfl, fun j hj => absurd hj (Nat.not_lt_zero _)⟩⟩, ?_⟩
  rintro i m H1 ⟨rfl, hi, p1, p2, kvs, p3, p4, p5⟩
  by_cases lt : i < n
  · refine .inr ⟨w.goes i H1 lt (hG H1 p2), Kw k H D (i + 1), fun Ha q => ⟨n - (i + 1), by omega, rfl, lt, q⟩, fun x Ha y => ?_⟩
    obtain ⟨rfl, yx⟩ := w.yields i H1 x Ha lt (hG H1 p2) y
    refine ⟨hw x, ?_⟩
    show tk _ _ _
    refine hk i x _ p2 lt yx _ (Ex.refl _) _ fun u H2 e2 hu => ?_
    obtain ⟨b, rfl, hb⟩ := hu
    refine hv i x _ p2 lt yx H2 e2 _ fun H3 e3 => ?_
    have d3 := e3 _ _ (e2 _ _ p3)
    refine ⟨_, DPut.t d3 (e3 _ _ hb) (sz_lt (by omega)), p1, Ex.mut ((p2.trans e2).trans e3) p1, _, upd_same, ?_, fun q => ?_⟩
    · have := length_putK kvs (k i) (V.bl true)
      omega
    · rw [valV_put]
      by_cases e : q = k i
      · rw [if_pos e]
        exact .inl ⟨rfl, i, Nat.lt_succ_self i, e.symm⟩
      · rw [if_neg e]
        rcases p5 q with ⟨z, j', h1, h2⟩ | ⟨z, h2⟩
        · exact .inl ⟨z, j', by omega, h2⟩
        · refine .inr ⟨z, fun j' hj => ?_⟩
          rcases Nat.lt_succ_iff_lt_or_eq.mp hj with h3 | h3
          · exact h2 j' h3
          · subst h3
            exact fun z2 => e z2.symm
  · have e : i = n := by omega
    subst e
    exact .inl ⟨w.stops H1 (hG H1 p2), hq kvs H1 p2 p3 p5⟩
end Wk

set_option Elab.async false
set_option linter.all false
set_option maxRecDepth 100000
set_option maxHeartbeats 2000000
namespace Wk
open PySem PySem.Spec PyProof.Rows L2 Evl
theorem lay_ints : ∀ ns : List Int, PyData.canLayAll0 (ns.map PyData.int) = true
  | [] => by simp [PyData.canLayAll0]
  | n :: ns => by
    have h := lay_ints ns
    simp [PyData.canLayAll0, PyData.canLay0, h]
theorem depth_ints : ∀ ns : List Int, PyData.depthAll (ns.map PyData.int) = 0
  | [] => by simp [PyData.depthAll]
  | n :: ns => by
    have h := depth_ints ns
    simp [PyData.depthAll, PyData.depth, h]
theorem shaped_ints (ns : List Int) : SeqAt.shaped (.tuple (ns.map PyData.int)) = true := by
  unfold SeqAt.shaped
  have h1 := lay_ints ns
  have h2 := depth_ints ns
  simp [PyData.canLay0, PyData.depth, h1, h2]
theorem layAll : ∀ {ds : List PyData}, PyData.canLayAll0 ds = true ↔ ∀ d ∈ ds, d.canLay0 = true
  | [] => by simp [PyData.canLayAll0]
  | d :: ds => by
    have ih := layAll (ds := ds)
    simp [PyData.canLayAll0, ih]
theorem depAll {k : Nat} : ∀ {ds : List PyData}, PyData.depthAll ds ≤ k ↔ ∀ d ∈ ds, d.depth ≤ k
  | [] => by simp [PyData.depthAll]
  | d :: ds => by
    have ih := depAll (k := k) (ds := ds)
    simp only [PyData.depthAll, List.mem_cons, forall_eq_or_imp, ← ih]
    omega
theorem nd_snoc {α : Type} {l : List α} {x : α} (h : l.Nodup) (hx : x ∉ l) : (l ++ [x]).Nodup := by
  unfold List.Nodup
  rw [List.pairwise_append]
  refine ⟨h, List.pairwise_singleton _ _, fun a ha b hb => ?_⟩
  rw [List.mem_singleton] at hb
  intro e
  rw [← hb, ← e] at hx
  exact hx ha
theorem eraseIdx_mp {α β : Type} (f : α → β) : ∀ (l : List α) (k : Nat), (l.map f).eraseIdx k = (l.eraseIdx k).map f
  | [], _ => rfl
  | _ :: _, 0 => rfl
  | x :: l, k + 1 => by
    show f x :: (l.map f).eraseIdx k = f x :: (l.eraseIdx k).map f
    rw [eraseIdx_mp f l k]
theorem eqv_ints : ∀ a b : List Int, PyData.eqvAll (a.map PyData.int) (b.map PyData.int) = decide (a = b)
  | [], [] => by simp [PyData.eqvAll]
  | [], _ :: _ => by simp [PyData.eqvAll]
  | _ :: _, [] => by simp [PyData.eqvAll]
  | x :: a, y :: b => by
    have ih := eqv_ints a b
    simp only [List.map_cons, PyData.eqvAll, PyData.eqv, ih]
    by_cases h : x = y
    · subst h; simp
    · have : (x == y) = false := by simpa using h
      simp [this, h]
theorem inV_ints (x : Int) : ∀ ns : List Int, inV (.int x) (ns.map V.int) = decide (x ∈ ns)
  | [] => rfl
  | n :: ns => by
    have ih := inV_ints x ns
    unfold inV at *
    rw [List.map_cons, List.any_cons, ih]
    show ((n == x) || _) = _
    by_cases h : n = x
    · subst h; simp
    · have : (n == x) = false := by simpa using h
      rw [this]
      simp [Ne.symm h]
abbrev Wy := List Int
def wd (w : Wy) : PyData := .tuple (w.map PyData.int)
theorem eqv_wd (a b : Wy) : PyData.eqv (wd a) (wd b) = decide (a = b) := eqv_ints a b
theorem wd_ref {G : Hp} {v : V} {w : Wy} (h : Dq G v (wd w)) : ∃ a, v = .ref a ∧ G a = some (.tup (w.map V.int)) := by
  unfold wd at h
  cases h with
  | tup h1 h2 => exact ⟨_, rfl, by rw [h1, h2.int_inv]⟩
theorem wd_of {G : Hp} {a : Addr} {w : Wy} (h : G a = some (.tup (w.map V.int))) : Dq G (.ref a) (wd w) := .tup h (DqA.ints w)
theorem lay_wds (ws : List Wy) : PyData.canLayAll0 (ws.map wd) = true := layAll.mpr fun d hd => by
  obtain ⟨w, _, rfl⟩ := List.mem_map.mp hd
  simp [wd, PyData.canLay0, lay_ints]
theorem dep_wds (ws : List Wy) : PyData.depthAll (ws.map wd) ≤ 1 := depAll.mpr fun d hd => by
  obtain ⟨w, _, rfl⟩ := List.mem_map.mp hd
  simp [wd, PyData.depth, depth_ints]
theorem shaped_wds (ws : List Wy) : SeqAt.shaped (.list (ws.map wd)) = true := by
  unfold SeqAt.shaped
  have h1 := lay_wds ws
  have h2 := dep_wds ws
  have : decide ((PyData.list (ws.map wd)).depth ≤ 64) = true := decide_eq_true (by simp only [PyData.depth]; omega)
  rw [this]
  simp [PyData.canLay0, h1]
theorem any_wd (ws : List Wy) (x : Wy) : ((ws.map wd).any fun z => PyData.eqv z (wd x)) = decide (x ∈ ws) := by
  induction ws with
  | nil => rfl
  | cons a l ih =>
    rw [List.map_cons, List.any_cons, ih, eqv_wd]
    by_cases h : a = x
    · subst h; simp
    · rw [decide_eq_false h, Bool.false_or, decide_eq_decide]
      constructor
      · exact fun z => List.mem_cons_of_mem _ z
      · intro z
        rcases List.mem_cons.mp z with e | e
        · exact absurd e.symm h
        · exact e
theorem DqA.wds_inv {G : Hp} {ws : List Wy} {vs : List V} {i : Nat} {v : V} (h : DqA G vs (ws.map wd)) (e : vs[i]? = some v) : ∃ w, ws[i]? = some w ∧ Dq G v (wd w) := by
  obtain ⟨d, e1, e2⟩ := h.get e
  rw [List.getElem?_map] at e1
  cases hw : ws[i]? with
  | none => rw [hw] at e1; cases e1
  | some w =>
    rw [hw] at e1
    cases e1
    exact ⟨w, rfl, e2⟩
theorem DqA.set {G : Hp} {v : V} {d : PyData} (hv : Dq G v d) : ∀ {ds : List PyData} {vs : List V} (i : Nat), DqA G vs ds → DqA G (vs.set i v) (ds.set i d)
  | [], _, i, .nil => by simp; exact .nil
  | _ :: _, _, 0, .cons h t => .cons hv t
  | _ :: _, _, i + 1, .cons h t => .cons h (DqA.set hv i t)
theorem DqA.erase {G : Hp} : ∀ {ds : List PyData} {vs : List V} (i : Nat), DqA G vs ds → DqA G (vs.eraseIdx i) (ds.eraseIdx i)
  | [], _, i, .nil => by simp; exact .nil
  | _ :: _, _, 0, .cons h t => t
  | _ :: _, _, i + 1, .cons h t => .cons h (DqA.erase i t)
theorem DqA.perm {G : Hp} {us ys : List V} (h : ys.Perm us) : ∀ {ds : List PyData}, DqA G us ds → ∃ es, es.Perm ds ∧ DqA G ys es := by
  induction h with
  | nil => exact fun h => ⟨_, .refl _, h⟩
  | cons x h ih =>
    intro ds hd
    cases hd with
    | cons hv t =>
      obtain ⟨es, h1, h2⟩ := ih t
      exact ⟨_, h1.cons _, .cons hv h2⟩
  | swap x y l =>
    intro ds hd
    cases hd with
    | cons hx t =>
      cases t with
      | cons hy t => exact ⟨_, .swap _ _ _, .cons hy (.cons hx t)⟩
  | trans h1 h2 ih1 ih2 =>
    intro ds hd
    obtain ⟨es, a, b⟩ := ih2 hd
    obtain ⟨es2, c, d⟩ := ih1 b
    exact ⟨es2, c.trans a, d⟩
def wi (d : PyData) : Wy := (itemsT d).map valI
theorem wi_wd (w : Wy) : wi (wd w) = w := by
  show (w.map PyData.int).map valI = w
  rw [List.map_map]
  exact List.map_id w
theorem perm_wds {es : List PyData} {ws : List Wy} (h : es.Perm (ws.map wd)) : ∃ ws' : List Wy, ws'.Perm ws ∧ es = ws'.map wd := by
  refine ⟨es.map wi, ?_, ?_⟩
  · have z := h.map wi
    rw [List.map_map, show (wi ∘ wd) = id from funext wi_wd, List.map_id] at z
    exact z
  · rw [List.map_map]
    refine ((List.map_congr_left fun d hd => ?_).trans (List.map_id es)).symm
    obtain ⟨w, _, rfl⟩ := List.mem_map.mp (h.mem_iff.mp hd)
    show wd (wi (wd w)) = _
    rw [wi_wd]
    rfl
def TupY (z : Nat → List V) : Nat → V → Hp → Prop := fun i u H => ∃ b, u = .ref b ∧ H b = some (.tup (z i))
theorem tupY_good (z : Nat → List V) : GoodY (TupY z) := by
  refine ⟨fun i u H H' e h => ?_, fun i u H D l hD h => ?_⟩
  · obtain ⟨b, h1, h2⟩ := h
    exact ⟨b, h1, e _ _ h2⟩
  · obtain ⟨b, h1, h2⟩ := h
    refine ⟨b, h1, (off_at ?_).trans h2⟩
    intro hb
    rw [hb, hD] at h2
    cases h2
theorem grown_ks {z : Nat → Wy} {H : Hp} : ∀ {js : List Nat} {us : List V}, Grown (TupY fun i => (z i).map V.int) H js us → ∃ ks : List (Addr × List Int), us = (ks.map fun p => V.ref p.1) ∧ ks.map (·.2) = js.map z ∧
    ∀ p ∈ ks, H p.1 = some (.tup (p.2.map V.int))
  | [], us, h => ⟨[], h, rfl, fun p hp => by cases hp⟩
  | j :: js, us, ⟨u, r, h1, ⟨b, h2, h3⟩, h4⟩ => by
    obtain ⟨ks, k1, k2, k3⟩ := grown_ks h4
    subst h1 h2
    refine ⟨(b, z j) :: ks, by rw [k1]; rfl, by rw [List.map_cons, k2]; rfl, ?_⟩
    intro p hp
    rcases List.mem_cons.mp hp with e | e
    · subst e
      exact h3
    · exact k3 p e
theorem ks_wds {H : Hp} : ∀ {ks : List (Addr × List Int)}, (∀ p ∈ ks, H p.1 = some (.tup (p.2.map V.int))) → DqA H (ks.map fun p => V.ref p.1) ((ks.map (·.2)).map wd)
  | [], _ => .nil
  | p :: ks, h => .cons (wd_of (h p List.mem_cons_self)) (ks_wds fun q hq => h q (List.mem_cons_of_mem _ hq))
theorem wds_ks {H : Hp} : ∀ {ws : List Wy} {us : List V}, DqA H us (ws.map wd) → ∃ ks : List (Addr × List Int), us = (ks.map fun p => V.ref p.1) ∧ ks.map (·.2) = ws ∧ ∀ p ∈ ks, H p.1 = some (.tup (p.2.map V.int))
  | [], us, h => by
    cases h
    exact ⟨[], rfl, rfl, fun p hp => by cases hp⟩
  | w :: ws, us, h => by
    cases h with
    | cons hv t =>
      obtain ⟨ks, k1, k2, k3⟩ := wds_ks t
      obtain ⟨a, rfl, ha⟩ := wd_ref hv
      refine ⟨(a, w) :: ks, by rw [k1]; rfl, by rw [List.map_cons, k2], fun p hp => ?_⟩
      rcases List.mem_cons.mp hp with e | e
      · subst e
        exact ha
      · exact k3 p e
/-! pairs of routers, ascending -/
theorem asc_eq : ∀ {l m : List Nat}, l.Pairwise (· < ·) → m.Pairwise (· < ·) → (∀ x, x ∈ l ↔ x ∈ m) → l = m
  | [], [], _, _, _ => rfl
  | [], b :: m, _, _, h => absurd ((h b).mpr List.mem_cons_self) (by simp)
  | a :: l, [], _, _, h => absurd ((h a).mp List.mem_cons_self) (by simp)
  | a :: l, b :: m, h1, h2, h => by
    obtain ⟨ha, hl⟩ := List.pairwise_cons.mp h1
    obtain ⟨hb, hm⟩ := List.pairwise_cons.mp h2
    have e : a = b := by
      rcases List.mem_cons.mp ((h a).mp List.mem_cons_self) with z | z
      · exact z
      · rcases List.mem_cons.mp ((h b).mpr List.mem_cons_self) with y | y
        · exact y.symm
        · have := ha b y
          have := hb a z
          omega
    subst e
    rw [asc_eq hl hm fun x => ?_]
    constructor
    · intro hx
      rcases List.mem_cons.mp ((h x).mp (List.mem_cons_of_mem _ hx)) with z | z
      · have := ha x hx
        omega
      · exact z
    · intro hx
      rcases List.mem_cons.mp ((h x).mpr (List.mem_cons_of_mem _ hx)) with z | z
      · have := hb x hx
        omega
      · exact z
def cdW (c : Nat) : Wy := [((c / 8 : Nat) : Int), ((c % 8 : Nat) : Int)]
def ascW (S : List Wy) : List Wy := ((List.range 64).filter fun c => decide (cdW c ∈ S)).map cdW
theorem cd_pair {u v : Nat} (hv : v < 8) : cdW (u * 8 + v) = [(u : Int), (v : Int)] := by
  unfold cdW
  rw [show (u * 8 + v) / 8 = u by omega, show (u * 8 + v) % 8 = v by omega]
def enW (w : Wy) : Nat := (w.getD 0 0).toNat * 8 + (w.getD 1 0).toNat
/-- a pair of unlike routers below n -/
def PrOk (n : Nat) (w : Wy) : Prop := ∃ u v : Nat, w = [(u : Int), (v : Int)] ∧ u < n ∧ v < n ∧ u ≠ v
theorem asc_unique {S M : List Wy} (hb : ∀ p ∈ S, ∃ u v : Nat, u < 8 ∧ v < 8 ∧ p = [(u : Int), (v : Int)]) (hm : ∀ p, p ∈ M ↔ p ∈ S) (nd : M.Nodup)
    (pw : M.Pairwise fun q r => TS.code 64 q ≤ TS.code 64 r) : M = ascW S := by
  have hM : ∀ p ∈ M, ∃ u v : Nat, u < 8 ∧ v < 8 ∧ p = [(u : Int), (v : Int)] := fun p hp => hb p ((hm p).mp hp)
  have e1 : (M.map enW).map cdW = M := by
    rw [List.map_map]
    refine (List.map_congr_left fun p hp => ?_).trans (List.map_id M)
    obtain ⟨u, v, hu, hv, rfl⟩ := hM p hp
    show cdW ((u : Int).toNat * 8 + (v : Int).toNat) = _
    rw [Int.toNat_natCast, Int.toNat_natCast, cd_pair hv]
    rfl
  have e2 : (M.map enW).Pairwise (· < ·) := by
    rw [List.pairwise_map]
    refine List.Pairwise.imp_of_mem (R := fun q r => TS.code 64 q ≤ TS.code 64 r ∧ q ≠ r) ?_ (pw.and nd)
    intro q r hq hr ⟨h, hne⟩
    obtain ⟨u, v, hu, hv, rfl⟩ := hM q hq
    obtain ⟨x, y, hx, hy, rfl⟩ := hM r hr
    have z := pair_lt h hne (by omega) (by omega) (by omega) (by omega)
    show (u : Int).toNat * 8 + (v : Int).toNat < (x : Int).toNat * 8 + (y : Int).toNat
    rw [Int.toNat_natCast, Int.toNat_natCast, Int.toNat_natCast, Int.toNat_natCast]
    omega
  have e3 : ((List.range 64).filter fun c => decide (cdW c ∈ S)).Pairwise (· < ·) := List.Pairwise.filter _ List.pairwise_lt_range
  have e4 : M.map enW = (List.range 64).filter fun c => decide (cdW c ∈ S) := by
    refine asc_eq e2 e3 fun c => ?_
    rw [List.mem_map, List.mem_filter, List.mem_range, decide_eq_true_eq]
    constructor
    · rintro ⟨p, hp, rfl⟩
      have hp2 := (hm p).mp hp
      obtain ⟨u, v, hu, hv, rfl⟩ := hM p hp
      have ee : enW [(u : Int), (v : Int)] = u * 8 + v := by
        show (u : Int).toNat * 8 + (v : Int).toNat = _
        rw [Int.toNat_natCast, Int.toNat_natCast]
      rw [ee]
      exact ⟨by omega, by rw [cd_pair hv]; exact hp2⟩
    · rintro ⟨hc, hp⟩
      refine ⟨cdW c, (hm _).mpr hp, ?_⟩
      show (((c / 8 : Nat) : Int)).toNat * 8 + (((c % 8 : Nat) : Int)).toNat = c
      rw [Int.toNat_natCast, Int.toNat_natCast]
      omega
  rw [← e1, e4]
  rfl
theorem asc_mem {S : List Wy} (hb : ∀ p ∈ S, ∃ u v : Nat, u < 8 ∧ v < 8 ∧ p = [(u : Int), (v : Int)]) (p : Wy) : p ∈ ascW S ↔ p ∈ S := by
  unfold ascW
  rw [List.mem_map]
  constructor
  · rintro ⟨c, hc, rfl⟩
    exact of_decide_eq_true (List.mem_filter.mp hc).2
  · intro hp
    obtain ⟨u, v, hu, hv, rfl⟩ := hb p hp
    exact ⟨u * 8 + v, List.mem_filter.mpr ⟨List.mem_range.mpr (by omega), decide_eq_true (by rw [cd_pair hv]; exact hp)⟩, cd_pair hv⟩
theorem asc_len (S : List Wy) : (ascW S).length ≤ 64 := by
  unfold ascW
  rw [List.length_map]
  have h := List.length_filter_le (fun c => decide (cdW c ∈ S)) (List.range 64)
  rw [List.length_range] at h
  exact h
def swW (w : Wy) : Wy := [w.getD 1 0, w.getD 0 0]
def joinW (prs : List Wy) : List Wy := ascW (prs ++ prs.map swW)
theorem PrOk.sw {n : Nat} {w : Wy} (h : PrOk n w) : PrOk n (swW w) := by
  obtain ⟨u, v, rfl, h1, h2, h3⟩ := h
  exact ⟨v, u, rfl, h2, h1, Ne.symm h3⟩
theorem both_ok {n : Nat} {prs : List Wy} (h : ∀ p ∈ prs, PrOk n p) : ∀ p ∈ prs ++ prs.map swW, PrOk n p := fun p hp => by
  rcases List.mem_append.mp hp with z | z
  · exact h p z
  · obtain ⟨q, hq, rfl⟩ := List.mem_map.mp z
    exact (h q hq).sw
theorem PrOk.bd {n : Nat} (hn : n ≤ 8) {S : List Wy} (h : ∀ p ∈ S, PrOk n p) : ∀ p ∈ S, ∃ u v : Nat, u < 8 ∧ v < 8 ∧ p = [(u : Int), (v : Int)] := fun p hp => by
  obtain ⟨u, v, e, h1, h2, _⟩ := h p hp
  exact ⟨u, v, by omega, by omega, e⟩
theorem join_ok {n : Nat} (hn : n ≤ 8) {prs : List Wy} (h : ∀ p ∈ prs, PrOk n p) : ∀ p ∈ joinW prs, PrOk n p := fun p hp => both_ok h p ((asc_mem (PrOk.bd hn (both_ok h)) p).mp hp)

theorem perm_erase {α : Type} : ∀ {l : List α} {m : Nat} (h : m < l.length), l.Perm (l[m] :: l.eraseIdx m)
  | [], _, h => absurd h (Nat.not_lt_zero _)
  | x :: l, 0, _ => .refl _
  | x :: l, m + 1, h => ((perm_erase (l := l) (m := m) (Nat.lt_of_succ_lt_succ h)).cons x).trans (.swap _ _ _)
end Wk

set_option Elab.async false
set_option linter.all false
set_option maxRecDepth 100000
set_option maxHeartbeats 2000000
namespace Wk
open PySem PySem.Spec PyProof.Rows L2 Evl
section
variable {P : Program} {w : World} {K : PySem.W.Frag} {mg : Str → Option Value} {base : Heap} {f : Addr} {fd : FuncData}
end
end Wk

set_option Elab.async false
set_option linter.all false
set_option maxRecDepth 100000
set_option maxHeartbeats 2000000
namespace Wk
open PySem PySem.Spec PyProof.Rows L2 Evl
/-! several except clauses, each with the same name for what it caught -/
def unAs (i : Nat) (D : Ends) : Ends := { nx := fun σ' H' => D.nx (σ'.set i none) H', rt := D.rt, bk := fun σ' H' => D.bk (σ'.set i none) H', ct := fun σ' H' => D.ct (σ'.set i none) H' }
/-- what these clauses wish of an exception, one behind the other -/
def wClauses (K : PySem.W.Frag) (i : Nat) (Wo : WX) (D : Ends) : List (Value × (Addr → Value → Option Addr → TS)) → WX
  | [] => Wo
  | y :: r => fun cls d σ H => ∃ b, PySem.W.exmOne K cls y.1 = some b ∧ (b = true → ∀ a, H a = none → y.2 a cls d (unAs i D) (σ.set i (some (.ref a))) H) ∧ (b = false → wClauses K i Wo D r cls d σ H)
inductive Clauses (X : Cx) (n : Str) : List ExceptHandler → List (Value × (Addr → Value → Option Addr → TS)) → Prop
  | nil : Clauses X n [] []
  | cons {x : Str} {c : Value} {ts : Addr → Value → Option Addr → TS} {b₀ : Stmt} {su : List Stmt} {np pos' : Pos} {hs : List ExceptHandler} {l : List (Value × (Addr → Value → Option Addr → TS))} (hc : Names X x c)
      (hsu : ∀ (a : Addr) (oe : Obj) (cls : Value) (d : Option Addr) (pn : List (Addr × Obj)), Zc cls d oe → (∃ vs, oe.data = .fields vs) → PSs (X.suite a ((a, oe) :: pn)) (b₀ :: su) (ts a cls d)) (r : Clauses X n hs l) :
      Clauses X n (.ExceptHandler (some (.Name x np)) (some n) (b₀ :: su) pos' :: hs) ((c, ts) :: l)
section
variable {X : Cx} {n : Str} {i : Nat} {body : List Stmt} {h₀ : ExceptHandler} {hds : List ExceptHandler} {l : List (Value × (Addr → Value → Option Addr → TS))} {pos : Pos} {tb : WX → TS} {Wout : WX}
theorem ps_try_clauses (hs : X.stack = X.env :: X.outer) (hf : X.env.frame = some X.env.locals) (hN : X.N.Nodup) (hi : X.N[i]? = some n) (hln : X.env.kindOf n = some .local) (tk : Takes X Wout)
    (hb : ∀ (W : WX) (pn : List (Addr × Obj)) (xe : Value → Shared → Prop), Takes (X.tr pn xe) W → PassesOwn (model X.prog X.w) X.A X.env xe → PSs (X.tr pn xe) body (tb W))
    (hh : Clauses X n (h₀ :: hds) l) : PS X (.Try body (h₀ :: hds) [] [] pos) (fun D σ H => tb (wClauses X.K i Wout D l) D σ H) := by
  refine ⟨fun pins s σ H D I h => ?_⟩
  have ok := I.ok
  have hfr : X.A.frames = some (X.env :: X.outer) := by rw [ok.frames, hs]
  have hloc : Loc X.env.scope n := .inl hln
  refine wpAny_Try_except (wpAny_mono ((hb (wClauses X.K i Wout D l) (X.pn ++ pins) (fun e s₁ => wpAny (model X.prog X.w) X.A (noteFrame e X.env) (fun _ s₂ => wpAny (model X.prog X.w) X.A (setFlight e none) (fun _ s₃ =>
    wpAny (model X.prog X.w) X.A (handleBy e X.env (h₀ :: hds)) (SP X pins D) X.xe s₃) X.xe s₂) X.xe s₁) ?air PassesOwn.looking).run [] s σ H D (I.toTry _) h) ?fine (fun _ _ he => he))
  case fine =>
    intro f s1 hsp
    cases f with
    | next => obtain ⟨σ', H', J', q⟩ := hsp; exact wpAny_execs_nil ⟨σ', H', J'.ofTry ok, q⟩
    | brk => obtain ⟨σ', H', J', q⟩ := hsp; exact ⟨σ', H', J'.ofTry ok, q⟩
    | cont => obtain ⟨σ', H', J', q⟩ := hsp; exact ⟨σ', H', J'.ofTry ok, q⟩
    | ret u => obtain ⟨v, σ', H', J', r, q⟩ := hsp; exact ⟨v, σ', H', J'.ofTry ok, r, q⟩
  case air =>
    intro u s' xx
    obtain ⟨a, B, sI, pins', σ', H', cls, d, rfl, J', nb, up, sky, na, os, ag, w⟩ := xx
    have J : Inv X pins σ' H' sI := J'.ofTry ok
    rw [hs] at sky
    refine Sky.land (L := X.env.locals) Zc.steady hfr hf sky fun h3 fl3 up3 => ?_
    have J3 : Inv X pins σ' H' { s' with heap := h3 } := J.landed nb fl3.1 (up.trans up3) os ag
    obtain ⟨oe3, vs3, he3, hz3, hd3⟩ := fl3.there
    have nfr : a ∉ frs (X.env :: X.outer) := fun hm => by
      obtain ⟨_, o', e', hnf⟩ := fl3.2.2.1.mem hm
      rw [he3] at e'
      cases e'
      exact hnf _ hd3
    have nL : a ≠ X.env.locals := fun z => nfr (List.mem_filterMap.mpr ⟨X.env, List.mem_cons_self, by rw [hf, z]⟩)
    have nF : a ∉ X.fs := fun hm => by
      obtain ⟨e, he, q⟩ := List.mem_filterMap.mp hm
      exact nfr (List.mem_filterMap.mpr ⟨e, List.mem_cons_of_mem _ he, q⟩)
    have S3 := J3.suite he3 hd3 na nL nF
    have go : ∀ {hs' : List ExceptHandler} {l' : List (Value × (Addr → Value → Option Addr → TS))}, Clauses X n hs' l' → wClauses X.K i Wout D l' cls d σ' H' → wpAny (model X.prog X.w) X.A (handleBy (.ref a) X.env hs') (SP X pins D) X.xe { s' with heap := h3 } := by
      intro hs' l' hk
      induction hk with
      | nil =>
        intro w
        refine wpAny_handleBy_nil ?_
        obtain ⟨k1, k2, k3, oe, vs, T, oT, ts', he, hz, hd, h1, hr⟩ := id fl3
        unfold PySem.passOn
        refine wpAny_bind (wpAny_field he hd h1 ?_)
        rw [if_neg (show ¬ ((Value.ref T == Value.none) = true) from by simp)]
        have fin : wpAny (model X.prog X.w) X.A (setFlight (.ref a) X.env.frame) (fun _ s4 => wpAny (model X.prog X.w) X.A (throw (.ref a) : Sem Flow) (SP X pins D) X.xe s4) X.xe { s' with heap := h3 } := by
          rw [hf]
          exact HandSPX.setFlight_upZ fl3 fun h4 hh4 up4 => wpAny_throw (tk _ _ ⟨a, B, sI, pins, σ', H', cls, d, rfl, J, nb, (up.trans up3).trans up4, .inr (.inr (by rw [hs]; exact hh4)), na, os, ag, w⟩)
        first
          | exact wpAny_bind (wpAny_pure (wpAny_bind fin))
          | exact wpAny_bind fin
      | @cons x c ts b₀ su np pos' hs2 l2 hc hsu r ih =>
        intro w
        obtain ⟨b, hb1, hyes, hno⟩ := w
        refine wpAny_handleBy_cons (codeAny_handlers_test ?_) (by intro q; cases q)
        have LM := PySem.W.exm_one (M := model X.prog X.w) (J3.kIn) (fun A Q E s k q => wpAny_typeOf_ref (k _ _ he3) (by rw [hz3.1]; exact q)) hb1
        have test : ∀ {Q E : Value → Shared → Prop}, Q c { s' with heap := h3 } → wpAny (model X.prog X.w) (X.A.mark (some (.ref a))) (eval (.Name x np) X.env) Q E { s' with heap := h3 } := fun {Q E} q => by
          obtain ⟨hg, hdbg, hm | ⟨hm, hv, hnn⟩⟩ := hc
          · exact ld_glob (X := X.suite a ((a, oe3) :: (X.pn ++ pins))) S3 hg hm q hdbg
          · exact ld_blt (X := X.suite a ((a, oe3) :: (X.pn ++ pins))) S3 hg hm hv q hnn hdbg
        refine test (LM.here ?_)
        cases b with
        | false => exact ih (hno rfl)
        | true =>
          refine codeAny_handlers_suite_as (HandSPX.lands_againZ fl3 fun h4 fl4 up4 => ?_)
          have J4 : Inv X pins σ' H' { s' with heap := h4 } := J.landed nb fl4.1 ((up.trans up3).trans up4) os ag
          obtain ⟨oe4, vs4, he4, hz4, hd4⟩ := fl4.there
          have S4 := J4.suite he4 hd4 na nL nF
          refine store_ok (X := X.suite a ((a, oe4) :: (X.pn ++ pins))) (v := .ref a) S4 hN hi hloc rfl (fun s5 S5 => ?_) (.inr hln)
          refine wpAny_mono ((hsu a oe4 cls d (X.pn ++ pins) hz4 ⟨_, hd4⟩).run [] s5 _ H' _ S5 (hyes rfl a na)) (fun f s6 hsp => ?_) (fun _ _ z => False.elim z)
          cases f with
          | next => obtain ⟨σ6, H6, S6, q6⟩ := hsp; exact gone_ok (S6.unsuite ok) hN hi hln fun s7 J7 => ⟨_, _, J7, q6⟩
          | brk => obtain ⟨σ6, H6, S6, q6⟩ := hsp; exact gone_ok (S6.unsuite ok) hN hi hln fun s7 J7 => ⟨_, _, J7, q6⟩
          | cont => obtain ⟨σ6, H6, S6, q6⟩ := hsp; exact gone_ok (S6.unsuite ok) hN hi hln fun s7 J7 => ⟨_, _, J7, q6⟩
          | ret u => obtain ⟨v6, σ6, H6, S6, r6, q6⟩ := hsp; exact gone_ok (S6.unsuite ok) hN hi hln fun s7 J7 => ⟨_, _, _, J7, r6, q6⟩
    exact go hh w
end
end Wk

set_option Elab.async false
set_option linter.all false
set_option maxRecDepth 100000
set_option maxHeartbeats 4000000
namespace Wk
open PySem PySem.Spec PyProof.Rows L2 Evl
/-- an error class without a field -/
structure ErrN (K : PySem.W.Frag) (mg : Str → Option Value) (x : Str) (C : Addr) : Prop where
  g : mg x = some (.ref C)
  q : PySem.W.excIn K C [.type "ValueError", .type "Exception", .type "BaseException", .type "object"] "ValueError.__new__" = true
  k : PySem.W.keepIn K (.ref C) = true
  b : PySem.W.subIn K (.ref C) (.type "BaseException") = some true
  t : PySem.W.typeIn K (.ref C) = some (.type "type")
theorem pmk_errN {X : Cx} {K : PySem.W.Frag} {mg : Str → Option Value} {x : Str} {C : Addr} {p pos : Pos} (hK : X.K = K) (hm : X.mg = mg) (T : ErrN K mg x C) (hg : Gl X x) (hdb : (x == ("__debug__" : Str)) = false := by decide) :
    PMk X (.Call (.Name x p) [] [] pos) (fun _ H Q => Q (.ref C) none H) := by
  subst hK hm
  intro ps s σ H Q I h
  refine wpAny_Call_Name_kw (ld_glob I hg T.g ?_ hdb)
  refine PySem.W.callWith_K0 I.kIn T.k ?_
  show wpAny _ _ (call (.ref C) []) _ _ _
  obtain ⟨bm, N, nm, qn, bs, hdct, sn, sub, ab, col, dd, k0, k1, k2, k3, k5, mN, hC, hN, hni, T2⟩ := exc_obj I.kIn T.q
  refine wpAny_call_exc_subT PySem.F.excBase_ValueError T2 hC hN hni (fun h' e hm => ?_) (Nat.zero_le _)
  exact mk_of I hm (raises_own T.b T.t) h (I.hok.gone hm.new)
structure CalX (P : Program) (w : World) (K : PySem.W.Frag) (mg : Str → Option Value) (base : Heap) (x : Str) (ps : List Str) (k : Nat) (sp : Sp) : Prop where
  ex : ∃ (f : Addr) (fd : FuncData), FnOk P w K mg base (L2.CX P w) k f fd ps sp ∧ mg x = some (.ref f) ∧ PySem.W.keepIn K (.ref f) = true ∧ Binds K fd ps []
def isStr : PyData → Bool
  | .str _ => true
  | _ => false
theorem kit_str (d : PyData) : kitB (tyN d) "str" = some (isStr d) := by
  cases d with
  | none => exact show kitB "NoneType" "str" = some false by decide +kernel
  | bool b => exact show kitB "bool" "str" = some false by decide +kernel
  | int i => exact show kitB "int" "str" = some false by decide +kernel
  | str z => exact show kitB "str" "str" = some true by decide +kernel
  | list ds => exact show kitB "list" "str" = some false by decide +kernel
  | tuple ds => exact show kitB "tuple" "str" = some false by decide +kernel
  | dict ds => exact show kitB "dict" "str" = some false by decide +kernel
theorem tu_inv {H : Hp} {v : V} {d : PyData} (hd : Dq H v d) (h : isTu d = true) : ∃ (a : Addr) (xs : List V) (ds : List PyData), v = .ref a ∧ d = .tuple ds ∧ H a = some (.tup xs) ∧ DqA H xs ds := by
  cases hd <;> first | (cases h; done) | skip
  rename_i a xs ds h1 h2
  exact ⟨a, xs, ds, rfl, rfl, h1, h2⟩
theorem pss_when {X : Cx} {l : List Stmt} {t : TS} {c : Prop} (h : c → PSs X l t) : PSs X l (fun D σ H => c ∧ t D σ H) := ⟨fun pins s σ H D I hh => (h hh.1).run pins s σ H D I hh.2⟩
theorem call_isiK {X : Cx} {K : PySem.W.Frag} (hK : X.K = K) : CallR X (.builtin "isinstance") (rIsi K) := by
  subst hK
  exact call_isi
theorem call_isEK {X : Cx} {K : PySem.W.Frag} {a D : Addr} {oe : Obj} {pn : List (Addr × Obj)} (hK : X.K = K) (C : ExcC K D) (hz : Zc (.ref D) none oe) (hf : ∃ vs, oe.data = .fields vs) : CallR (X.suite a ((a, oe) :: pn)) (.builtin "isinstance") (rIsE K D a) := by
  subst hK
  exact call_isE C hz hf
theorem all_bad {f : PyData → Bool} {l : List PyData} (h : ∃ x, x ∈ l ∧ f x = false) : l.all f = false := by
  obtain ⟨x, hx, hf⟩ := h
  cases hc : l.all f with
  | false => rfl
  | true =>
    rw [List.all_eq_true.mp hc x hx] at hf
    cases hf
/-- a method that may raise -/
structure MskX (P : Program) (w : World) (K : PySem.W.Frag) (mg : Str → Option Value) (base : Heap) (CS : Addr) (m : Str) (ps : List Str) (n : Nat) (sp : Sp) : Prop where
  ex : ∃ (fM : Addr) (fd : FuncData), Meth K CS m fM ∧ FnOk P w K mg base (L2.CX P w) n fM fd ps sp ∧ Binds K fd ps []
def W0 : WX := fun _ _ _ _ => False
end Wk

set_option Elab.async false
set_option linter.all false
set_option maxRecDepth 100000
set_option maxHeartbeats 4000000
namespace Wk
/-! cheapest ways as mathematics: items (cost, way), ordered by cost, then by the way's routers -/
abbrev It2 := Nat × List Nat
def wlt : List Nat → List Nat → Bool
  | _, [] => false
  | [], _ :: _ => true
  | a :: l, b :: m => decide (a < b) || (decide (a = b) && wlt l m)
def ilt (x y : It2) : Bool := decide (x.1 < y.1) || (decide (x.1 = y.1) && wlt x.2 y.2)
theorem wlt_irr : ∀ l : List Nat, wlt l l = false
  | [] => rfl
  | a :: l => by simp [wlt, wlt_irr l]
theorem wlt_tri : ∀ l m : List Nat, wlt l m = true ∨ l = m ∨ wlt m l = true
  | [], [] => .inr (.inl rfl)
  | [], _ :: _ => .inl rfl
  | _ :: _, [] => .inr (.inr rfl)
  | a :: l, b :: m => by
    simp only [wlt, Bool.or_eq_true, Bool.and_eq_true, decide_eq_true_eq]
    rcases Nat.lt_trichotomy a b with h | h | h
    · exact .inl (.inl h)
    · rcases wlt_tri l m with k | k | k
      · exact .inl (.inr ⟨h, k⟩)
      · exact .inr (.inl (by rw [h, k]))
      · exact .inr (.inr (.inr ⟨h.symm, k⟩))
    · exact .inr (.inr (.inl h))
theorem wlt_trans : ∀ {l m k : List Nat}, wlt l m = true → wlt m k = true → wlt l k = true
  | [], _ :: _, _ :: _, _, _ => rfl
  | a :: l, b :: m, c :: k, h1, h2 => by
    simp only [wlt, Bool.or_eq_true, Bool.and_eq_true, decide_eq_true_eq] at h1 h2 ⊢
    rcases h1 with h1 | ⟨h1, h1'⟩ <;> rcases h2 with h2 | ⟨h2, h2'⟩
    · exact .inl (by omega)
    · exact .inl (by omega)
    · exact .inl (by omega)
    · exact .inr ⟨by omega, wlt_trans h1' h2'⟩
theorem ilt_irr (x : It2) : ilt x x = false := by simp [ilt, wlt_irr]
theorem ilt_tri (x y : It2) : ilt x y = true ∨ x = y ∨ ilt y x = true := by
  obtain ⟨c, l⟩ := x
  obtain ⟨d, m⟩ := y
  simp only [ilt, Bool.or_eq_true, Bool.and_eq_true, decide_eq_true_eq]
  rcases Nat.lt_trichotomy c d with h | h | h
  · exact .inl (.inl h)
  · rcases wlt_tri l m with k | k | k
    · exact .inl (.inr ⟨h, k⟩)
    · exact .inr (.inl (by rw [h, k]))
    · exact .inr (.inr (.inr ⟨h.symm, k⟩))
  · exact .inr (.inr (.inl h))
theorem ilt_trans {x y z : It2} (h1 : ilt x y = true) (h2 : ilt y z = true) : ilt x z = true := by
  simp only [ilt, Bool.or_eq_true, Bool.and_eq_true, decide_eq_true_eq] at h1 h2 ⊢
  rcases h1 with h1 | ⟨h1, h1'⟩ <;> rcases h2 with h2 | ⟨h2, h2'⟩
  · exact .inl (by omega)
  · exact .inl (by omega)
  · exact .inl (by omega)
  · exact .inr ⟨by omega, wlt_trans h1' h2'⟩
/-- not above -/
def ile (x y : It2) : Prop := ilt y x = false
theorem ile_refl (x : It2) : ile x x := ilt_irr x
theorem ile_or {x y : It2} : ile x y ↔ ilt x y = true ∨ x = y := by
  unfold ile
  constructor
  · intro h
    rcases ilt_tri x y with k | k | k
    · exact .inl k
    · exact .inr k
    · rw [h] at k; cases k
  · intro h
    rcases h with h | rfl
    · cases k : ilt y x with
      | false => rfl
      | true =>
        have := ilt_trans h k
        rw [ilt_irr] at this
        cases this
    · exact ilt_irr _
theorem ile_trans {x y z : It2} (h1 : ile x y) (h2 : ile y z) : ile x z := by
  rw [ile_or] at h1 h2 ⊢
  rcases h1 with h1 | rfl
  · rcases h2 with h2 | rfl
    · exact .inl (ilt_trans h1 h2)
    · exact .inl h1
  · exact h2
theorem ile_anti {x y : It2} (h1 : ile x y) (h2 : ile y x) : x = y := by
  rcases ile_or.mp h1 with h | h
  · unfold ile at h2
    rw [h] at h2
    cases h2
  · exact h
/-- one router ahead, a line's cost more -/
def ahead (a k : Nat) (x : It2) : It2 := (k + x.1, a :: x.2)
theorem ahead_lt {a k : Nat} {x y : It2} : ilt (ahead a k x) (ahead a k y) = ilt x y := by
  have e0 : wlt (a :: x.2) (a :: y.2) = wlt x.2 y.2 := by simp [wlt]
  unfold ilt ahead
  have e1 : decide (k + x.1 < k + y.1) = decide (x.1 < y.1) := by
    by_cases h : x.1 < y.1
    · rw [decide_eq_true h, decide_eq_true (by omega)]
    · rw [decide_eq_false h, decide_eq_false (by omega)]
  have e2 : decide (k + x.1 = k + y.1) = decide (x.1 = y.1) := by
    by_cases h : x.1 = y.1
    · rw [decide_eq_true h, decide_eq_true (by omega)]
    · rw [decide_eq_false h, decide_eq_false (by omega)]
  dsimp only
  rw [e0, e1, e2]
theorem ahead_le {a k : Nat} {x y : It2} (h : ile x y) : ile (ahead a k x) (ahead a k y) := by
  unfold ile at h ⊢
  rw [ahead_lt]
  exact h
theorem cost_lt {x y : It2} (h : x.1 < y.1) : ile x y := ile_or.mpr (.inl (by unfold ilt; rw [decide_eq_true h, Bool.true_or]))
theorem ile_cost {x y : It2} (h : ile x y) : x.1 ≤ y.1 := by
  rcases ile_or.mp h with h | h
  · simp only [ilt, Bool.or_eq_true, Bool.and_eq_true, decide_eq_true_eq] at h
    rcases h with h | h <;> omega
  · rw [h]; exact Nat.le_refl _
/-! walks to the goal -/
section
variable {Li : Nat → Nat → Option Nat} {g : Nat}
inductive Wlk (Li : Nat → Nat → Option Nat) (g : Nat) : It2 → Prop
  | nil : Wlk Li g (0, [g])
  | cons {a b k c : Nat} {w : List Nat} : Li a b = some k → Wlk Li g (c, b :: w) → Wlk Li g (k + c, a :: b :: w)
theorem Wlk.ne {x : It2} (h : Wlk Li g x) : ∃ a w, x.2 = a :: w := by
  cases h with
  | nil => exact ⟨g, [], rfl⟩
  | cons _ _ => exact ⟨_, _, rfl⟩
theorem Wlk.ahead {a b k : Nat} {x : It2} {w : List Nat} (hl : Li a b = some k) (h : Wlk Li g x) (hb : x.2 = b :: w) : Wlk Li g (Wk.ahead a k x) := by
  obtain ⟨c, v⟩ := x
  have hb : v = b :: w := hb
  subst hb
  exact .cons hl h
/-- the walk from a router that it passes -/
theorem Wlk.from_ {x : It2} (h : Wlk Li g x) : ∀ a ∈ x.2, ∃ y : It2, Wlk Li g y ∧ (∃ w, y.2 = a :: w) ∧ y.1 ≤ x.1 ∧ y.2.Sublist x.2 := by
  induction h with
  | nil =>
    intro a ha
    rw [List.mem_singleton.mp ha]
    exact ⟨_, .nil, ⟨[], rfl⟩, Nat.le_refl _, List.Sublist.refl _⟩
  | cons hl hw ih =>
    intro a ha
    rcases List.mem_cons.mp ha with rfl | h
    · exact ⟨_, .cons hl hw, ⟨_, rfl⟩, Nat.le_refl _, List.Sublist.refl _⟩
    · obtain ⟨y, h1, h2, h3, h4⟩ := ih a h
      exact ⟨y, h1, h2, Nat.le_trans h3 (Nat.le_add_left _ _), h4.cons _⟩
/-- without its rings a walk is no dearer, and as an item not above -/
theorem Wlk.simple (pos : ∀ a b k, Li a b = some k → 1 ≤ k) {x : It2} (h : Wlk Li g x) : ∃ y : It2, Wlk Li g y ∧ y.2.Nodup ∧ y.2.head? = x.2.head? ∧ ile y x := by
  induction h with
  | nil => exact ⟨_, .nil, by simp, rfl, ile_refl _⟩
  | @cons a b k c w hl hw ih =>
    obtain ⟨y, h1, h2, h3, h4⟩ := ih
    obtain ⟨b', v, hy⟩ := h1.ne
    have hb : b' = b := by
      rw [hy] at h3
      exact Option.some.inj h3
    subst hb
    by_cases ha : a ∈ y.2
    · obtain ⟨z, z1, ⟨u, z2⟩, z3, z4⟩ := h1.from_ a ha
      refine ⟨z, z1, z4.nodup h2, by rw [z2]; rfl, cost_lt ?_⟩
      have := ile_cost h4
      have := pos _ _ _ hl
      show z.1 < k + c
      have h5 : y.1 ≤ c := ile_cost h4
      omega
    · refine ⟨Wk.ahead a k y, h1.ahead hl hy, ?_, rfl, ahead_le h4⟩
      show (a :: y.2).Nodup
      exact List.nodup_cons.mpr ⟨ha, h2⟩
theorem Wlk.in_ {n : Nat} (hg : g < n) (hin : ∀ a b k, Li a b = some k → a < n ∧ b < n) {x : It2} (h : Wlk Li g x) : ∀ a ∈ x.2, a < n := by
  induction h with
  | nil => intro a ha; rw [List.mem_singleton.mp ha]; exact hg
  | cons hl hw ih =>
    intro a ha
    rcases List.mem_cons.mp ha with rfl | h
    · exact (hin _ _ _ hl).1
    · exact ih a h
theorem nodup_len2 : ∀ (n : Nat) {l : List Nat}, l.Nodup → (∀ x ∈ l, x < n) → l.length ≤ n
  | 0, l, _, h => by
    cases l with
    | nil => exact Nat.le_refl 0
    | cons a t => exact absurd (h a List.mem_cons_self) (Nat.not_lt_zero a)
  | n + 1, l, hd, h => by
    have h1 := nodup_len2 n (l := l.erase n) (hd.erase n) fun x hx => by
      have hm : x ≠ n ∧ x ∈ l := (List.Nodup.mem_erase_iff hd).mp hx
      have := h x hm.2
      omega
    by_cases c : n ∈ l
    · rw [List.length_erase_of_mem c] at h1
      omega
    · rw [List.erase_of_not_mem c] at h1
      omega
/-! the rounds -/
abbrev Rw2 := Nat → Option It2
def lesser : Option It2 → Option It2 → Option It2
  | none, y => y
  | some x, none => some x
  | some x, some y => if ilt y x = true then some y else some x
def relax (r : Rw2) (l : Nat × Nat × Nat) : Rw2 := fun i => if i = l.1 then lesser (r l.1) ((r l.2.1).map (ahead l.1 l.2.2)) else r i
def round2 (ls : List (Nat × Nat × Nat)) (r : Rw2) : Rw2 := ls.foldl relax r
def rounds2 (ls : List (Nat × Nat × Nat)) (r : Rw2) : Nat → Rw2
  | 0 => r
  | n + 1 => round2 ls (rounds2 ls r n)
def atGoal (g : Nat) : Rw2 := fun i => if i = g then some (0, [g]) else none
/-- o is there, and not above x -/
def Bel (o : Option It2) (x : It2) : Prop := ∃ y, o = some y ∧ ile y x
theorem Bel.le {o : Option It2} {x z : It2} (h : Bel o x) (k : ile x z) : Bel o z := by
  obtain ⟨y, h1, h2⟩ := h
  exact ⟨y, h1, ile_trans h2 k⟩
theorem lesser_l {o p : Option It2} {x : It2} (h : Bel o x) : Bel (lesser o p) x := by
  obtain ⟨y, rfl, h2⟩ := h
  cases p with
  | none => exact ⟨y, rfl, h2⟩
  | some z =>
    show Bel (if ilt z y = true then some z else some y) x
    by_cases c : ilt z y = true
    · rw [if_pos c]
      exact ⟨z, rfl, ile_trans (ile_or.mpr (.inl c)) h2⟩
    · rw [if_neg c]
      exact ⟨y, rfl, h2⟩
theorem lesser_r {o p : Option It2} {x : It2} (h : Bel p x) : Bel (lesser o p) x := by
  obtain ⟨z, rfl, h2⟩ := h
  cases o with
  | none => exact ⟨z, rfl, h2⟩
  | some y =>
    show Bel (if ilt z y = true then some z else some y) x
    by_cases c : ilt z y = true
    · rw [if_pos c]
      exact ⟨z, rfl, h2⟩
    · rw [if_neg c]
      refine ⟨y, rfl, ile_trans ?_ h2⟩
      unfold ile
      simpa using c
theorem lesser_or {o p : Option It2} {x : It2} (h : lesser o p = some x) : o = some x ∨ p = some x := by
  cases o with
  | none => exact .inr h
  | some y =>
    cases p with
    | none => exact .inl h
    | some z =>
      have h : (if ilt z y = true then some z else some y) = some x := h
      by_cases c : ilt z y = true
      · rw [if_pos c] at h; exact .inr h
      · rw [if_neg c] at h; exact .inl h
theorem relax_bel {r : Rw2} {l : Nat × Nat × Nat} {i : Nat} {x : It2} (h : Bel (r i) x) : Bel (relax r l i) x := by
  unfold relax
  by_cases c : i = l.1
  · rw [if_pos c, ← c]
    exact lesser_l h
  · rw [if_neg c]
    exact h
theorem round_bel {i : Nat} {x : It2} : ∀ (ls : List (Nat × Nat × Nat)) {r : Rw2}, Bel (r i) x → Bel (round2 ls r i) x
  | [], _, h => h
  | l :: ls, r, h => round_bel ls (relax_bel h)
/-- every item is a walk from its router -/
def Snd (Li : Nat → Nat → Option Nat) (g : Nat) (r : Rw2) : Prop := ∀ i x, r i = some x → Wlk Li g x ∧ ∃ w, x.2 = i :: w
theorem relax_snd {r : Rw2} {l : Nat × Nat × Nat} (hl : Li l.1 l.2.1 = some l.2.2) (h : Snd Li g r) : Snd Li g (relax r l) := fun i x hx => by
  unfold relax at hx
  by_cases c : i = l.1
  · rw [if_pos c] at hx
    rcases lesser_or hx with z | z
    · rw [c]; exact h _ _ z
    · cases e : r l.2.1 with
      | none => rw [e] at z; cases z
      | some y =>
        rw [e] at z
        have z : ahead l.1 l.2.2 y = x := Option.some.inj z
        obtain ⟨h1, w, h2⟩ := h _ _ e
        rw [← z, c]
        exact ⟨h1.ahead hl h2, y.2, rfl⟩
  · rw [if_neg c] at hx
    exact h i x hx
theorem round_snd : ∀ (ls : List (Nat × Nat × Nat)) {r : Rw2}, (∀ l ∈ ls, Li l.1 l.2.1 = some l.2.2) → Snd Li g r → Snd Li g (round2 ls r)
  | [], _, _, h => h
  | l :: ls, r, hl, h => round_snd ls (fun x hx => hl x (List.mem_cons_of_mem _ hx)) (relax_snd (hl l List.mem_cons_self) h)
theorem rounds_snd {ls : List (Nat × Nat × Nat)} (hl : ∀ l ∈ ls, Li l.1 l.2.1 = some l.2.2) : ∀ n, Snd Li g (rounds2 ls (atGoal g) n)
  | 0 => fun i x hx => by
    have hx : (if i = g then some (0, [g]) else none) = some x := hx
    by_cases c : i = g
    · rw [if_pos c] at hx
      rw [← Option.some.inj hx, c]
      exact ⟨.nil, [], rfl⟩
    · rw [if_neg c] at hx
      cases hx
  | n + 1 => round_snd ls hl (rounds_snd hl n)
theorem round_step {a b k : Nat} {x : It2} : ∀ (ls : List (Nat × Nat × Nat)) {r : Rw2}, (a, b, k) ∈ ls → Bel (r b) x → Bel (round2 ls r a) (ahead a k x)
  | [], _, h, _ => by cases h
  | l :: ls, r, h, hb => by
    rcases List.mem_cons.mp h with e | h
    · refine round_bel ls ?_
      rw [← e]
      unfold relax
      rw [if_pos rfl]
      refine lesser_r ?_
      obtain ⟨y, h1, h2⟩ := hb
      exact ⟨ahead a k y, by show (r b).map _ = _; rw [h1]; rfl, ahead_le h2⟩
    · exact round_step ls h (relax_bel hb)
theorem rounds_all {ls : List (Nat × Nat × Nat)} (hall : ∀ a b k, Li a b = some k → (a, b, k) ∈ ls) {x : It2} (h : Wlk Li g x) : ∀ n i w, x.2 = i :: w → w.length ≤ n → Bel (rounds2 ls (atGoal g) n i) x := by
  induction h with
  | nil =>
    intro n i w e hn
    have e : [g] = i :: w := e
    injection e with e1 e2
    subst e1
    clear hn
    induction n with
    | zero => exact ⟨(0, [g]), by show (if g = g then _ else _) = _; rw [if_pos rfl], ile_refl _⟩
    | succ n ih => exact round_bel ls ih
  | @cons a b k c w' hl hw ih =>
    intro n i w e hn
    have e : a :: b :: w' = i :: w := e
    injection e with e1 e2
    subst e1
    subst e2
    cases n with
    | zero => simp at hn
    | succ n => exact round_step ls (hall _ _ _ hl) (ih n b w' rfl (by simpa using hn))
/-- what the rounds end with: the least walk of each router -/
theorem rounds_least {n : Nat} {ls : List (Nat × Nat × Nat)} (hg : g < n) (pos : ∀ a b k, Li a b = some k → 1 ≤ k) (hin : ∀ a b k, Li a b = some k → a < n ∧ b < n) (hls : ∀ a b k, (a, b, k) ∈ ls ↔ Li a b = some k) (i : Nat) :
    (∀ x w, Wlk Li g x → x.2 = i :: w → Bel (rounds2 ls (atGoal g) n i) x) ∧ ∀ x, rounds2 ls (atGoal g) n i = some x → Wlk Li g x ∧ x.2.Nodup ∧ ∃ w, x.2 = i :: w := by
  have hs : Snd Li g (rounds2 ls (atGoal g) n) := rounds_snd (fun l hl => (hls l.1 l.2.1 l.2.2).mp hl) n
  have key : ∀ x w, Wlk Li g x → x.2 = i :: w → ∃ y, Wlk Li g y ∧ y.2.Nodup ∧ ile y x ∧ Bel (rounds2 ls (atGoal g) n i) y := fun x w hx hw => by
    obtain ⟨y, h1, h2, h3, h4⟩ := hx.simple pos
    obtain ⟨j, v, hy⟩ := h1.ne
    have hj : j = i := by
      rw [hy, hw] at h3
      exact Option.some.inj h3
    subst hj
    have hl := nodup_len2 n h2 (h1.in_ hg hin)
    rw [hy] at hl
    exact ⟨y, h1, h2, h4, rounds_all (fun a b k h => (hls a b k).mpr h) h1 n j v hy (by simp at hl; omega)⟩
  refine ⟨fun x w hx hw => ?_, fun x hx => ?_⟩
  · obtain ⟨y, _, _, h3, h4⟩ := key x w hx hw
    exact h4.le h3
  · obtain ⟨h1, w, h2⟩ := hs i x hx
    refine ⟨h1, ?_, w, h2⟩
    obtain ⟨y, _, y2, y3, z, z1, z2⟩ := key x w h1 h2
    rw [hx] at z1
    cases z1
    rw [ile_anti z2 y3]
    exact y2
end
end Wk

set_option Elab.async false
set_option linter.all false
set_option maxRecDepth 100000
set_option maxHeartbeats 4000000
namespace Wk
open PySem PySem.Spec PyProof.Rows L2 Evl
/-! for v in d.values(), d a dict whose keys are tuples -/
section
variable {X : Cx} {pins : List (Addr × Obj)} {σ : L2.St} {H : Hp} {s : Shared} {d : Addr} {o : Obj}
theorem frzTv {kvs : List (List L2.Key × V)} (I : Inv X pins σ H s) (h : H d = some (.frz o (.dT kvs))) :
    (d == sysModules) = false ∧ s.heap.get? d = some o ∧ o.ExactDict ∧ ∃ (es : Array DictEntry) (ep : Nat), o.data = .dict es ep ∧ es.size = kvs.length ∧
      ∀ (i : Nat) (k : List L2.Key) (v : V), kvs[i]? = some (k, v) → ∃ (en : DictEntry), es[i]? = some en ∧ RelV v en.val := by
  obtain ⟨hd, z, hs, xs, pr, o', es, ep, ho, hx, hdt, he, _⟩ := I.hok d _ h
  rw [hd] at ho
  cases ho
  refine ⟨hs, hd, hx, es, ep, hdt, ?_, fun i k v e => ?_⟩
  · have l1 : es.size = xs.length := size_of_entries he
    have l2 : kvs.length = xs.length := Paired.length pr
    omega
  · obtain ⟨b, hb, e1, e2, e3⟩ := L2.paired_get pr e
    have q := entry_at he i
    rw [hb] at q
    exact ⟨_, q, e3⟩
end
def Itvt (d : Addr) (o : Obj) (kvs : List (List L2.Key × V)) : It :=
  ⟨fun i H => H d = some (.frz o (.dT kvs)) ∧ i < kvs.length, fun i H x H' => H' = H ∧ ∃ k, kvs[i]? = some (k, x), fun i H => H d = some (.frz o (.dT kvs)) ∧ kvs.length ≤ i⟩
section
variable {P : Program} {w : World} {K : PySem.W.Frag} {tg : Expr} {d : Addr} {o : Obj} {es : Array DictEntry} {ep : Nat}
theorem turn_valsT {kvs : List (List L2.Key × V)} (it : Addr) (hod : o.data = .dict es ep) : Turn P w K tg (Itvt d o kvs) [it] it (fun i h => h.IsValIter it d i kvs.length ep) where
  mem := by simp
  obj := fun i h st b hb => by
    have e : b = it := by simpa using hb
    subst e
    obtain ⟨oi, e, c, dd⟩ := st
    exact ⟨oi, e, fun v z => by rw [dd] at z; cases z⟩
  keep := fun i h h' st k => st.at fun oi e => k it (by simp) oi e
  item := by
    intro X hP hw hK hc i pins s σ H E I hf st hg
    subst hP hw hK
    obtain ⟨hd, hi⟩ := hg
    obtain ⟨f0, f1, f2, f3, f4, f5⟩ := hf it (by simp)
    obtain ⟨hs, hgd, hx, es', ep', hdt, hsz, ent⟩ := frzTv I hd
    obtain ⟨rfl, rfl⟩ := dict_ep hod hdt
    obtain ⟨⟨k, v⟩, hkv⟩ : ∃ p, kvs[i]? = some p := ⟨kvs[i], List.getElem?_eq_getElem hi⟩
    obtain ⟨en, hen, ru⟩ := ent i k v hkv
    have hlt : i < es'.size := by omega
    have hget : es'[i] = en := by
      rw [Array.getElem?_eq_getElem hlt] at hen
      exact Option.some.inj hen
    rw [← hsz] at st
    refine wpAny_pyNext_values_item_raw st ⟨o, hgd, hx, hdt⟩ hlt fun h' st' sb => ?_
    have I1 : Inv X pins σ H { s with heap := h' } := I.turned (t' := s.toks) (fun b ob hb e => (sb.2 b hb).trans e) f0 f1 f3 f4 f5
    obtain ⟨oi, e, c, dd⟩ := id st'
    refine ⟨es'[i].val, rfl, go_of (s := { s with heap := h' }) e c dd (by decide) ⟨v, H, I1, by rw [hget]; exact ru, ⟨rfl, k, hkv⟩, ?_, fun b hb => (hf b hb).1⟩⟩
    show h'.IsValIter it d (i + 1) kvs.length _
    rw [← hsz]
    exact st'
  done := by
    intro X hP hw hK hc i pins s σ H E I hf st hg
    subst hP hw hK
    obtain ⟨hd, hi⟩ := hg
    obtain ⟨f0, f1, f2, f3, f4, f5⟩ := hf it (by simp)
    obtain ⟨hs, hgd, hx, es', ep', hdt, hsz, ent⟩ := frzTv I hd
    obtain ⟨rfl, rfl⟩ := dict_ep hod hdt
    rw [← hsz] at st
    exact wpAny_pyNext_values_end_raw (I.ok.hd hc) st ⟨o, hgd, hx, hdt⟩ (by omega) fun h' eb => ⟨rfl, I.turned (t' := s.toks) (fun b ob hb e => eb b ob hb e) f0 f1 f3 f4 f5⟩
  self := fun A i s Q E st h => wpAny_pyIter_valiter st h
theorem walk_valsT {kvs : List (List L2.Key × V)} : Walk (Itvt d o kvs) kvs.length (fun H => H d = some (.frz o (.dT kvs))) (fun i H x H' => H' = H ∧ ∃ k, kvs[i]? = some (k, x)) :=
  ⟨fun _ _ hi q => ⟨q, hi⟩, fun _ q => ⟨q, Nat.le_refl _⟩, fun _ _ _ _ _ _ y => y⟩
end
def iValsT (td : TE) : TI := fun σ H R => td σ H fun x H1 => ∃ d o kvs, x = .ref d ∧ H1 d = some (.frz o (.dT kvs)) ∧ R (Itvt d o kvs) H1
section
variable {X : Cx} {tg e : Expr} {td : TE} {apos cpos : Pos}
theorem pi_valuesT (he : PE X e td) (hbase : attributeBase e "values" X.env (eval e X.env) = eval e X.env := by rfl) (hline : (apos.endLine == cpos.line) = true := by rfl) : PI X tg (.Call (.Attribute e "values" apos) [] [] cpos) (iValsT td) := by
  refine ⟨fun pins s σ H R I h => ?_⟩
  refine wpAny_Call_method (T := "dict") (id := "dict.values") hbase rfl hline F.plainAttrs_dict F.slot_dict_values F.type_dict_values (thn (he.run pins s σ H _ I h) fun u s1 ⟨x, H1, I1, rx, d, o, kvs, ex, hd, q⟩ => ?_)
  subst ex
  obtain rfl : u = Value.ref d := rx
  obtain ⟨hs, hgd, hx, es, ep, hdt, hsz, ent⟩ := frzTv I1 hd
  have hm : s1.heap.DictRaw d es ep := ⟨o, hgd, hx, hdt⟩
  have hty : s1.TypeIs (.ref d) "dict" := ⟨o, hgd, hx.1⟩
  refine ⟨hty, fun a e => (by cases e; exact ⟨o, hgd, hx.2.1⟩), ?_⟩
  have I2 : Inv X pins σ H1 { s1 with heap := s1.heap.push { cls := .type "dict_values", data := .fields #[.ref d] } } := I1.kept (t' := s1.toks) fun b ob q => Heap.get?_push_of_some _ q
  have fin : wpAny (model X.prog X.w) X.A (pyIter (.ref s1.heap.objs.size)) (PIE X pins σ tg R) X.xe { s1 with heap := s1.heap.push { cls := .type "dict_values", data := .fields #[.ref d] } } := by
    refine wpAny_pyIter_values_raw (d := d) (es := es) (ep := ep) ⟨_, Heap.get?_push_size _ rfl, rfl, rfl⟩ ⟨o, Heap.get?_push_of_some _ hgd, hx, hdt⟩ (pi_one (tk := s1.toks) I2 _ (turn_valsT _ hdt) ⟨_, Heap.get?_push_size _ rfl, rfl, ?_⟩ q)
    rw [hsz] <;> rfl
  show wpAny _ _ (callWith cpos (.builtin "dict.values") [.ref d] [] []) _ X.xe s1
  exact method_meetsIn F.slot_dict_values F.entry_dict_values rfl (PySem.evalArgs_none ⟨rfl, hty, F.args_dict_values_1 _, _, meets_dict_values_raw d hs, ⟨es, ep, hm⟩, fin⟩)
end
end Wk

set_option Elab.async false
set_option linter.all false
set_option maxRecDepth 100000
set_option maxHeartbeats 4000000
namespace Wk
open PySem PySem.Spec PyProof.Rows L2 Evl
theorem g_two {i j : Nat} {x y : V} {σ : L2.St} {H : Hp} {k : L2.St → Hp → Prop} (h : k ((σ.set i (some x)).set j (some y)) H) : gCons (gName i) (gCons (gName j) gNil) [x, y] σ H k := ⟨_, _, rfl, ⟨_, _, rfl, ⟨rfl, h⟩⟩⟩
theorem isR_yes {n : Nat} {u : Nat} (h : u < n) : isR (n : Int) (.int (u : Int)) = true := by
  unfold isR isI valI
  rw [decide_eq_true (show (0 : Int) ≤ u by omega), decide_eq_true (show (u : Int) ≤ (n : Int) - 1 by omega)]
  rfl
theorem lk_putF {f g : Str} {v : V} {fs : List (Str × V)} (h : ¬ g = f) : (putF f v fs).lookup g = fs.lookup g := by rw [lookup_putF, if_neg h]
theorem lk_putS {f : Str} {v : V} {fs : List (Str × V)} : (putF f v fs).lookup f = some v := by rw [lookup_putF, if_pos rfl]
theorem len_putF (f : Str) (v : V) : ∀ fs : List (Str × V), (putF f v fs).length ≤ fs.length + 1
  | [] => Nat.le_refl _
  | (g, x) :: r => by
    have ih := len_putF f v r
    unfold putF
    split
    · simp
    · simp only [List.length_cons]; omega
def IsK (K : PySem.W.Frag) (H : Hp) (v : V) (n : String) (b : Bool) : Prop := ∀ H', Ex H H' → ∃ t, TyX K H' v t ∧ PySem.W.kitOne K t (.type n) = some b
def IsKr (K : PySem.W.Frag) (H : Hp) (v : V) (b : Bool) : Prop := ∀ H', Ex H H' → ∃ t, TyX K H' v t ∧ PySem.W.kitAny K t [.type "list", .type "tuple"] = some b
theorem IsK.mono {K : PySem.W.Frag} {H H' : Hp} {v : V} {n : String} {b : Bool} (e : Ex H H') (h : IsK K H v n b) : IsK K H' v n b := fun H2 e2 => h H2 (e.trans e2)
theorem IsKr.mono {K : PySem.W.Frag} {H H' : Hp} {v : V} {b : Bool} (e : Ex H H') (h : IsKr K H v b) : IsKr K H' v b := fun H2 e2 => h H2 (e.trans e2)
theorem isk_dq {K : PySem.W.Frag} {H : Hp} {v : V} {d : PyData} {n : String} {b : Bool} (h : Dq H v d) (hk : kitB (tyN d) n = some b) : IsK K H v n b := fun H' e => ⟨_, (h.mono e).ty, kit_ty hk⟩
theorem isk_tup {K : PySem.W.Frag} {H : Hp} {a : Addr} {xs : List V} {n : String} {b : Bool} (h : H a = some (.tup xs)) (hk : kitB "tuple" n = some b) : IsK K H (.ref a) n b := fun H' e => ⟨_, .base (.tup (e _ _ h)), kit_ty hk⟩
theorem isk_lst {K : PySem.W.Frag} {H : Hp} {a : Addr} {xs : List V} {n : String} {b : Bool} (h : H a = some (.lst xs)) (hk : kitB "list" n = some b) : IsK K H (.ref a) n b := fun H' e => ⟨_, .base (.lst (e _ _ h)), kit_ty hk⟩
theorem isk_dK {K : PySem.W.Frag} {H : Hp} {a : Addr} {kvs : List (L2.Key × V)} {n : String} {b : Bool} (h : H a = some (.dK kvs)) (hk : kitB "dict" n = some b) : IsK K H (.ref a) n b := fun H' e => ⟨_, .base (.dK (e _ _ h)), kit_ty hk⟩
theorem any2 {K : PySem.W.Frag} {t : Value} {b c : Bool} (h1 : PySem.W.kitOne K t (.type "list") = some b) (h2 : PySem.W.kitOne K t (.type "tuple") = some c) : PySem.W.kitAny K t [.type "list", .type "tuple"] = some (b || c) :=
  kitAny_cons h1 (fun hb => kitAny_cons h2 (fun hc => by rw [hb, hc]; exact kitAny_nil) (fun hc => by rw [hc]; simp)) (fun hb => by rw [hb]; rfl)
section
variable {K : PySem.W.Frag} {σ : L2.St} {H : Hp} {ta : TE}
theorem ev_isk {v : V} {n : String} {b : Bool} (h : Ev ta σ H v) (hk : IsK K H v n b) : Ev (tCB (rIsi K) (tCons ta (tCons (tC (.ty n)) tNil))) σ H (.bl b) := fun H1 e Q q =>
  h H1 e _ fun H2 e2 => by
    obtain ⟨t, ht, hb⟩ := hk H2 (e.trans e2)
    exact ⟨v, .ty n, t, .type n, b, rfl, .ty n, ht, hb, q H2 e2⟩
end
/-! a comprehension whose items are made -/
theorem lc_made {K : PySem.W.Frag} {σ : L2.St} {H : Hp} {te tl : TE} {j : Nat} {vs : List Nat} {Q : VK} {xs : List V} {Y : Nat → Hp → V → Prop} (hl : ∀ Q' : VK, (∀ a H1, Ex H H1 → H1 a = some (.lst xs) → Q' (.ref a) H1) → tl σ H Q') (hz : xs.length ≤ 40000) (hw : ∀ x, wipe ((wipe σ vs).set j (some x)) vs = wipe σ vs)
    (mono : ∀ i v H1 H2, Ex H1 H2 → Y i H1 v → Y i H2 v) (hup : ∀ i v H1 D ys o, H1 D = some (.lst ys) → v ≠ .ref D → Y i H1 v → Y i (upd H1 D o) v)
    (he : ∀ (i : Nat) x H1, Ex H H1 → xs[i]? = some x → ∀ Q' : VK, (∀ v H2, Ex H1 H2 → Y i H2 v → (∀ D ys, H1 D = some (.lst ys) → v ≠ .ref D) → Q' v H2) → te ((wipe σ vs).set j (some x)) H1 Q')
    (k : ∀ D H1 us, H D = none → Ex H H1 → H1 D = some (.lst us) → us.length = xs.length → (∀ i v, us[i]? = some v → Y i H1 v) → Q (.ref D) H1) :
    tLc (iList K tl) (gName j) tYes te vs σ H Q := hl _ fun a H1 e1 hx => by
  refine ⟨a, rfl, ⟨xs, sq_of hx⟩, fun D hD => ?_⟩
  refine lc_it (walk_list (K := K) (a := a) (xs := xs)) (fun i H' => ∃ us, Ex H1 H' ∧ H' D = some (.lst us) ∧ us.length = i ∧ ∀ r v, us[r]? = some v → v ≠ .ref D ∧ Y r H' v) ⟨[], Ex.new hD, upd_same, rfl, fun r v h => by cases h⟩ (fun i H' _ p => ?_) (fun i x H' H2 hi p y => ?_) (fun H' p => ?_)
  · obtain ⟨_, e2, _⟩ := p
    exact sq_of (e2 _ _ hx)
  · obtain ⟨us, e2, h1, h2, h3⟩ := p
    obtain ⟨rfl, hxi⟩ := y
    refine ⟨hw _, et_yes H2 (Ex.refl _) _ fun H3 e3 => ?_⟩
    rw [if_pos rfl]
    refine he i x H3 ((e1.trans e2).trans e3) hxi _ fun y H4 e4 hy hne => ?_
    have hD4 := e4 _ _ (e3 _ _ h1)
    have e14 := (e2.trans e3).trans e4
    refine ⟨us, hD4, sz_lt (by omega), us ++ [y], Ex.mut e14 hD, upd_same, by simp [h2], fun r v hr => ?_⟩
    by_cases c : r < us.length
    · rw [List.getElem?_append_left c] at hr
      obtain ⟨g1, g2⟩ := h3 r v hr
      exact ⟨g1, hup _ _ _ _ _ _ hD4 g1 (mono _ _ _ _ (e3.trans e4) g2)⟩
    · rw [List.getElem?_append_right (by omega)] at hr
      have hr0 : r - us.length = 0 := by
        cases hz : r - us.length with
        | zero => rfl
        | succ q => rw [hz] at hr; cases hr
      rw [hr0] at hr
      cases hr
      have g1 := hne D _ (e3 _ _ h1)
      rw [show r = i by omega]
      exact ⟨g1, hup _ _ _ _ _ _ hD4 g1 hy⟩
  · obtain ⟨us, e2, h1, h2, h3⟩ := p
    exact k D H' us (fresh_back e1 hD) (e1.trans e2) h1 h2 fun r v hr => (h3 r v hr).2
/-- the same over range(n) -/
theorem lc_madeR {σ : L2.St} {H : Hp} {te ta : TE} {j n : Nat} {vs : List Nat} {Q : VK} {Y : Nat → Hp → V → Prop} (ha : Ev ta σ H (.int (n : Int))) (hz : n ≤ 40000) (hw : ∀ x, wipe ((wipe σ vs).set j (some x)) vs = wipe σ vs)
    (mono : ∀ i v H1 H2, Ex H1 H2 → Y i H1 v → Y i H2 v) (hup : ∀ i v H1 D ys o, H1 D = some (.lst ys) → v ≠ .ref D → Y i H1 v → Y i (upd H1 D o) v)
    (he : ∀ (i : Nat) H1, Ex H H1 → i < n → ∀ Q' : VK, (∀ v H2, Ex H1 H2 → Y i H2 v → (∀ D ys, H1 D = some (.lst ys) → v ≠ .ref D) → Q' v H2) → te ((wipe σ vs).set j (some (.int (i : Int)))) H1 Q')
    (k : ∀ D H1 us, H D = none → Ex H H1 → H1 D = some (.lst us) → us.length = n → (∀ i v, us[i]? = some v → Y i H1 v) → Q (.ref D) H1) :
    tLc (iRng1 (tCons ta tNil)) (gName j) tYes te vs σ H Q := ha H (Ex.refl _) _ fun H1 e1 => by
  refine ⟨(n : Int), rfl, by omega, by omega, fun D hD => ?_⟩
  refine lc_range (lo := 0) (n := (n : Int).toNat) (fun i H' => ∃ us, Ex H1 H' ∧ H' D = some (.lst us) ∧ us.length = i ∧ ∀ r v, us[r]? = some v → v ≠ .ref D ∧ Y r H' v) ⟨[], Ex.new hD, upd_same, rfl, fun r v h => by cases h⟩ (fun i H' hi hh => ?_) (fun H' p => ?_)
  · obtain ⟨us, e2, h1, h2, h3⟩ := hh
    have e0 : (0 : Int) + (i : Int) = (i : Int) := Int.zero_add _
    show wipe ((wipe σ vs).set j (some (.int ((0 : Int) + (i : Int))))) vs = wipe σ vs ∧ te ((wipe σ vs).set j (some (.int ((0 : Int) + (i : Int))))) H' fun y H4 => ∃ acc, H4 D = some (.lst acc) ∧ acc.length < sizeLine ∧ ∃ us, Ex H1 (upd H4 D (.lst (acc ++ [y]))) ∧ (upd H4 D (.lst (acc ++ [y]))) D = some (.lst us) ∧ us.length = i + 1 ∧ ∀ (r : Nat) v, us[r]? = some v → v ≠ .ref D ∧ Y r (upd H4 D (.lst (acc ++ [y]))) v
    rw [e0]
    refine ⟨hw _, he i H' (e1.trans e2) (by omega) _ fun y H4 e4 hy hne => ?_⟩
    have hD4 := e4 _ _ h1
    refine ⟨us, hD4, sz_lt (by omega), us ++ [y], Ex.mut (e2.trans e4) hD, upd_same, by simp [h2], fun r v hr => ?_⟩
    by_cases c : r < us.length
    · rw [List.getElem?_append_left c] at hr
      obtain ⟨g1, g2⟩ := h3 r v hr
      exact ⟨g1, hup _ _ _ _ _ _ hD4 g1 (mono _ _ _ _ e4 g2)⟩
    · rw [List.getElem?_append_right (by omega)] at hr
      have hr0 : r - us.length = 0 := by
        cases hz : r - us.length with
        | zero => rfl
        | succ q => rw [hz] at hr; cases hr
      rw [hr0] at hr
      cases hr
      have g1 := hne D _ h1
      rw [show r = i by omega]
      exact ⟨g1, hup _ _ _ _ _ _ hD4 g1 hy⟩
  · obtain ⟨us, e2, h1, h2, h3⟩ := p
    exact k D H' us (fresh_back e1 hD) (e1.trans e2) h1 (by omega) fun r v hr => (h3 r v hr).2
theorem isk_dT {K : PySem.W.Frag} {H : Hp} {a : Addr} {kvs : List (List L2.Key × V)} {n : String} {b : Bool} (h : H a = some (.dT kvs)) (hk : kitB "dict" n = some b) : IsK K H (.ref a) n b := fun H' e => ⟨_, .base (.dT (e _ _ h)), kit_ty hk⟩
/-! comprehensions over a dict whose keys are tuples -/
theorem lock_ex {H H' : Hp} {D : Addr} {o : HO} {fz : HO} (hD : H D = some o) (e : Ex (upd H D fz) H') : Ex H (upd H' D o) := fun b u hb => by
  by_cases z : b = D
  · rw [z, hD] at hb
    cases hb
    rw [z]
    exact upd_same
  · rw [upd_ne z]
    exact e _ _ (by rw [upd_ne z]; exact hb)
section
variable {σ : L2.St} {H : Hp} {te : TE} {D : Addr} {kvs : List (List L2.Key × V)} {n j : Nat} {vs : List Nat}
theorem el_keysT (v : Nat → V) (hσ : σ[n]? = some (some (.ref D))) (hD : H D = some (.dT kvs)) (hz : kvs.length ≤ 40000) (hw : ∀ x, wipe ((wipe σ vs).set j (some x)) vs = wipe σ vs)
    (he : ∀ (i : Nat) k x q H1, kvs[i]? = some (k, x) → H1 q = some (.tup (k.map kV)) → (∀ b o, b ≠ D → H b = some o → H1 b = some o) → Ev te ((wipe σ vs).set j (some (.ref q))) H1 (v i)) :
    EvL (tLockE (tLc (iKeys (tVar n)) (gName j) tYes te vs)) σ H ((List.range kvs.length).map v) := fun H0 e Q q => by
  have hD0 := e _ _ hD
  refine ⟨D, .dT kvs, hD0, trivial, fun od => ⟨.ref D, hσ, D, od, rfl, .inr ⟨kvs, upd_same, fun L hL => ?_⟩⟩⟩
  have nLD : L ≠ D := fun z => by rw [z, upd_same] at hL; cases hL
  have hHL : H0 L = none := by rw [upd_ne nLD] at hL; exact hL
  refine lc_it (walk_keysT (d := D) (o := od) (kvs := kvs)) (fun i H' => Ex (upd H0 D (.frz od (.dT kvs))) H' ∧ H' L = some (.lst ((List.range i).map v))) ⟨Ex.new hL, upd_same⟩ (fun i H' _ p => p.1 _ _ upd_same) (fun i x H' H2 hi p y => ?_) (fun H' p => ?_)
  · obtain ⟨rfl, k, u, t, hk, rfl, ht⟩ := y
    refine ⟨hw _, et_yes H2 (Ex.refl _) _ fun H3 e3 => ?_⟩
    rw [if_pos rfl]
    refine he i k u t H3 hk (e3 _ _ ht) (fun b o hb ho => e3 _ _ (p.1 _ _ (by rw [upd_ne hb]; exact e _ _ ho))) H3 (Ex.refl _) _ fun H4 e4 => ?_
    refine ⟨_, e4 _ _ (e3 _ _ p.2), by rw [List.length_map, List.length_range]; exact sz_lt (by omega), Ex.mut ((p.1.trans e3).trans e4) hL, ?_⟩
    rw [upd_same, List.range_succ, List.map_append]
    rfl
  · refine ⟨p.1 _ _ upd_same, q L _ hHL (lock_ex hD0 p.1) ?_⟩
    rw [upd_ne nLD]
    exact p.2
theorem el_valsT (v : Nat → V) (hσ : σ[n]? = some (some (.ref D))) (hD : H D = some (.dT kvs)) (hz : kvs.length ≤ 40000) (hw : ∀ x, wipe ((wipe σ vs).set j (some x)) vs = wipe σ vs)
    (he : ∀ (i : Nat) k x H1, kvs[i]? = some (k, x) → (∀ b o, b ≠ D → H b = some o → H1 b = some o) → Ev te ((wipe σ vs).set j (some x)) H1 (v i)) :
    EvL (tLockE (tLc (iValsT (tVar n)) (gName j) tYes te vs)) σ H ((List.range kvs.length).map v) := fun H0 e Q q => by
  have hD0 := e _ _ hD
  refine ⟨D, .dT kvs, hD0, trivial, fun od => ⟨.ref D, hσ, D, od, kvs, rfl, upd_same, fun L hL => ?_⟩⟩
  have nLD : L ≠ D := fun z => by rw [z, upd_same] at hL; cases hL
  have hHL : H0 L = none := by rw [upd_ne nLD] at hL; exact hL
  refine lc_it (walk_valsT (d := D) (o := od) (kvs := kvs)) (fun i H' => Ex (upd H0 D (.frz od (.dT kvs))) H' ∧ H' L = some (.lst ((List.range i).map v))) ⟨Ex.new hL, upd_same⟩ (fun i H' _ p => p.1 _ _ upd_same) (fun i x H' H2 hi p y => ?_) (fun H' p => ?_)
  · obtain ⟨rfl, k, hk⟩ := y
    refine ⟨hw _, et_yes H2 (Ex.refl _) _ fun H3 e3 => ?_⟩
    rw [if_pos rfl]
    refine he i k x H3 hk (fun b o hb ho => e3 _ _ (p.1 _ _ (by rw [upd_ne hb]; exact e _ _ ho))) H3 (Ex.refl _) _ fun H4 e4 => ?_
    refine ⟨_, e4 _ _ (e3 _ _ p.2), by rw [List.length_map, List.length_range]; exact sz_lt (by omega), Ex.mut ((p.1.trans e3).trans e4) hL, ?_⟩
    rw [upd_same, List.range_succ, List.map_append]
    rfl
  · refine ⟨p.1 _ _ upd_same, q L _ hHL (lock_ex hD0 p.1) ?_⟩
    rw [upd_ne nLD]
    exact p.2
theorem put_new {κ : Type} [DecidableEq κ] {l : List (κ × V)} {k : κ} {v : V} (h : k ∉ l.map (·.1)) : putK l k v = l ++ [(k, v)] := by
  unfold putK
  rw [if_neg]
  intro z
  obtain ⟨kv, h1, h2⟩ := List.any_eq_true.mp z
  exact h (List.mem_map.mpr ⟨kv, h1, of_decide_eq_true h2⟩)
theorem val_nd {κ : Type} [DecidableEq κ] : ∀ {l : List (κ × V)} {i : Nat} {k : κ} {v : V}, (l.map (·.1)).Nodup → l[i]? = some (k, v) → valV l k = some v
  | [], i, k, v, _, h => by cases h
  | p :: l, 0, k, v, _, h => by
    cases h
    exact valV_pos rfl
  | p :: l, i + 1, k, v, nd, h => by
    have h : l[i]? = some (k, v) := h
    rw [List.map_cons, List.nodup_cons] at nd
    rw [valV_neg fun z => nd.1 (List.mem_map.mpr ⟨(k, v), List.mem_of_getElem? h, z.symm⟩)]
    exact val_nd nd.2 h
/-- {k: d[k] for k in d}: the same again -/
theorem dq_copy {Q : VK} (hσ : σ[n]? = some (some (.ref D))) (hσ2 : ∀ x, ((wipe σ vs).set j (some x))[n]? = some (some (.ref D))) (hj : ∀ x, ((wipe σ vs).set j (some x))[j]? = some (some x)) (hD : H D = some (.dT kvs)) (nd : (kvs.map (·.1)).Nodup) (hz : kvs.length ≤ 40000) (hw : ∀ x, wipe ((wipe σ vs).set j (some x)) vs = wipe σ vs)
    (k : ∀ H' D2, H D2 = none → Ex H H' → H' D2 = some (.dT kvs) → Q (.ref D2) H') :
    tLockE (tDq (iKeys (tVar n)) (gName j) tYes (tVar j) (tDGet (tVar n) (tVar j)) vs) σ H Q := by
  refine ⟨D, .dT kvs, hD, trivial, fun od => ⟨.ref D, hσ, D, od, rfl, .inr ⟨kvs, upd_same, fun L hL => ?_⟩⟩⟩
  have nLD : L ≠ D := fun z => by rw [z, upd_same] at hL; cases hL
  have hHL : H L = none := by rw [upd_ne nLD] at hL; exact hL
  have w := walk_keysT (d := D) (o := od) (kvs := kvs)
  refine ⟨fun i m H' => m = kvs.length - i ∧ i ≤ kvs.length ∧ Ex (upd H D (.frz od (.dT kvs))) H' ∧ H' L = some (.dT (kvs.take i)), ⟨kvs.length, by simp, Nat.zero_le _, Ex.new hL, upd_same⟩, ?_⟩
  rintro i m H1 ⟨rfl, hi, p1, p2⟩
  by_cases lt : i < kvs.length
  · refine .inr ⟨w.goes i H1 lt (p1 _ _ upd_same), fun Ha => Ex (upd H D (.frz od (.dT kvs))) Ha ∧ Ha L = some (.dT (kvs.take (i + 1))), fun Ha q => ⟨kvs.length - (i + 1), by omega, rfl, lt, q⟩, fun x Ha y => ?_⟩
    obtain ⟨rfl, kk, u, t, hk, rfl, ht⟩ := w.yields i H1 x Ha lt (p1 _ _ upd_same) y
    refine ⟨hw _, ?_⟩
    have hv := val_nd nd hk
    refine ⟨.ref t, hj _, .ref D, hσ2 _, .ref t, hj _, D, u, rfl, .inr ⟨kvs, kk, t, .inr ⟨od, p1 _ _ upd_same⟩, rfl, ht, hv.symm⟩, ?_⟩
    refine ⟨_, DPut.t p2 ht (sz_lt (by rw [List.length_take]; omega)), Ex.mut p1 hL, ?_⟩
    rw [upd_same]
    have hkn : kk ∉ (kvs.take i).map (·.1) := fun z => by
      obtain ⟨e, h1, h2⟩ := List.mem_map.mp z
      obtain ⟨r, hr⟩ := List.getElem?_of_mem h1
      rw [List.getElem?_take] at hr
      by_cases c : r < i
      · rw [if_pos c] at hr
        have hr1 : (kvs.map (·.1))[r]? = some kk := by rw [List.getElem?_map, hr]; exact congrArg some h2
        have hk1 : (kvs.map (·.1))[i]? = some kk := by rw [List.getElem?_map, hk]; rfl
        have h3 := (List.getElem?_eq_some_iff.mp hr1)
        have h4 := (List.getElem?_eq_some_iff.mp hk1)
        obtain ⟨h3a, h3b⟩ := h3
        obtain ⟨h4a, h4b⟩ := h4
        exact (List.pairwise_iff_getElem.mp nd r i h3a h4a c) (h3b.trans h4b.symm)
      · rw [if_neg c] at hr
        cases hr
    rw [put_new hkn, take_snoc hk]
  · have e : i = kvs.length := by omega
    subst e
    rw [List.take_of_length_le (Nat.le_refl _)] at p2
    refine .inl ⟨w.stops H1 (p1 _ _ upd_same), p1 _ _ upd_same, k _ L hHL (lock_ex hD p1) ?_⟩
    rw [upd_ne nLD]
    exact p2
end
section
variable {P : Program} {w : World} {K : PySem.W.Frag} {mg : Str → Option Value} {base : Heap} {f : Addr} {fd : FuncData} {CC : Addr}
/-! kinds -/
abbrev sTupOf : Stmt := top 10
theorem scTupOf : FnScope ["many", "thing"] ["many", "thing"] (defScope sTupOf) := ⟨rfl, rfl, rfl, by decide +kernel, rfl, by decide +kernel, by decide +kernel⟩
abbrev spTupOf2 : Sp := spP fun H vs z => ∃ (m : Int) (v : V) (d : PyData), vs = [.int m, v] ∧ Dq H v d ∧ z = .bl (isTu d && decide (V.int ((itemsT d).length : Int) = V.int m))
theorem ok_tupOf2 (B : Bl mg) (F : FnP K "is_tuple_of" sTupOf f fd) : FnOk P w K mg base CX0 1 f fd ["many", "thing"] spTupOf2 := by
  refine F.ok scTupOf (fun vs H Q E h => ?_) (fun cdv A outer s H vs Q E hr h => ?_)
  · obtain ⟨z, ⟨m, v, d, rfl, _⟩, _⟩ := h
    rfl
  · obtain ⟨z, ⟨m, v, d, rfl, hv, rfl⟩, k⟩ := h
    refine ⟨_, pss_one (ps_ret (pe_and (pe_callB call_isi (by rfl) B.isi boot_isinstance (pa_cons (pv 1) (pa_cons (pe_bltn (v := .ty "tuple") (by rfl) B.tuple PyProof.Rows.boot_tuple rfl) pa_nil)))
      (pe_one (pe_cmpR op_eq (pe_callB call_len_seq (by rfl) B.len PySem.boot_len (pa_cons (pv 1) pa_nil)) (pv 0) (nomark _))))), ?_⟩
    refine s_ret (ev_andV (ev_isi (K := K) (ev_var rfl) hv (kit_tup d)) fun ht => ?_) k
    obtain ⟨t, xs, ds, rfl, rfl, hT, hxs⟩ := tu_inv hv ht
    have v1 : Ev (tVar 1) (start ["many", "thing"] [.int m, .ref t]) H (.ref t) := ev_var rfl
    have v0 : Ev (tVar 0) (start ["many", "thing"] [.int m, .ref t]) H (.int m) := ev_var rfl
    have z := ev_op (r := rEq) (ev_lenT (K := K) v1 (st_of hT)) v0 (rv_eq rfl)
    rw [hxs.length] at z
    exact z
abbrev spSize : Sp := spP fun H vs z => ∃ n : Nat, vs = [.int 1, .int (n : Int)] ∧ 1 ≤ n ∧ n ≤ 8 ∧ z = .bl true
abbrev sSize : Stmt := top 13
theorem scSize : FnScope ["least", "thing"] ["least", "thing"] (defScope sSize) := ⟨rfl, rfl, rfl, by decide +kernel, rfl, by decide +kernel, by decide +kernel⟩
theorem ok_size {t1 : Tok} (hM : mg "MOST_ROUTERS" = some (.int 8 t1)) (C : Cal P w K mg base "is_between" ["least", "most", "thing"] 2 spBetween) (F : FnP K "is_size" sSize f fd) : FnOk P w K mg base CX0 3 f fd ["least", "thing"] spSize := by
  refine F.ok scSize (fun vs H Q E h => ?_) (fun cdv A outer s H vs Q E hr h => ?_)
  · obtain ⟨z, ⟨n, rfl, _⟩, _⟩ := h
    rfl
  · obtain ⟨z, ⟨n, rfl, h1, h8, rfl⟩, k⟩ := h
    refine ⟨_, pss_one (ps_ret (pe_cal C hr (by rfl) (pa_cons (pv 0) (pa_cons (pe_glob (v := .int 8) (by rfl) hM ⟨_, rfl⟩) (pa_cons (pv 1) pa_nil))))), ?_⟩
    refine s_ret (ev_call (ea_cons (ev_var rfl) (ea_cons ev_c (ea_cons (ev_var rfl) ea_nil))) (spP_v fun H1 e => ⟨1, 8, .int (n : Int), .int (n : Int), rfl, .int _, ?_⟩)) k
    show _ = V.bl (true && (decide ((1 : Int) ≤ (n : Int)) && decide ((n : Int) ≤ 8)))
    rw [decide_eq_true (by omega), decide_eq_true (by omega)]
    rfl
abbrev spRP : Sp := spP fun H vs z => ∃ (n a b : Nat) (q : Addr), vs = [.int (n : Int), .ref q] ∧ H q = some (.tup [.int (a : Int), .int (b : Int)]) ∧ a < n ∧ b < n ∧ z = .bl true
abbrev sRP : Stmt := top 14
theorem scRP : FnScope ["size", "thing"] ["size", "thing"] (defScope sRP) := ⟨rfl, rfl, rfl, by decide +kernel, rfl, by decide +kernel, by decide +kernel⟩
theorem ok_rp (CT : Cal P w K mg base "is_tuple_of" ["many", "thing"] 1 spTupOf2) (CR : Cal P w K mg base "is_router" ["size", "thing"] 3 spRouter) (F : FnP K "is_router_pair" sRP f fd) : FnOk P w K mg base CX0 4 f fd ["size", "thing"] spRP := by
  refine F.ok scRP (fun vs H Q E h => ?_) (fun cdv A outer s H vs Q E hr h => ?_)
  · obtain ⟨z, ⟨n, a, b, q, rfl, _⟩, _⟩ := h
    rfl
  · obtain ⟨z, ⟨n, a, b, q, rfl, hq, ha, hb, rfl⟩, k⟩ := h
    refine ⟨_, pss_one (ps_ret (pe_and (pe_cal CT hr (by rfl) (pa_cons pe_int (pa_cons (pv 1) pa_nil))) (pe_and (pe_cal CR hr (by rfl) (pa_cons (pv 0) (pa_cons (pe_ix ix_tup (pv 1) pe_int (fun _ _ => rfl)) pa_nil))) (pe_one (pe_cal CR hr (by rfl) (pa_cons (pv 0) (pa_cons (pe_ix ix_tup (pv 1) pe_int (fun _ _ => rfl)) pa_nil))))))), ?_⟩
    have hd : ∀ {H1 : Hp}, Ex H H1 → Dq H1 (.ref q) (.tuple [.int (a : Int), .int (b : Int)]) := fun e => .tup (e _ _ hq) (.cons (.int _) (.cons (.int _) .nil))
    have i0 : ∀ {σ : L2.St}, σ[1]? = some (some (.ref q)) → Ev (tOp (rIxT K) (tVar 1) (tC (.int 0))) σ H (.int (a : Int)) := fun h1 => ev_op (ev_var h1) ev_c (rv_ixT (st_of hq) (atI_nat (j := 0) rfl))
    have i1 : ∀ {σ : L2.St}, σ[1]? = some (some (.ref q)) → Ev (tOp (rIxT K) (tVar 1) (tC (.int 1))) σ H (.int (b : Int)) := fun h1 => ev_op (ev_var h1) ev_c (rv_ixT (st_of hq) (atI_nat (j := 1) rfl))
    refine s_ret (v := .bl (true && (true && true))) (ev_andV (ev_call (ea_cons ev_c (ea_cons (ev_var rfl) ea_nil)) (spP_v fun H1 e => ⟨2, .ref q, _, rfl, hd e, rfl⟩)) fun _ =>
      ev_andV (ev_call (ea_cons (ev_var rfl) (ea_cons (i0 rfl) ea_nil)) (spP_v fun H1 e => ⟨(n : Int), .int (a : Int), .int (a : Int), rfl, .int _, by rw [isR_yes ha]⟩)) fun _ =>
      ev_call (ea_cons (ev_var rfl) (ea_cons (i1 rfl) ea_nil)) (spP_v fun H1 e => ⟨(n : Int), .int (b : Int), .int (b : Int), rfl, .int _, by rw [isR_yes hb]⟩)) k
end
end Wk

set_option Elab.async false
set_option linter.all false
set_option maxRecDepth 100000
set_option maxHeartbeats 4000000
namespace Wk
open PySem PySem.Spec PyProof.Rows L2 Evl
abbrev FnM (K : PySem.W.Frag) (x q : Str) (st : Stmt) (f : Addr) (fd : FuncData) : Prop := FunD K x q (defArgs st) (defBody st) (defScope st) [] [] f fd
theorem Of1.upd (x : Addr) (H : Hp) (o : HO) : Of1 x H (L2.upd H x o) := fun b u hb h => by rw [upd_ne hb]; exact h
theorem ix_tupK {X : Cx} {K : PySem.W.Frag} (hK : X.K = K) : IxR X (rIxT K) := by
  subst hK
  exact ix_tup
/-! the lines' dict -/
def Lk (a b : Nat) : List L2.Key := [.inl (a : Int), .inl (b : Int)]
structure LnOk (n : Nat) (kvs : List (List L2.Key × V)) : Prop where
  it : ∀ kv ∈ kvs, ∃ a b c : Nat, kv = (Lk a b, V.int (c : Int)) ∧ a < n ∧ b < n ∧ a ≠ b ∧ 1 ≤ c ∧ c ≤ 1000000000
  nd : (kvs.map (·.1)).Nodup
structure CXc (K : PySem.W.Frag) (CC : Addr) : Prop where
  cl : Cls K CC
  nS : NoAttr K CC "size"
  nL : NoAttr K CC "_lines"
def Cst (CC : Addr) (H : Hp) (x : Addr) (n : Nat) (kvs : List (List L2.Key × V)) : Prop := ∃ dx fs D, H x = some (.ins CC dx fs) ∧ fs.lookup ("size" : Str) = some (.int (n : Int)) ∧ fs.lookup ("_lines" : Str) = some (.ref D) ∧ fs.lookup ("cost" : Str) = none ∧ H D = some (.dT kvs)
theorem Cst.mono {CC : Addr} {H H' : Hp} {x : Addr} {n : Nat} {kvs : List (List L2.Key × V)} (e : Ex H H') (h : Cst CC H x n kvs) : Cst CC H' x n kvs := by
  obtain ⟨dx, fs, D, h1, h2, h3, h4, h5⟩ := h
  exact ⟨dx, fs, D, e _ _ h1, h2, h3, h4, e _ _ h5⟩
section
variable {P : Program} {w : World} {K : PySem.W.Frag} {mg : Str → Option Value} {base : Heap} {f : Addr} {fd : FuncData} {CC : Addr}
/-! refuse_no_router, of a router -/
abbrev spRNR : Sp := spP fun H vs z => ∃ (n r : Nat), vs = [.int (n : Int), .int (r : Int)] ∧ r < n ∧ z = .non
abbrev sRNR : Stmt := top 12
theorem scRNR : FnScope ["size", "thing"] ["size", "thing"] (defScope sRNR) := ⟨rfl, rfl, rfl, by decide +kernel, rfl, by decide +kernel, by decide +kernel⟩
theorem ok_rnr (CR : Cal P w K mg base "is_router" ["size", "thing"] 3 spRouter) (F : FnP K "refuse_no_router" sRNR f fd) : FnOk P w K mg base CX0 4 f fd ["size", "thing"] spRNR := by
  refine F.ok scRNR (fun vs H Q E h => ?_) (fun cdv A outer s H vs Q E hr h => ?_)
  · obtain ⟨z, ⟨n, r, rfl, _⟩, _⟩ := h
    rfl
  · obtain ⟨z, ⟨n, r, rfl, hrn, rfl⟩, k⟩ := h
    refine ⟨_, pss_one (ps_if (pt_not (pt_val (pe_cal CR hr (by rfl) (pa_cons (pv 0) (pa_cons (pv 1) pa_nil))))) (pss_one ps_never) pss_nil), ?_⟩
    have c2 : Ev (tCall spRouter [] E0 (tCons (tVar 0) (tCons (tVar 1) tNil))) (start ["size", "thing"] [.int (n : Int), .int (r : Int)]) H (.bl true) := ev_call (ea_cons (ev_var rfl) (ea_cons (ev_var rfl) ea_nil)) (spP_v fun H1 e => ⟨(n : Int), _, .int (r : Int), rfl, .int _, by rw [isR_yes hrn]⟩)
    exact s_when (b := !true) (et_not (et_B c2)) (fun z => by cases z) fun _ H1 e1 => k H1 e1
/-! is_line_dict -/
def spLD : Sp := fun vs H Q _ => ∃ (n : Nat) (D : Addr) (kvs : List (List L2.Key × V)), vs = [.int (n : Int), .ref D] ∧ H D = some (.dT kvs) ∧ LnOk n kvs ∧ kvs.length ≤ 100 ∧ ∀ H', Ex H H' → Q (.bl true) H'
abbrev sLD : Stmt := top 19
abbrev nLD : List Str := ["size", "thing", "pair", "cost"]
theorem scLD : FnScope nLD ["size", "thing"] (defScope sLD) := ⟨rfl, rfl, rfl, by decide +kernel, rfl, by decide +kernel, by decide +kernel⟩
theorem ok_ld (B : Bl mg) (hdi : mg "dict" = none) {t1 : Tok} (hM : mg "MOST_COST" = some (.int 1000000000 t1)) (CB : Cal P w K mg base "is_between" ["least", "most", "thing"] 2 spBetween) (CP : Cal P w K mg base "is_router_pair" ["size", "thing"] 4 spRP) (F : FnP K "is_line_dict" sLD f fd) : FnOk P w K mg base CX0 5 f fd ["size", "thing"] spLD := by
  refine F.ok scLD (fun vs H Q E h => ?_) (fun cdv A outer s H vs Q E hr h => ?_)
  · obtain ⟨n, D, kvs, rfl, _⟩ := h
    rfl
  · obtain ⟨n, D, kvs, rfl, hD, hok, hl, k⟩ := h
    refine ⟨_, pss_cons (ps_if (PW.pt (pw_or (pt_not (pt_val (pe_callB call_isi (by rfl) B.isi boot_isinstance (pa_cons (pv 1) (pa_cons (pe_bltn (v := .ty "dict") (by rfl) hdi PyProof.Rows.boot_dict rfl) pa_nil)))))
        (pw_or1 (pt_not (pt_val (pe_callB (cr_all rfl) (by rfl) B.all boot_all (pa_cons
          (pe_lock (pe_lc (own := [("pair", 2)]) (g := gName 2) (tt := tYes) rfl scLD.nd (pi_keys (pv 1)) (blkOk_by (N := nLD) (sc := defScope sLD) (by decide +kernel))
            (fun _ _ _ _ _ => pg_name (i := 2) scLD.nd rfl (.inl rfl)) (fun _ _ _ _ _ => pts_nil)
            (fun _ _ _ _ _ => pe_and (pe_cal CP hr (by rfl) (pa_cons (pv 0) (pa_cons (pv 2) pa_nil))) (pe_one (pe_cmpR op_ne (pe_ix (ix_tupK (K := K) rfl) (pv 2) pe_int (fun _ _ => rfl)) (pe_ix (ix_tupK (K := K) rfl) (pv 2) pe_int (fun _ _ => rfl)) (nomark _)))))) pa_nil))))))) (pss_one (ps_ret pe_bl)) pss_nil)
      (pss_one (ps_ret (pe_callB (cr_all rfl) (by rfl) B.all boot_all (pa_cons
          (pe_lock (pe_lc (own := [("cost", 3)]) (g := gName 3) (tt := tYes) rfl scLD.nd (pi_valuesT (pv 1)) (blkOk_by (N := nLD) (sc := defScope sLD) (by decide +kernel))
            (fun _ _ _ _ _ => pg_name (i := 3) scLD.nd rfl (.inl rfl)) (fun _ _ _ _ _ => pts_nil)
            (fun _ _ _ _ _ => pe_cal CB hr (by rfl) (pa_cons pe_int (pa_cons (pe_glob (v := .int 1000000000) (by rfl) hM ⟨_, rfl⟩) (pa_cons (pv 3) pa_nil)))))) pa_nil)))), ?_⟩
    have c1 : Ev (tCB (rIsi K) (tCons (tVar 1) (tCons (tC (.ty "dict")) tNil))) (start nLD [V.int (n : Int), .ref D]) H (.bl true) := ev_isk (K := K) (ev_var rfl) (isk_dT hD (show kitB "dict" "dict" = some true by decide +kernel))
    have c2 : Ev (tCB (rAll K) (tCons (tLockE (tLc (iKeys (tVar 1)) (gName 2) tYes (tAndV (tCall spRP [] E0 (tCons (tVar 0) (tCons (tVar 2) tNil))) (tOp rNe (tOp (rIxT K) (tVar 2) (tC (.int 0))) (tOp (rIxT K) (tVar 2) (tC (.int 1))))) [2])) tNil)) (start nLD [V.int (n : Int), .ref D]) H (.bl (((List.range kvs.length).map fun _ => true).all id)) := by
      refine ev_allL ?_
      rw [List.map_map]
      refine el_keysT (fun _ => V.bl true) rfl hD (by omega) (fun _ => rfl) fun i kk x q H1 hk hq e1 => ?_
      obtain ⟨a, b, c, hab, ha, hb, hne, _⟩ := hok.it _ (List.mem_of_getElem? hk)
      injection hab with hab _
      subst hab
      have hq : H1 q = some (.tup [.int (a : Int), .int (b : Int)]) := hq
      have z := ev_op (r := rNe) (σ := (wipe (start nLD [V.int (n : Int), .ref D]) [2]).set 2 (some (.ref q))) (H := H1) (ta := tOp (rIxT K) (tVar 2) (tC (.int 0))) (tb := tOp (rIxT K) (tVar 2) (tC (.int 1))) (ev_op (ev_var rfl) ev_c (rv_ixT (st_of hq) (atI_nat (j := 0) rfl))) (ev_op (ev_var rfl) ev_c (rv_ixT (st_of hq) (atI_nat (j := 1) rfl))) (rv_ne rfl)
      have hd : (!decide (V.int (a : Int) = V.int (b : Int))) = true := by
        rw [decide_eq_false fun z => hne (by injection z with z; omega)]
        rfl
      rw [hd] at z
      exact ev_andV (a := true) (ev_call (ea_cons (ev_var rfl) (ea_cons (ev_var rfl) ea_nil)) (spP_v fun H2 e2 => ⟨n, a, b, q, rfl, e2 _ _ hq, ha, hb, rfl⟩)) fun _ => z
    have c3 : Ev (tCB (rAll K) (tCons (tLockE (tLc (iValsT (tVar 1)) (gName 3) tYes (tCall spBetween [] E0 (tCons (tC (.int 1)) (tCons (tC (.int 1000000000)) (tCons (tVar 3) tNil)))) [3])) tNil)) (start nLD [V.int (n : Int), .ref D]) H (.bl (((List.range kvs.length).map fun _ => true).all id)) := by
      refine ev_allL ?_
      rw [List.map_map]
      refine el_valsT (fun _ => V.bl true) rfl hD (by omega) (fun _ => rfl) fun i kk x H1 hk e1 => ?_
      obtain ⟨a, b, c, hab, _, _, _, h1, h2⟩ := hok.it _ (List.mem_of_getElem? hk)
      injection hab with _ hab
      subst hab
      refine ev_call (ea_cons ev_c (ea_cons ev_c (ea_cons (ev_var rfl) ea_nil))) (spP_v fun H2 e2 => ⟨1, 1000000000, .int (c : Int), .int (c : Int), rfl, .int _, ?_⟩)
      show V.bl true = V.bl (true && (decide ((1 : Int) ≤ (c : Int)) && decide ((c : Int) ≤ 1000000000)))
      rw [decide_eq_true (by omega), decide_eq_true (by omega)]
      rfl
    have hall : ((List.range kvs.length).map fun _ => true).all id = true := by
      rw [List.all_eq_true]
      intro b hb
      obtain ⟨_, _, rfl⟩ := List.mem_map.mp hb
      rfl
    rw [hall] at c2 c3
    refine q_when (b := !true || !true) (et_or (et_not (et_B c1)) fun _ => et_not (et_B c2)) (fun z => by cases z) fun _ H1 e1 => ?_
    exact c3 H1 e1 _ fun H2 e2 => k H2 (e1.trans e2)
/-! Costs -/
def spCIn (CC : Addr) : Sp := fun vs H Q _ => ∃ (x D dx : Addr) (n : Nat) (kvs : List (List L2.Key × V)), vs = [.ref x, .int (n : Int), .ref D] ∧ H x = some (.ins CC dx []) ∧ 1 ≤ n ∧ n ≤ 8 ∧ H D = some (.dT kvs) ∧ LnOk n kvs ∧ kvs.length ≤ 100 ∧ ∀ H', Of1 x H H' → Cst CC H' x n kvs → Q .non H'
abbrev sCIn : Stmt := inClass (top 18) 0
abbrev nCIn : List Str := ["self", "size", "lines", "pair"]
theorem scCIn : FnScope nCIn ["self", "size", "lines"] (defScope sCIn) := ⟨rfl, rfl, rfl, by decide +kernel, rfl, by decide +kernel, by decide +kernel⟩
theorem ok_cIn {t1 : Tok} (hM : mg "LEAST_SIZE" = some (.int 1 t1)) (X : CXc K CC) (CS : Cal P w K mg base "is_size" ["least", "thing"] 3 spSize) (CL : Cal P w K mg base "is_line_dict" ["size", "thing"] 5 spLD) (F : FnM K "__init__" "Costs.__init__" sCIn f fd) : FnOk P w K mg base CX0 6 f fd ["self", "size", "lines"] (spCIn CC) := by
  refine F.ok scCIn (fun vs H Q E h => ?_) (fun cdv A outer s H vs Q E hr h => ?_)
  · obtain ⟨x, D, dx, n, kvs, rfl, _⟩ := h
    rfl
  · obtain ⟨x, D, dx, n, kvs, rfl, hx, hn1, hn8, hD, hok, hl, k⟩ := h
    have hu : (A.deeper (envOfC "Costs.__init__" (defScope sCIn) s.heap.objs.size f cdv)).units + 1 < cLine := by have := hr.un; omega
    refine ⟨_, pss_cons (ps_if (pt_not (pt_val (pe_cal CS hr (by rfl) (pa_cons (pe_glob (v := .int 1) (by rfl) hM ⟨_, rfl⟩) (pa_cons (pv 1) pa_nil))))) (pss_one ps_never) pss_nil)
      (pss_cons (ps_if (pt_not (pt_val (pe_cal CL hr (by rfl) (pa_cons (pv 1) (pa_cons (pv 2) pa_nil))))) (pss_one ps_never) pss_nil)
      (pss_cons (ps_fld (pv 0) (pv 1) rfl)
      (pss_one (ps_fld (pv 0) (pe_lock (pe_dq (own := [("pair", 3)]) (g := gName 3) (tt := tYes) rfl hu scCIn.nd (pi_keys (pv 2)) (blkOk_by (N := nCIn) (sc := defScope sCIn) (by decide +kernel)) (fun _ _ _ _ _ => pg_name (i := 3) scCIn.nd rfl (.inl rfl)) (fun _ _ _ _ _ => pts_nil) (fun _ _ _ _ _ => pv 3) (fun _ _ _ _ _ => pe_dget hu (pv 2) (pv 3) (fun _ _ => rfl)))) rfl)))), ?_⟩
    have c1 : Ev (tCall spSize [] E0 (tCons (tC (.int 1)) (tCons (tVar 1) tNil))) (start nCIn [V.ref x, .int (n : Int), .ref D]) H (.bl true) := ev_call (ea_cons ev_c (ea_cons (ev_var rfl) ea_nil)) (spP_v fun H1 e => ⟨n, rfl, hn1, hn8, rfl⟩)
    refine q_when (b := !true) (et_not (et_B c1)) (fun z => by cases z) fun _ H1 e1 => ?_
    have c2 : Ev (tCall spLD [] E0 (tCons (tVar 1) (tCons (tVar 2) tNil))) (start nCIn [V.ref x, .int (n : Int), .ref D]) H1 (.bl true) := ev_call (ea_cons (ev_var rfl) (ea_cons (ev_var rfl) ea_nil)) fun H2 e2 Q2 q2 E2 => ⟨n, D, kvs, rfl, (e1.trans e2) _ _ hD, hok, hl, fun H3 e3 => q2 H3 e3⟩
    refine q_when (b := !true) (et_not (et_B c2)) (fun z => by cases z) fun _ H2 e2 => ?_
    have e02 := e1.trans e2
    have hx2 := e02 _ _ hx
    refine ⟨.int (n : Int), rfl, .ref x, rfl, x, CC, dx, [], rfl, hx2, X.cl, X.nS, by decide, ?_⟩
    have ln1 : (putF "size" (.int (n : Int)) ([] : List (Str × V))).length ≤ 1 := len_putF _ _ _
    have lkE : (putF "size" (.int (n : Int)) ([] : List (Str × V))).lookup ("size" : Str) = some (.int (n : Int)) := lk_putS
    have lkO : (putF "size" (.int (n : Int)) ([] : List (Str × V))).lookup ("cost" : Str) = none := by rw [lk_putF (by decide +kernel)]; rfl
    generalize putF "size" (.int (n : Int)) ([] : List (Str × V)) = fs1 at *
    have o2 := Of1.upd x H2 (.ins CC dx fs1)
    have hx3 : (upd H2 x (.ins CC dx fs1)) x = some (.ins CC dx fs1) := upd_same
    have hD3 : (upd H2 x (.ins CC dx fs1)) D = some (.dT kvs) := o2 D _ (fun z => by have := e02 _ _ hD; rw [z, hx2] at this; cases this) (e02 _ _ hD)
    have o02 : Of1 x H (upd H2 x (.ins CC dx fs1)) := (Of1.ex e02).trans o2
    generalize upd H2 x (.ins CC dx fs1) = H3 at *
    dsimp only
    change tLockE (tDq (iKeys (tVar 2)) (gName 3) tYes (tVar 3) (tDGet (tVar 2) (tVar 3)) [3]) _ _ _
    refine dq_copy (n := 2) (j := 3) (vs := [3]) (σ := start nCIn [V.ref x, .int (n : Int), .ref D]) (H := H3) rfl (fun _ => rfl) (fun _ => rfl) hD3 hok.nd (by omega) (fun _ => rfl) fun H4 D2 n2 e4 hD2 => ?_
    have hx4 := e4 _ _ hx3
    refine ⟨.ref x, rfl, x, CC, dx, fs1, rfl, hx4, X.cl, X.nL, Nat.lt_of_le_of_lt ln1 (by decide), ?_⟩
    have o4 := Of1.upd x H4 (.ins CC dx (putF "_lines" (.ref D2) fs1))
    refine k _ ((o02.trans (Of1.ex e4)).trans o4) ⟨dx, _, D2, upd_same, ?_, lk_putS, ?_, o4 _ _ (fun z => by rw [z, hx4] at hD2; cases hD2) hD2⟩
    · rw [lk_putF (by decide +kernel)]; exact lkE
    · rw [lk_putF (by decide +kernel)]; exact lkO
def spCost (CC : Addr) : Sp := fun vs H Q _ => ∃ (x : Addr) (n a b : Nat) (kvs : List (List L2.Key × V)), vs = [.ref x, .int (a : Int), .int (b : Int)] ∧ Cst CC H x n kvs ∧ a < n ∧ b < n ∧ ∀ H', Ex H H' → Q ((valV kvs (Lk a b)).getD .non) H'
abbrev sCost : Stmt := inClass (top 18) 2
theorem scCost : FnScope ["self", "a", "b"] ["self", "a", "b"] (defScope sCost) := ⟨rfl, rfl, rfl, by decide +kernel, rfl, by decide +kernel, by decide +kernel⟩
theorem ok_cost (X : CXc K CC) (CR : Cal P w K mg base "refuse_no_router" ["size", "thing"] 4 spRNR) (F : FnM K "cost" "Costs.cost" sCost f fd) : FnOk P w K mg base CX0 5 f fd ["self", "a", "b"] (spCost CC) := by
  refine F.ok scCost (fun vs H Q E h => ?_) (fun cdv A outer s H vs Q E hr h => ?_)
  · obtain ⟨x, n, a, b, kvs, rfl, _⟩ := h
    rfl
  · obtain ⟨x, n, a, b, kvs, rfl, hC, ha, hb, k⟩ := h
    have hu : (A.deeper (envOfC "Costs.cost" (defScope sCost) s.heap.objs.size f cdv)).units + 1 < cLine := by have := hr.un; omega
    refine ⟨_, pss_cons (ps_expr (pe_cal CR hr (by rfl) (pa_cons (pe_fld (pv 0) rfl) (pa_cons (pv 1) pa_nil))))
      (pss_cons (ps_expr (pe_cal CR hr (by rfl) (pa_cons (pe_fld (pv 0) rfl) (pa_cons (pv 2) pa_nil))))
      (pss_one (ps_ret (pe_dget1 hu (pe_fld (pv 0) rfl) (pe_tup (pa_cons (pv 1) (pa_cons (pv 2) pa_nil))) ⟨rfl, rfl, rfl, rfl⟩)))), ?_⟩
    obtain ⟨dx, fs, D, h1, h2, h3, h4, h5⟩ := hC
    refine ⟨.ref x, rfl, x, CC, dx, fs, _, rfl, h1, X.cl, X.nS, h2, .int (a : Int), rfl, .non, ⟨n, a, rfl, ha, rfl⟩, fun H1 e1 => ?_⟩
    refine ⟨.ref x, rfl, x, CC, dx, fs, _, rfl, e1 _ _ h1, X.cl, X.nS, h2, .int (b : Int), rfl, .non, ⟨n, b, rfl, hb, rfl⟩, fun H2 e2 => ?_⟩
    have e02 := e1.trans e2
    refine ⟨.ref x, rfl, x, CC, dx, fs, _, rfl, e02 _ _ h1, X.cl, X.nL, h3, D, rfl, .inr ⟨kvs, .inl (e02 _ _ h5)⟩, .int (a : Int), rfl, .int (b : Int), rfl, by show 2 ≤ sizeLine; decide, fun t ht => ?_⟩
    have e3 := Ex.new (o := .tup [V.int (a : Int), .int (b : Int)]) ht
    exact ⟨_, DGet.t (k := Lk a b) (e3 _ _ (e02 _ _ h5)) upd_same, k _ (e02.trans e3)⟩
end
end Wk

set_option Elab.async false
set_option linter.all false
set_option maxRecDepth 100000
set_option maxHeartbeats 4000000
namespace Wk
open PySem PySem.Spec PySem.SeqAt PyProof.Rows L2 Evl
open PySem.W (AlikeAll dataLt alike reads_keeps iter_tupleW cmpIn_lt moved_old)
/-! min(a, b) of two data -/
section
variable {prog : Program} {w : World} {A : Around} {E : Value → Shared → Prop} {s : Shared}
theorem call_min2H {a b : Value} {Q : Value → Shared → Prop}
    (h : wpAny (model prog w) A.in1 (pyIter (.ref s.heap.objs.size)) (fun it s₂ => ∃ I fp wr G n P St H bt, it = .ref I ∧ WalksS prog w A.in1 I fp wr G n P St ∧ St 0 s₂ ∧ (∀ b ∈ fp, b < s₂.heap.objs.size) ∧ 0 < n ∧
      (∀ b o, H.get? b = some o → b ∉ wr) ∧ (∀ b o, H.get? b = some o → s₂.heap.get? b = some o) ∧ CmpIn prog w A.in1 .Lt H P bt ∧ ∀ v s', P (argBest bt (n - 1)) v → Moved wr G s₂ s' → Q v s') E { s with heap := s.heap.push { cls := .type "tuple", data := .seq #[a, b] } }) :
    wpAny (model prog w) A (call (.builtin "min") [a, b]) Q E s := by
  have hname : (toString "min" ++ toString ".loop" : String) = "min.loop" := by decide
  refine call_function_tree F.kind_min F.plain_min F.entry_min (F.args_min2 _ _) ?_
  show wpAny _ A.in1 (Builtin.Builtins.bindParams "min" ["key", "default"] 0 ⟨[], []⟩ >>= _) _ _ s
  refine wpAny_bind (wpAny_of_eq (show Builtin.Builtins.bindParams "min" ["key", "default"] 0 ⟨[], []⟩ = pure [none, none] from rfl) ?_)
  show wpAny _ A.in1 (newTuple [a, b] >>= _) _ _ s
  refine wpAny_bind (wpAny_newObj_type ?_)
  refine wpAny_bind (wpAny_mono h (fun it s₂ h₂ => ?_) fun _ _ e => e)
  obtain ⟨I, fp, wr, G, n, P, St, H, bt, rfl, W, hst, hfp, hn, hw, hkeep, hcmp, hQ⟩ := h₂
  refine wpAny_bind (wpAny_newObj_type ?_)
  have hSf : s₂.heap.objs.size ∉ fp := fun hm => Nat.lt_irrefl _ (hfp _ hm)
  rw [hname]
  refine wpAny_pure ⟨plainId_quiet F.plain_min_loop _, codeAny_min_loop_firstH W H hw bt hcmp s₂.heap.objs.size hSf (fresh_in hkeep) _ hn (fun b o e => Heap.get?_push_of_some _ (hkeep b o e)) (W.frame 0 s₂ _ s₂.toks hst (Nat.le_refl _) fun b _ o e => Heap.get?_push_of_some _ e) (Heap.get?_push_size _ rfl) fun v s' hP hm => ?_⟩
  exact hQ v s' hP (Moved.drop_new (tk := s₂.toks) hm (Nat.le_refl _))
theorem min2_data {a b : Value} {x y : PyData} {as bs : List Addr} {Q : Value → Shared → Prop} (hh : A.handled = none) (ra : Reads s.heap a x as) (rb : Reads s.heap b y bs) (ha : AlikeAll [x, y]) (hu : A.units + 1 + PyData.depthAll [x, y] < cLine)
    (h : ∀ h' tk, (∀ b o, s.heap.get? b = some o → h'.get? b = some o) → Q (if dataLt y x = true then b else a) { s with heap := h', toks := tk }) :
    wpAny (model prog w) A (call (.builtin "min") [a, b]) Q E s := by
  have hk0 : ∀ c o, s.heap.get? c = some o → (s.heap.push { cls := .type "tuple", data := .seq #[a, b] }).get? c = some o := fun c o e => Heap.get?_push_of_some _ e
  have hT : (s.heap.push { cls := .type "tuple", data := .seq #[a, b] }).IsTuple s.heap.objs.size #[a, b] := ⟨_, Heap.get?_push_size _ rfl, rfl, 0, rfl⟩
  have hr : ReadsAll (s.heap.push { cls := .type "tuple", data := .seq #[a, b] }) (#[a, b] : Array Value).toList [x, y] (as ++ (bs ++ [])) := .cons (reads_keeps hk0 ra) (.cons (reads_keeps hk0 rb) .nil)
  refine call_min2H (iter_tupleW (s := { s with heap := s.heap.push { cls := .type "tuple", data := .seq #[a, b] } }) (A := A.in1) hh hT fun s₂ e W st hfp hw hk => ?_)
  refine ⟨_, _, _, _, _, _, _, s.heap.push { cls := .type "tuple", data := .seq #[a, b] }, _, rfl, W, st, hfp, Nat.lt_of_lt_of_eq (Nat.zero_lt_succ 1) rfl, hw, hk, cmpIn_lt (s := { s with heap := s.heap.push { cls := .type "tuple", data := .seq #[a, b] } }) (A := A.in1) hr ha (by show A.units + 1 + _ < _; exact hu), fun v s' hP m => ?_⟩
  obtain ⟨h', tk, rfl, hk'⟩ := moved_old e rfl m
  have hv : v = if dataLt y x = true then b else a := by
    have hP : (#[a, b] : Array Value)[argBest (fun i j => dataLt ([x, y].getD i .none) ([x, y].getD j .none)) 1]? = some v := hP
    by_cases c : dataLt y x = true
    · have e : argBest (fun i j => dataLt ([x, y].getD i .none) ([x, y].getD j .none)) 1 = 1 := by simp [argBest, c]
      rw [e] at hP
      rw [if_pos c]
      exact (Option.some.inj hP).symm
    · have e : argBest (fun i j => dataLt ([x, y].getD i .none) ([x, y].getD j .none)) 1 = 0 := by simp [argBest, c]
      rw [e] at hP
      rw [if_neg c]
      exact (Option.some.inj hP).symm
  rw [hv]
  exact h h' tk fun c o ec => hk' c o (hk0 c o ec)
end
def rMin2D (K : PySem.W.Frag) : List V → Hp → VK → Prop := fun xs H Q => ∃ (u v : V) (x y : PyData), xs = [u, v] ∧ Dp K H u x ∧ Dp K H v y ∧ AlikeAll [x, y] ∧ x.depth ≤ 60 ∧ y.depth ≤ 60 ∧ Q (if dataLt y x = true then v else u) H
theorem cr_min2D {X : Cx} {K : PySem.W.Frag} (hK : X.K = K) (hc : X.calm = true) (hu : X.A.units + 64 < cLine) : CallR X (.builtin "min") (rMin2D K) := by
  subst hK
  intro pins s σ H xs us Q I rx h
  obtain ⟨u, v, x, y, rfl, hx, hy, ha, h1, h2, q⟩ := h
  cases rx with
  | cons r1 rx =>
    cases rx with
    | cons r2 rx =>
      cases rx with
      | nil =>
        obtain ⟨as, ra⟩ := Dp.reads I x _ _ hx r1
        obtain ⟨bs, rb⟩ := Dp.reads I y _ _ hy r2
        refine min2_data (I.ok.hd hc) ra rb ha (by simp only [PyData.depthAll]; omega) fun h' tk hk => ?_
        refine ⟨if dataLt y x = true then v else u, H, I.kept (t' := tk) hk, ?_, q⟩
        by_cases c : dataLt y x = true
        · rw [if_pos c, if_pos c]; exact r2
        · rw [if_neg c, if_neg c]; exact r1
end Wk

set_option Elab.async false
set_option linter.all false
set_option maxRecDepth 100000
set_option maxHeartbeats 4000000
namespace Wk
open PySem PySem.Spec PySem.SeqAt PyProof.Rows L2 Evl
open PySem.W (AlikeAll dataLt alike alikeAll dataLt_all_yes dataLt_all_no dataLt_int dataLt_pair dataLt_tuple keyToksAll)
/-! items as data -/
def nVs (l : List Nat) : List V := l.map fun (i : Nat) => V.int (i : Int)
def nDs (l : List Nat) : List PyData := l.map fun (i : Nat) => PyData.int (i : Int)
def itD (x : It2) : PyData := .tuple [.int (x.1 : Int), .tuple (nDs x.2)]
theorem alike_nDs : ∀ l m : List Nat, alikeAll (nDs l) (nDs m) = true
  | [], _ => by simp [nDs, alikeAll]
  | _ :: _, [] => by simp [nDs, alikeAll]
  | a :: l, b :: m => by
    have := alike_nDs l m
    simp only [nDs, List.map_cons, alikeAll, alike, Bool.true_and] at this ⊢
    exact this
theorem eqv_nDs : ∀ l m : List Nat, PyData.eqvAll (nDs l) (nDs m) = decide (l = m)
  | [], [] => by simp [nDs, PyData.eqvAll]
  | [], _ :: _ => by simp [nDs, PyData.eqvAll]
  | _ :: _, [] => by simp [nDs, PyData.eqvAll]
  | a :: l, b :: m => by
    have ih := eqv_nDs l m
    have e : PyData.eqvAll (nDs (a :: l)) (nDs (b :: m)) = (PyData.eqv (.int (a : Int)) (.int (b : Int)) && PyData.eqvAll (nDs l) (nDs m)) := by simp only [nDs, List.map_cons, PyData.eqvAll]
    rw [e, ih, PyData.eqv]
    by_cases c : a = b
    · rw [c]; simp
    · have : ((a : Int) == (b : Int)) = false := beq_eq_false_iff_ne.mpr fun z => c (by omega)
      rw [this]
      simp [c]
theorem lt_nDs : ∀ l m : List Nat, lexLt itemOrd (keyToksAll (nDs l)) (keyToksAll (nDs m)) = wlt l m
  | [], [] => by simp [nDs, wlt]; rfl
  | [], b :: m => by simp [nDs, wlt, PySem.W.toks_all_cons]; rfl
  | a :: l, [] => by simp [nDs, wlt, PySem.W.toks_all_cons]; rfl
  | a :: l, b :: m => by
    have ih := lt_nDs l m
    have h : alike (.int (a : Int)) (.int (b : Int)) = true := by simp [alike]
    show lexLt itemOrd (keyToksAll (.int (a : Int) :: nDs l)) (keyToksAll (.int (b : Int) :: nDs m)) = (decide (a < b) || (decide (a = b) && wlt l m))
    by_cases c : a = b
    · subst c
      rw [dataLt_all_yes h (by simp [PyData.eqv]), ih, decide_eq_false (Nat.lt_irrefl a), decide_eq_true rfl]
      rfl
    · have e : PyData.eqv (.int (a : Int)) (.int (b : Int)) = false := by
        rw [PyData.eqv]
        exact beq_eq_false_iff_ne.mpr fun z => c (by omega)
      rw [dataLt_all_no h e, dataLt_int, decide_eq_false c, Bool.false_and, Bool.or_false]
      by_cases d : a < b
      · rw [decide_eq_true d, decide_eq_true (by omega)]
      · rw [decide_eq_false d, decide_eq_false (by omega)]
theorem alike_it (x y : It2) : alike (itD x) (itD y) = true := by
  have := alike_nDs x.2 y.2
  simp only [itD, alike, alikeAll, Bool.true_and, Bool.and_true]
  exact this
theorem lt_it (x y : It2) : dataLt (itD x) (itD y) = ilt x y := by
  unfold itD ilt
  have h2 : alike (.tuple (nDs x.2)) (.tuple (nDs y.2)) = true := by simp only [alike]; exact alike_nDs _ _
  rw [dataLt_pair (by simp [alike]) h2, dataLt_int, dataLt_tuple, lt_nDs]
  have e1 : PyData.eqv (.int (x.1 : Int)) (.int (y.1 : Int)) = decide (x.1 = y.1) := by
    rw [PyData.eqv]
    by_cases c : x.1 = y.1
    · rw [c]; simp
    · rw [decide_eq_false c]
      exact beq_eq_false_iff_ne.mpr fun z => c (by omega)
  have e2 : PyData.eqv (.tuple (nDs x.2)) (.tuple (nDs y.2)) = decide (x.2 = y.2) := by rw [PyData.eqv]; exact eqv_nDs _ _
  rw [e1, e2]
  by_cases c : x.1 = y.1
  · rw [decide_eq_true c, if_pos rfl, decide_eq_false (show ¬ x.1 < y.1 by omega), Bool.false_or, Bool.true_and]
    by_cases d : x.2 = y.2
    · rw [decide_eq_true d, if_pos rfl, d, wlt_irr]
    · rw [decide_eq_false d, if_neg (by decide)]
  · rw [decide_eq_false c, if_neg (by decide), Bool.false_and, Bool.or_false]
    by_cases d : x.1 < y.1
    · rw [decide_eq_true d, decide_eq_true (by omega)]
    · rw [decide_eq_false d, decide_eq_false (by omega)]
theorem lay_nDs : ∀ l : List Nat, PyData.canLayAll0 (nDs l) = true ∧ PyData.depthAll (nDs l) ≤ 1
  | [] => ⟨by simp [nDs, PyData.canLayAll0], by simp [nDs, PyData.depthAll]⟩
  | a :: l => by
    obtain ⟨h1, h2⟩ := lay_nDs l
    have e : nDs (a :: l) = .int (a : Int) :: nDs l := rfl
    rw [e]
    refine ⟨by simp [PyData.canLayAll0, PyData.canLay0, h1], ?_⟩
    simp only [PyData.depthAll, PyData.depth]
    omega
theorem lay_it (x : It2) : (itD x).canLay0 = true := by
  have := (lay_nDs x.2).1
  simp [itD, PyData.canLay0, PyData.canLayAll0, this]
theorem dep_it (x : It2) : (itD x).depth ≤ 4 := by
  have := (lay_nDs x.2).2
  simp only [itD, PyData.depth, PyData.depthAll]
  omega
/-- an item, or none -/
def ItV (H : Hp) (v : V) : Option It2 → Prop
  | none => v = .non
  | some x => ∃ t u, v = .ref t ∧ H t = some (.tup [.int (x.1 : Int), .ref u]) ∧ H u = some (.tup (nVs x.2))
theorem ItV.mono {H H' : Hp} {v : V} {o : Option It2} (e : Ex H H') (h : ItV H v o) : ItV H' v o := by
  cases o with
  | none => exact h
  | some x =>
    obtain ⟨t, u, h1, h2, h3⟩ := h
    exact ⟨t, u, h1, e _ _ h2, e _ _ h3⟩
theorem ItV.updL {H : Hp} {v : V} {o : Option It2} {D : Addr} {xs : List V} {ob : HO} (hD : H D = some (.lst xs)) (h : ItV H v o) : ItV (upd H D ob) v o := by
  cases o with
  | none => exact h
  | some x =>
    obtain ⟨t, u, h1, h2, h3⟩ := h
    exact ⟨t, u, h1, by rw [upd_ne (fun z => by rw [z, hD] at h2; cases h2)]; exact h2, by rw [upd_ne (fun z => by rw [z, hD] at h3; cases h3)]; exact h3⟩
theorem dqa_nVs {H : Hp} : ∀ l : List Nat, DqA H (nVs l) (nDs l)
  | [] => .nil
  | _ :: l => .cons (.int _) (dqa_nVs l)
theorem dq_it {H : Hp} {v : V} {x : It2} (h : ItV H v (some x)) : Dq H v (itD x) := by
  obtain ⟨t, u, rfl, h2, h3⟩ := h
  exact .tup h2 (.cons (.int _) (.cons (.tup h3 (dqa_nVs x.2)) .nil))
section
variable {P : Program} {w : World} {K : PySem.W.Frag} {mg : Str → Option Value} {base : Heap} {f : Addr} {fd : FuncData}
end
end Wk

set_option Elab.async false
set_option linter.all false
set_option maxRecDepth 100000
set_option maxHeartbeats 4000000
namespace Wk
open PySem PySem.Spec PySem.SeqAt PyProof.Rows L2 Evl
open PySem.W (AlikeAll dataLt alike alikeAll)
theorem g_three {i j k : Nat} {x y z : V} {σ : L2.St} {H : Hp} {R : L2.St → Hp → Prop} (h : R (((σ.set i (some x)).set j (some y)).set k (some z)) H) : gCons (gName i) (gCons (gName j) (gCons (gName k) gNil)) [x, y, z] σ H R := ⟨_, _, rfl, ⟨_, _, rfl, ⟨_, _, rfl, ⟨rfl, h⟩⟩⟩⟩
theorem ItV.off {H H' : Hp} {v : V} {o : Option It2} {D : Addr} {ys : List V} (e : Ex H H') (h : ItV H' v o) (hD : H D = some (.lst ys)) : v ≠ .ref D := fun z => by
  cases o with
  | none =>
    have h : v = .non := h
    rw [h] at z
    cases z
  | some x =>
    obtain ⟨t, u, h1, h2, h3⟩ := h
    rw [h1] at z
    injection z with z
    rw [z, e _ _ hD] at h2
    cases h2
/-- a list of items -/
def ItL (n : Nat) (r : Rw2) (H : Hp) (us : List V) : Prop := us.length = n ∧ ∀ (i : Nat) (v : V), us[i]? = some v → ItV H v (r i)
theorem ItL.mono {n : Nat} {r : Rw2} {H H' : Hp} {us : List V} (e : Ex H H') (h : ItL n r H us) : ItL n r H' us := ⟨h.1, fun i v hv => (h.2 i v hv).mono e⟩
/-- ways are there, and not too long -/
def WyB (r : Rw2) (m : Nat) : Prop := ∀ i x, r i = some x → x.2 ≠ [] ∧ x.2.length ≤ m
theorem WyB.relax {r : Rw2} {m : Nat} (h : WyB r m) (l : Nat × Nat × Nat) : WyB (relax r l) (m + 1) := fun i x hx => by
  unfold Wk.relax at hx
  by_cases c : i = l.1
  · rw [if_pos c] at hx
    rcases lesser_or hx with z | z
    · obtain ⟨a, b⟩ := h _ _ z
      exact ⟨a, by omega⟩
    · cases e : r l.2.1 with
      | none => rw [e] at z; cases z
      | some y =>
        rw [e] at z
        have z : ahead l.1 l.2.2 y = x := Option.some.inj z
        obtain ⟨a, b⟩ := h _ _ e
        rw [← z]
        exact ⟨fun z => (by cases z), by show y.2.length + 1 ≤ m + 1; omega⟩
  · rw [if_neg c] at hx
    obtain ⟨a, b⟩ := h _ _ hx
    exact ⟨a, by omega⟩
/-- the lines as a list of triples -/
def LsT (n : Nat) (H : Hp) (us : List V) (ls : List (Nat × Nat × Nat)) : Prop := us.length = ls.length ∧ ∀ (i : Nat) (v : V), us[i]? = some v → ∃ t l, ls[i]? = some l ∧ l.1 < n ∧ l.2.1 < n ∧ v = .ref t ∧ H t = some (.tup [.int (l.1 : Int), .int (l.2.1 : Int), .int (l.2.2 : Int)])
theorem LsT.mono {n : Nat} {H H' : Hp} {us : List V} {ls : List (Nat × Nat × Nat)} (e : Ex H H') (h : LsT n H us ls) : LsT n H' us ls := ⟨h.1, fun i v hv => by
  obtain ⟨t, l, h1, h2, h3, h4, h5⟩ := h.2 i v hv
  exact ⟨t, l, h1, h2, h3, h4, e _ _ h5⟩⟩
section
variable {P : Program} {w : World} {K : PySem.W.Frag} {mg : Str → Option Value} {base : Heap} {f : Addr} {fd : FuncData}
end
end Wk

set_option Elab.async false
set_option linter.all false
set_option maxRecDepth 100000
set_option maxHeartbeats 4000000
namespace Wk
open PySem PySem.Spec PySem.SeqAt PyProof.Rows L2 Evl
theorem ev_ixR {K : PySem.W.Frag} {σ : L2.St} {H : Hp} {ta tb : TE} {a : Addr} {xs : List V} {i : Nat} {v : V} (ha : Ev ta σ H (.ref a)) (hb : Ev tb σ H (.int (i : Int))) (h : H a = some (.lst xs)) (hv : xs[i]? = some v) : Ev (tOp (rIxL K) ta tb) σ H v := ev_op ha hb (rv_ixL (sq_of h) (atI_nat hv))
section
variable {P : Program} {w : World} {K : PySem.W.Frag} {mg : Str → Option Value} {base : Heap} {f : Addr} {fd : FuncData}
end
end Wk

set_option Elab.async false
set_option linter.all false
set_option maxRecDepth 100000
set_option maxHeartbeats 4000000
namespace Wk
open PySem PySem.Spec PySem.SeqAt PyProof.Rows L2 Evl
structure MskO (P : Program) (w : World) (K : PySem.W.Frag) (mg : Str → Option Value) (base : Heap) (CS : Addr) (m : Str) (ps : List Str) (n : Nat) (sp : Sp) : Prop where
  ex : ∃ (fM : Addr) (fd : FuncData), Meth K CS m fM ∧ FnOk P w K mg base CX0 n fM fd ps sp ∧ Binds K fd ps []
theorem pe_fldK {X : Cx} {K : PySem.W.Frag} {e : Expr} {f : Str} {pos : Pos} {ta : TE} (hK : X.K = K) (he : PE X e ta) (hb : attributeBase e f X.env (eval e X.env) = eval e X.env) : PE X (.Attribute e f pos) (tFld K ta f) := by
  subst hK
  exact pe_fld he hb
theorem val_mem {κ : Type} [DecidableEq κ] : ∀ {l : List (κ × V)} {k : κ} {v : V}, valV l k = some v → (k, v) ∈ l
  | [], k, v, h => by rw [valV_nil] at h; cases h
  | p :: l, k, v, h => by
    by_cases c : p.1 = k
    · rw [valV_pos c] at h
      cases h
      rw [← c]
      exact List.mem_cons_self
    · rw [valV_neg c] at h
      exact List.mem_cons_of_mem _ (val_mem h)
/-- a line's cost -/
def Lin (kvs : List (List L2.Key × V)) (a b : Nat) : Option Nat := match valV kvs (Lk a b) with
  | some (.int c) => some c.toNat
  | _ => none
theorem Lk_inj {a b c d : Nat} (h : Lk a b = Lk c d) : a = c ∧ b = d := by
  injection h with h1 h2
  injection h2 with h2 _
  injection h1 with h1
  injection h2 with h2
  omega
theorem lin_val {n : Nat} {kvs : List (List L2.Key × V)} (h : LnOk n kvs) (a b : Nat) : (∃ c : Nat, valV kvs (Lk a b) = some (.int (c : Int)) ∧ Lin kvs a b = some c ∧ a < n ∧ b < n ∧ 1 ≤ c ∧ a ≠ b) ∨ (valV kvs (Lk a b) = none ∧ Lin kvs a b = none) := by
  cases e : valV kvs (Lk a b) with
  | none => exact .inr ⟨rfl, by unfold Lin; rw [e]⟩
  | some v =>
    obtain ⟨x, y, c, h1, h2, h3, h4, h5, h6⟩ := h.it _ (val_mem e)
    injection h1 with h1 hv
    obtain ⟨rfl, rfl⟩ := Lk_inj h1
    subst hv
    exact .inl ⟨c, rfl, by unfold Lin; rw [e]; exact congrArg some (Int.toNat_natCast c), h2, h3, h5, h4⟩
/-! two fors over ranges, items made -/
theorem lc2_madeRR {σ : L2.St} {H : Hp} {te ta tb : TE} {i j n : Nat} {vs vs1 : List Nat} {Q : VK} {Y : Nat → Nat → Hp → V → Prop} (ha : Ev ta σ H (.int (n : Int))) (hn : n ≤ 100) (hw : ∀ x, wipe ((wipe σ vs).set i (some x)) vs = wipe σ vs) (hw1 : ∀ x y, wipe ((wipe ((wipe σ vs).set i (some x)) vs1).set j (some y)) vs1 = wipe ((wipe σ vs).set i (some x)) vs1)
    (hb : ∀ x, Ev tb ((wipe σ vs).set i (some x)) H (.int (n : Int)))
    (mono : ∀ a b v H1 H2, Ex H1 H2 → Y a b H1 v → Y a b H2 v) (hup : ∀ a b v H1 D ys o, H1 D = some (.lst ys) → v ≠ .ref D → Y a b H1 v → Y a b (upd H1 D o) v)
    (he : ∀ (a b : Nat) H1, Ex H H1 → a < n → b < n → ∀ Q' : VK, (∀ v H2, Ex H1 H2 → Y a b H2 v → (∀ D ys, H1 D = some (.lst ys) → v ≠ .ref D) → Q' v H2) → te ((wipe ((wipe σ vs).set i (some (.int (a : Int)))) vs1).set j (some (.int (b : Int)))) H1 Q')
    (k : ∀ D H1 us, H D = none → Ex H H1 → H1 D = some (.lst us) → us.length = n * n → (∀ (r : Nat) (v : V), us[r]? = some v → Y (r / n) (r % n) H1 v) → Q (.ref D) H1) :
    tLc2 (iRng1 (tCons ta tNil)) (gName i) tYes (iRng1 (tCons tb tNil)) (gName j) tYes te vs vs1 σ H Q := ha H (Ex.refl _) _ fun H1 e1 => by
  refine ⟨(n : Int), rfl, by omega, by omega, fun D hD => ?_⟩
  have w := walk_range (lo := 0) (n := (n : Int).toNat)
  have hnn : n * n ≤ 100 * 100 := Nat.mul_le_mul hn hn
  refine ⟨fun a m H' => m = n - a ∧ a ≤ n ∧ ∃ us, Ex H1 H' ∧ H' D = some (.lst us) ∧ us.length = a * n ∧ ∀ r v, us[r]? = some v → v ≠ .ref D ∧ Y (r / n) (r % n) H' v, ⟨n, by simp, Nat.zero_le _, [], Ex.new hD, upd_same, by simp, fun r v h => by cases h⟩, ?_⟩
  rintro a m H2 ⟨rfl, han, us, e2, hD2, hul, hus⟩
  by_cases lt : a < n
  · refine .inr ⟨w.goes a H2 (by omega) trivial, fun H' => ∃ us, Ex H1 H' ∧ H' D = some (.lst us) ∧ us.length = (a + 1) * n ∧ ∀ r v, us[r]? = some v → v ≠ .ref D ∧ Y (r / n) (r % n) H' v, fun H' q => ⟨n - (a + 1), by omega, rfl, lt, q⟩, fun x H3 y => ?_⟩
    obtain ⟨rfl, rfl⟩ := w.yields a H2 x H3 (by omega) trivial y
    have e0 : (0 : Int) + (a : Int) = (a : Int) := Int.zero_add _
    dsimp only
    rw [e0]
    refine ⟨hw _, et_yes H3 (Ex.refl _) _ fun H4 e4 => ?_⟩
    rw [if_pos rfl]
    refine hb _ H4 ((e1.trans e2).trans e4) _ fun H5 e5 => ?_
    refine ⟨(n : Int), rfl, by omega, by omega, ?_⟩
    have e45 := e4.trans e5
    refine ⟨fun b m H' => m = n - b ∧ b ≤ n ∧ ∃ us, Ex H1 H' ∧ H' D = some (.lst us) ∧ us.length = a * n + b ∧ ∀ r v, us[r]? = some v → v ≠ .ref D ∧ Y (r / n) (r % n) H' v, ⟨n, by simp, Nat.zero_le _, us, e2.trans e45, e45 _ _ hD2, hul, fun r v hr => ⟨(hus r v hr).1, mono _ _ _ _ _ e45 (hus r v hr).2⟩⟩, ?_⟩
    rintro b m' H6 ⟨rfl, hbn, us6, e6, hD6, hul6, hus6⟩
    by_cases ltb : b < n
    · refine .inr ⟨w.goes b H6 (by omega) trivial, fun H' => ∃ us, Ex H1 H' ∧ H' D = some (.lst us) ∧ us.length = a * n + (b + 1) ∧ ∀ r v, us[r]? = some v → v ≠ .ref D ∧ Y (r / n) (r % n) H' v, fun H' q => ⟨n - (b + 1), by omega, rfl, ltb, q⟩, fun x H7 y => ?_⟩
      obtain ⟨rfl, rfl⟩ := w.yields b H6 x H7 (by omega) trivial y
      have e0 : (0 : Int) + (b : Int) = (b : Int) := Int.zero_add _
      dsimp only
      rw [e0]
      refine ⟨hw1 _ _, et_yes H7 (Ex.refl _) _ fun H8 e8 => ?_⟩
      rw [if_pos rfl]
      refine he a b H8 ((e1.trans e6).trans e8) lt ltb _ fun v H9 e9 hv hne => ?_
      have hD9 := e9 _ _ (e8 _ _ hD6)
      have hab : a * n + b < n * n := by
        have : (a + 1) * n ≤ n * n := Nat.mul_le_mul_right _ lt
        rw [Nat.succ_mul] at this
        omega
      refine ⟨us6, hD9, sz_lt (by omega), us6 ++ [v], Ex.mut ((e6.trans e8).trans e9) hD, upd_same, by rw [List.length_append, hul6]; rfl, fun r v' hr => ?_⟩
      by_cases c : r < us6.length
      · rw [List.getElem?_append_left c] at hr
        obtain ⟨g1, g2⟩ := hus6 r v' hr
        exact ⟨g1, hup _ _ _ _ _ _ _ hD9 g1 (mono _ _ _ _ _ (e8.trans e9) g2)⟩
      · rw [List.getElem?_append_right (by omega)] at hr
        have hr0 : r - us6.length = 0 := by
          cases hz : r - us6.length with
          | zero => rfl
          | succ q => rw [hz] at hr; cases hr
        rw [hr0] at hr
        cases hr
        have g1 := hne D _ (e8 _ _ hD6)
        have hrr : r = b + a * n := by omega
        have d1 : r / n = a := by rw [hrr, Nat.add_mul_div_right _ _ (by omega), Nat.div_eq_of_lt ltb, Nat.zero_add]
        have d2 : r % n = b := by rw [hrr, Nat.add_mul_mod_self_right, Nat.mod_eq_of_lt ltb]
        rw [d1, d2]
        exact ⟨g1, hup _ _ _ _ _ _ _ hD9 g1 hv⟩
    · have eb : b = n := by omega
      subst eb
      exact .inl ⟨w.stops H6 (by trivial), us6, e6, hD6, by rw [Nat.succ_mul]; exact hul6, hus6⟩
  · have ea : a = n := by omega
    subst ea
    exact .inl ⟨w.stops H2 (by trivial), k D H2 us (fresh_back e1 hD) (e1.trans e2) hD2 hul fun r v hr => (hus r v hr).2⟩
/-! [e for a, b in pairs if t], items made -/
theorem lc_pairsF {K : PySem.W.Frag} {σ : L2.St} {H : Hp} {te tl : TE} {t : TT} {j1 j2 : Nat} {vs : List Nat} {Q : VK} {a : Addr} {xs : List V} {Z : Nat → Hp → V → Prop} (f : Nat → Bool) (ha : Ev tl σ H (.ref a)) (hx : H a = some (.lst xs)) (hz : xs.length ≤ 40000) (y z : Nat → V) (two : ∀ (i : Nat) x, xs[i]? = some x → ∃ b, x = .ref b ∧ H b = some (.tup [y i, z i])) (hw : ∀ x y, wipe (((wipe σ vs).set j1 (some x)).set j2 (some y)) vs = wipe σ vs)
    (mono : ∀ i v H1 H2, Ex H1 H2 → Z i H1 v → Z i H2 v) (hup : ∀ i v H1 D ys o, H1 D = some (.lst ys) → v ≠ .ref D → Z i H1 v → Z i (upd H1 D o) v)
    (ht : ∀ (i : Nat) H1, Ex H H1 → i < xs.length → EvT t (((wipe σ vs).set j1 (some (y i))).set j2 (some (z i))) H1 (f i))
    (he : ∀ (i : Nat) H1, Ex H H1 → i < xs.length → f i = true → ∀ Q' : VK, (∀ v H2, Ex H1 H2 → Z i H2 v → (∀ D ys, H1 D = some (.lst ys) → v ≠ .ref D) → Q' v H2) → te (((wipe σ vs).set j1 (some (y i))).set j2 (some (z i))) H1 Q')
    (k : ∀ D H1 us, H D = none → Ex H H1 → H1 D = some (.lst us) → us.length = ((List.range xs.length).filter f).length → (∀ (q : Nat) (v : V), us[q]? = some v → ∃ i, ((List.range xs.length).filter f)[q]? = some i ∧ Z i H1 v) → Q (.ref D) H1) :
    tLc (iList K tl) (gTup K 2 (gCons (gName j1) (gCons (gName j2) gNil))) t te vs σ H Q := ha H (Ex.refl _) _ fun H1 e1 => by
  refine ⟨a, rfl, ⟨xs, sq_of (e1 _ _ hx)⟩, fun D hD => ?_⟩
  refine lc_it (walk_list (K := K) (a := a) (xs := xs)) (fun i H' => ∃ us : List V, Ex H1 H' ∧ H' D = some (.lst us) ∧ us.length = ((List.range i).filter f).length ∧ ∀ (q : Nat) (v : V), us[q]? = some v → v ≠ .ref D ∧ ∃ r, ((List.range i).filter f)[q]? = some r ∧ Z r H' v) ⟨[], Ex.new hD, upd_same, rfl, fun r v h => (by cases h)⟩ (fun i H' _ p => ?_) (fun i x H' H2 hi p yy => ?_) (fun H' p => ?_)
  · obtain ⟨_, e2, _⟩ := p
    exact sq_of (e2 _ _ (e1 _ _ hx))
  · obtain ⟨us, e2, h1, h2, h3⟩ := p
    obtain ⟨rfl, hxi⟩ := yy
    obtain ⟨b, rfl, hb⟩ := two i x hxi
    have hil : ((List.range i).filter f).length ≤ i := by have := List.length_filter_le f (List.range i); rw [List.length_range] at this; exact this
    refine ⟨b, _, rfl, st_of ((e1.trans e2) _ _ hb), rfl, g_two ⟨hw _ _, ?_⟩⟩
    refine ht i _ (e1.trans e2) hi H2 (Ex.refl _) _ fun H3 e3 => ?_
    cases hf : f i with
    | false =>
      rw [if_neg (by decide)]
      have hfl : (List.range (i + 1)).filter f = (List.range i).filter f := by rw [List.range_succ, List.filter_append, List.filter_cons, if_neg (by rw [hf]; decide), List.filter_nil, List.append_nil]
      rw [hfl]
      exact ⟨us, e2.trans e3, e3 _ _ h1, h2, fun q v hq => by
        obtain ⟨g1, r, g2, g3⟩ := h3 q v hq
        exact ⟨g1, r, g2, mono _ _ _ _ e3 g3⟩⟩
    | true =>
      rw [if_pos rfl]
      have hfl : (List.range (i + 1)).filter f = (List.range i).filter f ++ [i] := by rw [List.range_succ, List.filter_append, List.filter_cons, if_pos hf, List.filter_nil]
      rw [hfl]
      refine he i H3 ((e1.trans e2).trans e3) hi hf _ fun v H4 e4 hv hne => ?_
      have hD4 := e4 _ _ (e3 _ _ h1)
      refine ⟨us, hD4, sz_lt (by omega), us ++ [v], Ex.mut ((e2.trans e3).trans e4) hD, upd_same, by rw [List.length_append, List.length_append, h2]; rfl, fun q v' hq => ?_⟩
      by_cases c : q < us.length
      · rw [List.getElem?_append_left c] at hq
        obtain ⟨g1, r, g2, g3⟩ := h3 q v' hq
        exact ⟨g1, r, by rw [List.getElem?_append_left (by omega)]; exact g2, hup _ _ _ _ _ _ hD4 g1 (mono _ _ _ _ (e3.trans e4) g3)⟩
      · rw [List.getElem?_append_right (by omega)] at hq
        have hq0 : q - us.length = 0 := by
          cases hz : q - us.length with
          | zero => rfl
          | succ q => rw [hz] at hq; cases hq
        rw [hq0] at hq
        cases hq
        have g1 := hne D _ (e3 _ _ h1)
        exact ⟨g1, i, by rw [List.getElem?_append_right (by omega), show q - ((List.range i).filter f).length = 0 by omega]; rfl, hup _ _ _ _ _ _ hD4 g1 hv⟩
  · obtain ⟨us, e2, h1, h2, h3⟩ := p
    exact k D H' us (fresh_back e1 hD) (e1.trans e2) h1 h2 fun q v hq => (h3 q v hq).2
section
variable {P : Program} {w : World} {K : PySem.W.Frag} {mg : Str → Option Value} {base : Heap} {f : Addr} {fd : FuncData} {CC : Addr}
theorem ev_cost {σ : L2.St} {H : Hp} {t0 ta tb : TE} {x : Addr} {n a b : Nat} {kvs : List (List L2.Key × V)} (h0 : Ev t0 σ H (.ref x)) (hC : Cst CC H x n kvs) (ha : Ev ta σ H (.int (a : Int))) (hb : Ev tb σ H (.int (b : Int))) (han : a < n) (hbn : b < n) : Ev (tMeth CC "cost" (spCost CC) [] E0 t0 (tCons ta (tCons tb tNil))) σ H ((valV kvs (Lk a b)).getD .non) := fun H1 e Q q =>
  h0 H1 e _ fun H2 e2 => by
    obtain ⟨dx, fs, D, h1, h2, h3, h4, h5⟩ := id hC
    exact ⟨x, dx, fs, rfl, (e.trans e2) _ _ h1, h4, ha H2 (e.trans e2) _ fun H3 e3 => hb H3 ((e.trans e2).trans e3) _ fun H4 e4 => ⟨x, n, a, b, kvs, rfl, hC.mono (((e.trans e2).trans e3).trans e4), han, hbn, fun H5 e5 => q H5 (((e2.trans e3).trans e4).trans e5)⟩⟩
/-! lines_with_costs -/
/-- the lines in their order -/
def linesL (n : Nat) (kvs : List (List L2.Key × V)) : List (Nat × Nat × Nat) := ((List.range (n * n)).filter fun r => (Lin kvs (r / n) (r % n)).isSome).map fun r => (r / n, r % n, (Lin kvs (r / n) (r % n)).getD 0)
def spLwc (CC : Addr) : Sp := fun vs H Q _ => ∃ (x : Addr) (n : Nat) (kvs : List (List L2.Key × V)), vs = [.ref x] ∧ Cst CC H x n kvs ∧ n ≤ 8 ∧ LnOk n kvs ∧
  ∀ H' D us ls, H D = none → Ex H H' → H' D = some (.lst us) → LsT n H' us ls → (∀ a b c, (a, b, c) ∈ ls ↔ Lin kvs a b = some c) → ls.length ≤ 64 → ls = linesL n kvs → Q (.ref D) H'
abbrev sLwc : Stmt := top 20
abbrev nLwc : List Str := ["costs", "pairs", "a", "b"]
theorem scLwc : FnScope nLwc ["costs"] (defScope sLwc) := ⟨rfl, rfl, rfl, by decide +kernel, rfl, by decide +kernel, by decide +kernel⟩
theorem ok_lwc (B : Bl mg) (X : CXc K CC) (MC : MskO P w K mg base CC "cost" ["self", "a", "b"] 5 (spCost CC)) (F : FnP K "lines_with_costs" sLwc f fd) : FnOk P w K mg base CX0 6 f fd ["costs"] (spLwc CC) := by
  obtain ⟨f2, fd2, me2, F2, b2⟩ := MC.ex
  refine F.ok scLwc (fun vs H Q E h => ?_) (fun cdv A outer s H vs Q E hr h => ?_)
  · obtain ⟨x, n, kvs, rfl, _⟩ := h
    rfl
  · obtain ⟨x, n, kvs, rfl, hC, hn, hok, k⟩ := h
    have r5 : Room 5 _ := hr.mono (by decide)
    refine ⟨_, pss_cons (ps_setLc2 (i := 1) (own := [("a", 2), ("b", 3)]) (vs1 := [3]) (g := gName 2) (g1 := gName 3) (tt := tYes) (tt1 := tYes) rfl scLwc.nd rfl rfl (sw_true rfl rfl rfl (by decide +kernel)) (pi_range1 (by rfl) B.range (pa_cons (pe_fld (pv 0) rfl) pa_nil)) (blkOk_by (N := nLwc) (sc := defScope sLwc) (by decide +kernel)) (by decide)
          (fun _ _ _ _ _ => pg_name (i := 2) scLwc.nd rfl (Or.inl rfl)) (fun _ _ _ _ _ => pts_nil)
          (fun _ _ _ _ _ => pi_range1 (by rfl) B.range (pa_cons (pe_fldK (K := K) rfl (pv 0) rfl) pa_nil))
          (fun _ _ _ _ _ => pg_name (i := 3) scLwc.nd rfl (Or.inl rfl)) (fun _ _ _ _ _ => pts_nil) (fun _ _ _ _ _ => pe_tup (pa_cons (pv 2) (pa_cons (pv 3) pa_nil))))
      (pss_one (ps_ret (pe_lc (own := [("a", 2), ("b", 3)]) (g := gTup K 2 (gCons (gName 2) (gCons (gName 3) gNil))) rfl scLwc.nd (pi_list (pv 1)) (blkOk_by (N := nLwc) (sc := defScope sLwc) (by decide +kernel))
        (fun _ _ _ _ _ => pg_tup rfl (pgs_cons (pg_name (i := 2) scLwc.nd rfl (.inl rfl)) (pgs_cons (pg_name (i := 3) scLwc.nd rfl (.inl rfl)) pgs_nil))) (fun _ _ _ _ _ => pts_one (pt_cmp (pc_notN (pe_meth (pv 0) X.cl me2 F2 r5 b2 .nil pass0 (pa_cons (pv 2) (pa_cons (pv 3) pa_nil))))))
        (fun _ _ _ _ _ => pe_tup (pa_cons (pv 2) (pa_cons (pv 3) (pa_cons (pe_meth (pv 0) X.cl me2 F2 r5 b2 .nil pass0 (pa_cons (pv 2) (pa_cons (pv 3) pa_nil))) pa_nil))))))), ?_⟩
    obtain ⟨dx, fs, DL, h1, h2, h3, h4, h5⟩ := id hC
    have fS : ∀ {σ : L2.St}, σ[0]? = some (some (.ref x)) → Ev (tFld K (tVar 0) "size") σ H (.int (n : Int)) := fun h0 H1 e Q q => ⟨.ref x, h0, x, CC, dx, fs, _, rfl, e _ _ h1, X.cl, X.nS, h2, q H1 (Ex.refl _)⟩
    refine q_asgW ?_
    refine lc2_madeRR (n := n) (Y := fun a b H v => ∃ t, v = .ref t ∧ H t = some (.tup [.int (a : Int), .int (b : Int)])) (fS rfl) (by omega) (fun _ => rfl) (fun _ _ => rfl) (fun _ => fS rfl)
      (fun a b v H1 H2 e h => by
        obtain ⟨t, i1, i2⟩ := h
        exact ⟨t, i1, e _ _ i2⟩)
      (fun a b v H1 D ys o hD _ h => by
        obtain ⟨t, i1, i2⟩ := h
        exact ⟨t, i1, by rw [upd_ne (fun z => by rw [z, hD] at i2; cases i2)]; exact i2⟩)
      (fun a b H1 e1 ha hb Q' q' => ⟨.int (a : Int), rfl, .int (b : Int), rfl, by show 2 ≤ sizeLine; decide, fun t ht => q' _ _ (Ex.new ht) ⟨t, rfl, upd_same⟩ fun D ys hD z => by
        injection z with z
        rw [z, hD] at ht
        cases ht⟩)
      (fun D H1 us nD e1 hD hul hus => ?_)
    change tRet _ _ [some (.ref x), some (.ref D), none, none] H1
    have hC1 := hC.mono e1
    have hn0 : ∀ r, r < us.length → r / n < n ∧ r % n < n := fun r hr => by
      have hpos : 0 < n := by
        rcases Nat.eq_zero_or_pos n with z | z
        · rw [z] at hul
          omega
        · exact z
      exact ⟨Nat.div_lt_of_lt_mul (by omega), Nat.mod_lt _ hpos⟩
    have ct : ∀ {r : Nat} {H2 : Hp} {σ : L2.St}, r < us.length → Ex H1 H2 → σ[0]? = some (some (.ref x)) → σ[2]? = some (some (.int ((r / n : Nat) : Int))) → σ[3]? = some (some (.int ((r % n : Nat) : Int))) → Ev (tMeth CC "cost" (spCost CC) [] E0 (tVar 0) (tCons (tVar 2) (tCons (tVar 3) tNil))) σ H2 ((valV kvs (Lk (r / n) (r % n))).getD .non) := fun hr e g0 g2 g3 =>
      ev_cost (ev_var g0) (hC1.mono e) (ev_var g2) (ev_var g3) (hn0 _ hr).1 (hn0 _ hr).2
    have hlin := lin_val hok
    have hdn : ∀ r, (!decide (((valV kvs (Lk (r / n) (r % n))).getD .non) = .non)) = (Lin kvs (r / n) (r % n)).isSome := fun r => by
      rcases hlin (r / n) (r % n) with ⟨c, g1, g2, _⟩ | ⟨g1, g2⟩
      · rw [g1, g2]
        show (!decide (V.int (c : Int) = V.non)) = true
        rw [decide_eq_false fun z => by cases z]
        rfl
      · rw [g1, g2]
        show (!decide (V.non = V.non)) = false
        rw [decide_eq_true rfl]
        rfl
    refine lc_pairsF (K := K) (a := D) (xs := us) (j1 := 2) (j2 := 3) (vs := [2, 3]) (Z := fun r H v => ∃ t, v = .ref t ∧ H t = some (.tup [.int ((r / n : Nat) : Int), .int ((r % n : Nat) : Int), .int (((Lin kvs (r / n) (r % n)).getD 0 : Nat) : Int)])) (fun r => (Lin kvs (r / n) (r % n)).isSome) (ev_var rfl) hD (by have : n * n ≤ 8 * 8 := Nat.mul_le_mul hn hn; omega) (fun r => .int ((r / n : Nat) : Int)) (fun r => .int ((r % n : Nat) : Int)) (fun r v hv => hus r v hv) (fun _ _ => rfl)
      (fun r v H2 H3 e h => by
        obtain ⟨t, i1, i2⟩ := h
        exact ⟨t, i1, e _ _ i2⟩)
      (fun r v H2 D' ys o hD' _ h => by
        obtain ⟨t, i1, i2⟩ := h
        exact ⟨t, i1, by rw [upd_ne (fun z => by rw [z, hD'] at i2; cases i2)]; exact i2⟩)
      (fun r H2 e2 hr => by
        have z : Ev (tNotN (tMeth CC "cost" (spCost CC) [] E0 (tVar 0) (tCons (tVar 2) (tCons (tVar 3) tNil)))) (((wipe [some (.ref x), some (.ref D), none, none] [2, 3]).set 2 (some (.int ((r / n : Nat) : Int)))).set 3 (some (.int ((r % n : Nat) : Int)))) H2 (.bl (!decide (((valV kvs (Lk (r / n) (r % n))).getD .non) = .non))) := fun H3 e3 Q3 q3 => ct hr (e2.trans e3) rfl rfl rfl H3 (Ex.refl _) _ fun H4 e4 => q3 H4 e4
        rw [hdn] at z
        exact et_B z)
      (fun r H2 e2 hr hf Q' q' => ?_) (fun D2 H2 us2 n2 e2 hD2 hul2 hus2 => ?_)
    · rcases hlin (r / n) (r % n) with ⟨c, g1, g2, _⟩ | ⟨g1, g2⟩
      · refine ⟨.int ((r / n : Nat) : Int), rfl, .int ((r % n : Nat) : Int), rfl, ?_⟩
        have z := ct (σ := ((wipe [some (.ref x), some (.ref D), none, none] [2, 3]).set 2 (some (.int ((r / n : Nat) : Int)))).set 3 (some (.int ((r % n : Nat) : Int)))) hr e2 rfl rfl rfl
        rw [g1] at z
        refine z H2 (Ex.refl _) _ fun H3 e3 => ⟨by show 3 ≤ sizeLine; decide, fun t ht => ?_⟩
        refine q' _ _ (e3.trans (Ex.new ht)) ⟨t, rfl, ?_⟩ fun D' ys hD' z => ?_
        · rw [upd_same, g2]
          rfl
        · injection z with z
          rw [z, e3 _ _ hD'] at ht
          cases ht
      · rw [g2] at hf
        cases hf
    · have hn8 : n * n ≤ 8 * 8 := Nat.mul_le_mul hn hn
      refine k H2 D2 us2 (((List.range us.length).filter fun r => (Lin kvs (r / n) (r % n)).isSome).map fun r => (r / n, r % n, (Lin kvs (r / n) (r % n)).getD 0)) (fresh_back e1 n2) (e1.trans e2) hD2 ⟨by rw [List.length_map]; exact hul2, fun q v hq => ?_⟩ (fun a b c => ?_) ?_ (by unfold linesL; rw [hul])
      · obtain ⟨r, g1, t, g2, g3⟩ := hus2 q v hq
        have hr := List.mem_range.mp (List.mem_filter.mp (List.mem_of_getElem? g1)).1
        exact ⟨t, (r / n, r % n, (Lin kvs (r / n) (r % n)).getD 0), by rw [List.getElem?_map, g1]; rfl, (hn0 r hr).1, (hn0 r hr).2, g2, g3⟩
      · constructor
        · intro h
          obtain ⟨r, g1, g2⟩ := List.mem_map.mp h
          have hf := (List.mem_filter.mp g1).2
          injection g2 with g2 g3
          injection g3 with g3 g4
          rw [← g2, ← g3, ← g4]
          cases z : Lin kvs (r / n) (r % n) with
          | none => rw [z] at hf; cases hf
          | some c' => rfl
        · intro h
          rcases hlin a b with ⟨c', g1, g2, ha, hb, _⟩ | ⟨g1, g2⟩
          · have hpos : 0 < n := by omega
            have d1 : (b + a * n) / n = a := by rw [Nat.add_mul_div_right _ _ hpos, Nat.div_eq_of_lt hb, Nat.zero_add]
            have d2 : (b + a * n) % n = b := by rw [Nat.add_mul_mod_self_right, Nat.mod_eq_of_lt hb]
            have hlt : b + a * n < us.length := by
              have : (a + 1) * n ≤ n * n := Nat.mul_le_mul_right _ ha
              rw [Nat.succ_mul] at this
              omega
            refine List.mem_map.mpr ⟨b + a * n, List.mem_filter.mpr ⟨List.mem_range.mpr hlt, by rw [d1, d2, h]; rfl⟩, ?_⟩
            rw [d1, d2, h]
            rfl
          · rw [g2] at h
            cases h
      · rw [List.length_map]
        have := List.length_filter_le (fun r => (Lin kvs (r / n) (r % n)).isSome) (List.range us.length)
        rw [List.length_range] at this
        omega
end
end Wk

set_option Elab.async false
set_option linter.all false
set_option maxRecDepth 100000
set_option maxHeartbeats 4000000
namespace Wk
open PySem PySem.Spec PyProof.Rows L2 Evl
/-! set(l), l a list of ints -/
section
variable {P : Program} {w : World} {A : Around} {E : Value → Shared → Prop} {s : Shared}
theorem set_of_listI {l : Addr} {its : Array Value} (ns : List Int) {Q : Value → Shared → Prop} (nh : A.handled = none) (tl : s.heap.IsList l its) (it : IntsAre its.toList ns) (few : ns.length + 1 < scanBound)
    (fin : ∀ (h' : Heap) (tk c : Nat), SetR w h' s.heap.objs.size (fun j => decide (j ∈ ns)) c → c ≤ ns.length → (∀ b o, s.heap.get? b = some o → h'.get? b = some o) → Q (.ref s.heap.objs.size) { s with heap := h', toks := tk }) :
    wpAny (model P w) A (call (.type "set") [.ref l]) Q E s := by
  have size : its.size = ns.length := by have q := IntsAre.length it; rw [Array.length_toList] at q; exact q
  obtain ⟨c, rest, mro⟩ := F.called_set.mro
  have made := F.called_set.made; have sub := F.called_set.sub
  refine wpAny_call (codeAny_of_tree (show wpAny _ _ (callAny (.type "set") _) _ _ _ from ?_))
  refine wpAny_pure ⟨Code.quiet_builtin _ (by decide +kernel), codeAny_builtin F.entry_type_call (by
    rw [Around.under_plain (weight_type_call_type "set" [.ref l] []) rfl]
    have nt := F.called_set.notType; have cc := F.called_set.canCreate; have tc := F.typeCall_set_1 (.ref l)
    repeat (any_goals (first | assumption | wp_step))
    refine codeAny_mono (code_set_led1 (.ref l) (E := E) (Q₁ := fun ob s1 => ob = .ref s.heap.objs.size ∧ s1 = { s with heap := s.heap.push (sO w) }) ⟨rfl, rfl⟩) fun r s1 hr => ?_
    cases r with
    | error e => exact hr
    | ok fl =>
      cases fl with
      | ret ob =>
        obtain ⟨rfl, rfl⟩ := hr
        have hS : (s.heap.push (sO w)).get? s.heap.objs.size = some (sO w) := Heap.get?_push_size _ rfl
        have hT : Shared.TypeIs { s with heap := s.heap.push (sO w) } (.ref s.heap.objs.size) "set" := ⟨_, hS, rfl⟩
        have li := F.called_set.init.lookup; have bi := F.called_set.init.bind (.ref s.heap.objs.size)
        repeat (any_goals (first | assumption | wp_step))
        refine codeAny_mono (codeAny_call_builtin (R := wants (fun r s2 => r = .none ∧ ∃ h' tk c, s2 = { s with heap := h', toks := tk } ∧ SetR w h' s.heap.objs.size (fun j => decide (j ∈ ns)) c ∧ c ≤ ns.length ∧ (∀ b o, s.heap.get? b = some o → h'.get? b = some o)) E)
          F.called_set.init.plain F.entry_set_init (check_set_init_1 hT ?_)) fun r2 s2 hr2 => ?_
        · obtain ⟨⟨oc, od, dt, sl⟩, ol, cl, n, dl⟩ := tl
          simp only at cl dl; subst cl; subst dl
          have ol1 : (s.heap.push (sO w)).get? l = some { cls := .type "list", dict := od, data := .seq its n, slots := sl } := Heap.get?_push_of_some _ ol
          have b1 := F.sub_list_set; have b2 := F.sub_list_frozenset
          have b3 : (Value.type "list" == Value.type "dict") = false := by decide
          have tl1 : (s.heap.push (sO w)).IsList l its := ⟨_, ol1, rfl, n, rfl⟩
          unfold Builtin.«set.__init__» noKeywords Builtin.Frozenset.updateFrom
          generalize hPI : pyIter = PI
          wp_walk
          subst hPI
          refine wpAny_pyIter_list tl1 (wpAny_bind (wpAny_runValue ?_))
          have lt : l < s.heap.objs.size := Heap.lt_size ol
          have nh3 : A.in1.in1.in1.handled = none := by simp [nh]
          have ne1 : l ≠ (s.heap.push (sO w)).objs.size := by rw [Heap.size_push]; exact Nat.ne_of_lt (Nat.lt_succ_of_lt lt)
          have nin : s.heap.objs.size ∉ [(s.heap.push (sO w)).objs.size, l] := by
            rw [Heap.size_push]
            intro z
            rcases List.mem_cons.mp z with z | z
            · exact absurd z (Nat.ne_of_lt (Nat.lt_succ_self _))
            · exact absurd (List.mem_singleton.mp z) (Nat.ne_of_gt lt)
          have val : ∀ (i : Nat) (v : Value), its[i]? = some v → ∃ k t, ns[i]? = some k ∧ v = .int k t := fun i v hv => by
            have hi : i < ns.length := by rw [← size]; exact (Array.getElem?_eq_some_iff.mp hv).1
            obtain ⟨t, et⟩ := PyProof.Rows.IntsAre.int_at it i v ((Array.getElem?_toList ..).trans hv)
            exact ⟨ns[i], t, List.getElem?_eq_getElem hi, et.trans (by rw [List.getD_eq_getElem?_getD, List.getElem?_eq_getElem hi]; rfl)⟩
          refine set_update_ints ((Walks.list nh3 _ l ne1 its).toS) s.heap.objs.size nin ns size few val (its.size - 0) 0 _ (by omega) (Nat.zero_le _)
            ⟨⟨_, Heap.get?_push_size _ rfl, rfl, rfl⟩, (tl1.push _)⟩ ⟨0, Nat.le_refl 0, setR_new_at (Heap.get?_push_of_some _ hS)⟩ ?_
          intro s' c' hm hc' hS'
          obtain ⟨h', g2, d', tk', os'⟩ := s'
          have eg : g2 = s.gens := hm.gens
          have ed : d' = s.drawn := hm.drawn
          have eo : os' = s.os := hm.os
          subst eg; subst ed; subst eo
          show wpAny _ _ _ _ _ _
          refine wpAny_pure (show wpAny _ _ (ret Value.none) _ _ _ from ?_)
          rw [size] at hc'
          refine wpAny_pure ⟨rfl, h', tk', c', rfl, hS', hc', fun b o e => ?_⟩
          have hb0 : b < s.heap.objs.size := Heap.lt_size e
          refine hm.heap b o (fun z => ?_) (Heap.get?_push_of_some _ (Heap.get?_push_of_some _ e))
          rcases List.mem_cons.mp z with z | z
          · exact absurd z (Nat.ne_of_lt hb0)
          · have z := List.mem_singleton.mp z
            rw [Heap.size_push] at z
            exact absurd z (Nat.ne_of_lt (Nat.lt_succ_of_lt hb0))
        · cases r2 with
          | error e => exact hr2
          | ok fl2 =>
            cases fl2 with
            | ret r =>
              obtain ⟨rfl, h', tk, c, rfl, hS', g', k'⟩ := hr2
              repeat (any_goals (first | assumption | wp_step))
              exact fin _ _ _ hS' g' k'
            | _ => exact hr2.elim
      | _ => exact hr.elim)⟩
end
/-! set(l), l a tuple of ints -/
section
variable {P : Program} {w : World} {A : Around} {E : Value → Shared → Prop} {s : Shared}
theorem set_of_tupI {l : Addr} {its : Array Value} (ns : List Int) {Q : Value → Shared → Prop} (nh : A.handled = none) (tl : s.heap.IsTuple l its) (it : IntsAre its.toList ns) (few : ns.length + 1 < scanBound)
    (fin : ∀ (h' : Heap) (tk c : Nat), SetR w h' s.heap.objs.size (fun j => decide (j ∈ ns)) c → c ≤ ns.length → (∀ b o, s.heap.get? b = some o → h'.get? b = some o) → Q (.ref s.heap.objs.size) { s with heap := h', toks := tk }) :
    wpAny (model P w) A (call (.type "set") [.ref l]) Q E s := by
  have size : its.size = ns.length := by have q := IntsAre.length it; rw [Array.length_toList] at q; exact q
  obtain ⟨c, rest, mro⟩ := F.called_set.mro
  have made := F.called_set.made; have sub := F.called_set.sub
  refine wpAny_call (codeAny_of_tree (show wpAny _ _ (callAny (.type "set") _) _ _ _ from ?_))
  refine wpAny_pure ⟨Code.quiet_builtin _ (by decide +kernel), codeAny_builtin F.entry_type_call (by
    rw [Around.under_plain (weight_type_call_type "set" [.ref l] []) rfl]
    have nt := F.called_set.notType; have cc := F.called_set.canCreate; have tc := F.typeCall_set_1 (.ref l)
    repeat (any_goals (first | assumption | wp_step))
    refine codeAny_mono (code_set_led1 (.ref l) (E := E) (Q₁ := fun ob s1 => ob = .ref s.heap.objs.size ∧ s1 = { s with heap := s.heap.push (sO w) }) ⟨rfl, rfl⟩) fun r s1 hr => ?_
    cases r with
    | error e => exact hr
    | ok fl =>
      cases fl with
      | ret ob =>
        obtain ⟨rfl, rfl⟩ := hr
        have hS : (s.heap.push (sO w)).get? s.heap.objs.size = some (sO w) := Heap.get?_push_size _ rfl
        have hT : Shared.TypeIs { s with heap := s.heap.push (sO w) } (.ref s.heap.objs.size) "set" := ⟨_, hS, rfl⟩
        have li := F.called_set.init.lookup; have bi := F.called_set.init.bind (.ref s.heap.objs.size)
        repeat (any_goals (first | assumption | wp_step))
        refine codeAny_mono (codeAny_call_builtin (R := wants (fun r s2 => r = .none ∧ ∃ h' tk c, s2 = { s with heap := h', toks := tk } ∧ SetR w h' s.heap.objs.size (fun j => decide (j ∈ ns)) c ∧ c ≤ ns.length ∧ (∀ b o, s.heap.get? b = some o → h'.get? b = some o)) E)
          F.called_set.init.plain F.entry_set_init (check_set_init_1 hT ?_)) fun r2 s2 hr2 => ?_
        · obtain ⟨⟨oc, od, dt, sl⟩, ol, cl, n, dl⟩ := tl
          simp only at cl dl; subst cl; subst dl
          have ol1 : (s.heap.push (sO w)).get? l = some { cls := .type "tuple", dict := od, data := .seq its n, slots := sl } := Heap.get?_push_of_some _ ol
          have b1 := F.sub_tuple_set; have b2 := F.sub_tuple_frozenset
          have b3 : (Value.type "tuple" == Value.type "dict") = false := by decide
          have tl1 : (s.heap.push (sO w)).IsTuple l its := ⟨_, ol1, rfl, n, rfl⟩
          unfold Builtin.«set.__init__» noKeywords Builtin.Frozenset.updateFrom
          generalize hPI : pyIter = PI
          wp_walk
          subst hPI
          refine wpAny_pyIter_tuple tl1 (wpAny_bind (wpAny_runValue ?_))
          have lt : l < s.heap.objs.size := Heap.lt_size ol
          have nh3 : A.in1.in1.in1.handled = none := by simp [nh]
          have ne1 : l ≠ (s.heap.push (sO w)).objs.size := by rw [Heap.size_push]; exact Nat.ne_of_lt (Nat.lt_succ_of_lt lt)
          have nin : s.heap.objs.size ∉ [(s.heap.push (sO w)).objs.size, l] := by
            rw [Heap.size_push]
            intro z
            rcases List.mem_cons.mp z with z | z
            · exact absurd z (Nat.ne_of_lt (Nat.lt_succ_self _))
            · exact absurd (List.mem_singleton.mp z) (Nat.ne_of_gt lt)
          have val : ∀ (i : Nat) (v : Value), its[i]? = some v → ∃ k t, ns[i]? = some k ∧ v = .int k t := fun i v hv => by
            have hi : i < ns.length := by rw [← size]; exact (Array.getElem?_eq_some_iff.mp hv).1
            obtain ⟨t, et⟩ := PyProof.Rows.IntsAre.int_at it i v ((Array.getElem?_toList ..).trans hv)
            exact ⟨ns[i], t, List.getElem?_eq_getElem hi, et.trans (by rw [List.getD_eq_getElem?_getD, List.getElem?_eq_getElem hi]; rfl)⟩
          refine set_update_ints ((Walks.tuple nh3 _ l ne1 its).toS) s.heap.objs.size nin ns size few val (its.size - 0) 0 _ (by omega) (Nat.zero_le _)
            ⟨⟨_, Heap.get?_push_size _ rfl, rfl, rfl⟩, (tl1.push _)⟩ ⟨0, Nat.le_refl 0, setR_new_at (Heap.get?_push_of_some _ hS)⟩ ?_
          intro s' c' hm hc' hS'
          obtain ⟨h', g2, d', tk', os'⟩ := s'
          have eg : g2 = s.gens := hm.gens
          have ed : d' = s.drawn := hm.drawn
          have eo : os' = s.os := hm.os
          subst eg; subst ed; subst eo
          show wpAny _ _ _ _ _ _
          refine wpAny_pure (show wpAny _ _ (ret Value.none) _ _ _ from ?_)
          rw [size] at hc'
          refine wpAny_pure ⟨rfl, h', tk', c', rfl, hS', hc', fun b o e => ?_⟩
          have hb0 : b < s.heap.objs.size := Heap.lt_size e
          refine hm.heap b o (fun z => ?_) (Heap.get?_push_of_some _ (Heap.get?_push_of_some _ e))
          rcases List.mem_cons.mp z with z | z
          · exact absurd z (Nat.ne_of_lt hb0)
          · have z := List.mem_singleton.mp z
            rw [Heap.size_push] at z
            exact absurd z (Nat.ne_of_lt (Nat.lt_succ_of_lt hb0))
        · cases r2 with
          | error e => exact hr2
          | ok fl2 =>
            cases fl2 with
            | ret r =>
              obtain ⟨rfl, h', tk, c, rfl, hS', g', k'⟩ := hr2
              repeat (any_goals (first | assumption | wp_step))
              exact fin _ _ _ hS' g' k'
            | _ => exact hr2.elim
      | _ => exact hr.elim)⟩
end
section
variable {X : Cx}
def rSetOfI (K : PySem.W.Frag) (w : World) : List V → Hp → VK → Prop := fun xs H Q => ∃ (l : Addr) (ns : List Int), xs = [.ref l] ∧ SqL K H l (ns.map V.int) ∧ ns.length < 64 ∧ ∀ p c, H p = none → c ≤ ns.length → Q (.ref p) (upd H p (SetO w p (fun j => decide (j ∈ ns)) c))
theorem cr_setOfI (hc : X.calm = true) : CallR X (.type "set") (rSetOfI X.K X.w) := by
  intro pins s σ H xs us Q I r h
  obtain ⟨l, ns, rfl, hl, few, q⟩ := h
  rw [Vals.ref1 r]
  obtain ⟨its, rv, pl, hz⟩ := I.list hl
  refine set_of_listI (w := X.w) ns (I.ok.hd hc) pl.isList (by simpa using rv.ints) (by unfold scanBound; omega) fun h' tk c hS hc2 hk => ?_
  exact ⟨.ref _, upd H s.heap.objs.size (SetO X.w s.heap.objs.size (fun j => decide (j ∈ ns)) c), I.laid (t' := tk) hk (Nat.le_refl _) (setO_new hS), rfl, q _ _ (I.hok.fresh (Nat.le_refl _)) hc2⟩
end
/-- sorted(set(l)): the same numbers, ascending -/
theorem el_sortSet {K : PySem.W.Frag} {w : World} {σ : L2.St} {H : Hp} {ta : TE} {ns : List Int} {Q : VK} (h : EvL ta σ H (ns.map V.int)) (hl : ns.length < 64) (k : ∀ (ms : List Int) (p : Addr) H', ms.Pairwise (· < ·) → (∀ x, x ∈ ms ↔ x ∈ ns) → H p = none → Ex H H' → H' p = some (.lst (ms.map V.int)) → Q (.ref p) H') :
    tCB (rSortedSet w) (tCons (tCB (rSetOfI K w) (tCons ta tNil)) tNil) σ H Q := h H (Ex.refl _) _ fun l H1 nl e1 hl1 => by
  refine ⟨l, ns, rfl, sq_of hl1, hl, fun p c hp hc => ⟨p, _, c, rfl, upd_same, by omega, fun ms r pw hm _ hr => ?_⟩⟩
  have e2 := Ex.new (o := SetO w p (fun j => decide (j ∈ ns)) c) hp
  exact k ms r _ pw (fun x => by rw [hm x, decide_eq_true_eq]) (fresh_back (e1.trans e2) hr) ((e1.trans e2).trans (Ex.new hr)) upd_same
section
variable {X : Cx}
def rSetOfU (K : PySem.W.Frag) (w : World) : List V → Hp → VK → Prop := fun xs H Q => ∃ (l : Addr) (ns : List Int), xs = [.ref l] ∧ SqT K H l (ns.map V.int) ∧ ns.length < 64 ∧ ∀ p c, H p = none → c ≤ ns.length → Q (.ref p) (upd H p (SetO w p (fun j => decide (j ∈ ns)) c))
theorem cr_setOfU (hc : X.calm = true) : CallR X (.type "set") (rSetOfU X.K X.w) := by
  intro pins s σ H xs us Q I r h
  obtain ⟨l, ns, rfl, hl, few, q⟩ := h
  rw [Vals.ref1 r]
  obtain ⟨its, rv, pl, hz⟩ := I.tuple hl
  refine set_of_tupI (w := X.w) ns (I.ok.hd hc) pl (by simpa using rv.ints) (by unfold scanBound; omega) fun h' tk c hS hc2 hk => ?_
  exact ⟨.ref _, upd H s.heap.objs.size (SetO X.w s.heap.objs.size (fun j => decide (j ∈ ns)) c), I.laid (t' := tk) hk (Nat.le_refl _) (setO_new hS), rfl, q _ _ (I.hok.fresh (Nat.le_refl _)) hc2⟩
end
/-- sorted(set(t)) -/
theorem el_sortSetU {K : PySem.W.Frag} {w : World} {σ : L2.St} {H : Hp} {ta : TE} {ns : List Int} {a : Addr} {Q : VK} (h : Ev ta σ H (.ref a)) (hT : H a = some (.tup (ns.map V.int))) (hl : ns.length < 64) (k : ∀ (ms : List Int) (p : Addr) H', ms.Pairwise (· < ·) → (∀ x, x ∈ ms ↔ x ∈ ns) → H p = none → Ex H H' → H' p = some (.lst (ms.map V.int)) → Q (.ref p) H') :
    tCB (rSortedSet w) (tCons (tCB (rSetOfU K w) (tCons ta tNil)) tNil) σ H Q := h H (Ex.refl _) _ fun H1 e1 => by
  refine ⟨a, ns, rfl, st_of (e1 _ _ hT), hl, fun p c hp hc => ⟨p, _, c, rfl, upd_same, by omega, fun ms r pw hm _ hr => ?_⟩⟩
  have e2 := Ex.new (o := SetO w p (fun j => decide (j ∈ ns)) c) hp
  exact k ms r _ pw (fun x => by rw [hm x, decide_eq_true_eq]) (fresh_back (e1.trans e2) hr) ((e1.trans e2).trans (Ex.new hr)) upd_same
end Wk

set_option Elab.async false
set_option linter.all false
set_option maxRecDepth 100000
set_option maxHeartbeats 4000000
namespace Wk
open PySem PySem.Spec PySem.SeqAt PyProof.Rows L2 Evl
/-- the least walk from s to g, if there is one -/
def LeastW (kvs : List (List L2.Key × V)) (g s : Nat) (o : Option It2) : Prop := (∀ x w, Wlk (Lin kvs) g x → x.2 = s :: w → Bel o x) ∧ ∀ x, o = some x → Wlk (Lin kvs) g x ∧ x.2.Nodup ∧ ∃ w, x.2 = s :: w
theorem LeastW.uniq {kvs : List (List L2.Key × V)} {g s : Nat} {o p : Option It2} (h : LeastW kvs g s o) (k : LeastW kvs g s p) : o = p := by
  cases o with
  | none =>
    cases p with
    | none => rfl
    | some y =>
      obtain ⟨h1, _, w, h2⟩ := k.2 y rfl
      obtain ⟨z, h3, _⟩ := h.1 y w h1 h2
      cases h3
  | some x =>
    obtain ⟨h1, _, w, h2⟩ := h.2 x rfl
    obtain ⟨y, h3, h4⟩ := k.1 x w h1 h2
    subst h3
    obtain ⟨k1, _, w', k2⟩ := k.2 y rfl
    obtain ⟨z, h5, h6⟩ := h.1 y w' k1 k2
    cases h5
    rw [ile_anti h6 h4]
section
variable {P : Program} {w : World} {K : PySem.W.Frag} {mg : Str → Option Value} {base : Heap} {f : Addr} {fd : FuncData} {CC : Addr}
end
end Wk

set_option Elab.async false
set_option linter.all false
set_option maxRecDepth 100000
set_option maxHeartbeats 4000000
namespace Wk
open PySem PySem.Spec PySem.SeqAt PyProof.Rows L2 Evl
/-! all simple ways, level by level -/
def next1 (kvs : List (List L2.Key × V)) (x : It2) (r : Nat) : Option It2 := match Lin kvs r (x.2.headD 0) with
  | some c => if r ∈ x.2 then none else some (ahead r c x)
  | none => none
def nexts (n : Nat) (kvs : List (List L2.Key × V)) (x : It2) : List It2 := (List.range n).filterMap (next1 kvs x)
def lvls (n : Nat) (kvs : List (List L2.Key × V)) (g : Nat) : Nat → List It2
  | 0 => [(0, [g])]
  | k + 1 => (lvls n kvs g k).flatMap (nexts n kvs)
def fnd (n : Nat) (kvs : List (List L2.Key × V)) (g : Nat) : Nat → List It2
  | 0 => [(0, [g])]
  | k + 1 => fnd n kvs g k ++ lvls n kvs g (k + 1)
theorem next1_mem {kvs : List (List L2.Key × V)} {x y : It2} {r : Nat} (h : next1 kvs x r = some y) : ∃ c, Lin kvs r (x.2.headD 0) = some c ∧ r ∉ x.2 ∧ y = ahead r c x := by
  unfold next1 at h
  cases e : Lin kvs r (x.2.headD 0) with
  | none => rw [e] at h; cases h
  | some c =>
    rw [e] at h
    dsimp only at h
    by_cases z : r ∈ x.2
    · rw [if_pos z] at h; cases h
    · rw [if_neg z] at h
      exact ⟨c, rfl, z, (Option.some.inj h).symm⟩
theorem lvls_ok {n : Nat} {kvs : List (List L2.Key × V)} (hok : LnOk n kvs) {g : Nat} (hg : g < n) : ∀ (k : Nat) (x : It2), x ∈ lvls n kvs g k → Wlk (Lin kvs) g x ∧ x.2.Nodup ∧ (∀ a ∈ x.2, a < n) ∧ x.2.length = k + 1
  | 0, x, h => by
    rw [List.mem_singleton.mp h]
    exact ⟨.nil, by simp, fun a ha => by rw [List.mem_singleton.mp ha]; exact hg, rfl⟩
  | k + 1, y, h => by
    obtain ⟨x, hx, hy⟩ := List.mem_flatMap.mp h
    obtain ⟨h1, h2, h3, h4⟩ := lvls_ok hok hg k x hx
    obtain ⟨r, hr, he⟩ := List.mem_filterMap.mp hy
    obtain ⟨c, g1, g2, rfl⟩ := next1_mem he
    obtain ⟨a, w, ha⟩ := h1.ne
    rw [ha] at g1
    exact ⟨h1.ahead g1 ha, List.nodup_cons.mpr ⟨g2, h2⟩, fun b hb => (List.mem_cons.mp hb).elim (fun z => by rw [z]; exact List.mem_range.mp hr) (h3 b), by show x.2.length + 1 = _; omega⟩
theorem lvls_all {n : Nat} {kvs : List (List L2.Key × V)} {g : Nat} {x : It2} (h : Wlk (Lin kvs) g x) : x.2.Nodup → (∀ a ∈ x.2, a < n) → ∀ k, x.2.length = k + 1 → x ∈ lvls n kvs g k := by
  induction h with
  | nil =>
    intro _ _ k hk
    have : k = 0 := by simpa using hk.symm
    subst this
    exact List.mem_singleton.mpr rfl
  | @cons a b c d w hl hw ih =>
    intro nd hin k hk
    have nd' := List.nodup_cons.mp nd
    cases k with
    | zero => simp at hk
    | succ k =>
      refine List.mem_flatMap.mpr ⟨(d, b :: w), ih nd'.2 (fun z hz => hin z (List.mem_cons_of_mem _ hz)) k (by simpa using hk), ?_⟩
      refine List.mem_filterMap.mpr ⟨a, List.mem_range.mpr (hin a List.mem_cons_self), ?_⟩
      unfold next1
      show (match Lin kvs a b with | some c => if a ∈ b :: w then none else some (ahead a c (d, b :: w)) | none => none) = _
      rw [hl]
      dsimp only
      rw [if_neg nd'.1]
      rfl
theorem fnd_mem {n : Nat} {kvs : List (List L2.Key × V)} {g : Nat} {x : It2} : ∀ {m : Nat}, x ∈ fnd n kvs g m ↔ ∃ k, k ≤ m ∧ x ∈ lvls n kvs g k
  | 0 => ⟨fun h => ⟨0, Nat.le_refl _, h⟩, fun ⟨k, hk, h⟩ => by
    have : k = 0 := by omega
    subst this
    exact h⟩
  | m + 1 => by
    show x ∈ fnd n kvs g m ++ lvls n kvs g (m + 1) ↔ _
    rw [List.mem_append, fnd_mem (m := m)]
    constructor
    · rintro (⟨k, hk, h⟩ | h)
      · exact ⟨k, by omega, h⟩
      · exact ⟨m + 1, Nat.le_refl _, h⟩
    · rintro ⟨k, hk, h⟩
      by_cases c : k = m + 1
      · subst c
        exact .inr h
      · exact .inl ⟨k, by omega, h⟩
/-- the simple walks are those that are found -/
theorem fnd_iff {n : Nat} {kvs : List (List L2.Key × V)} (hok : LnOk n kvs) {g : Nat} (hg : g < n) (x : It2) : x ∈ fnd n kvs g (n - 1) ↔ Wlk (Lin kvs) g x ∧ x.2.Nodup := by
  have hin : ∀ a b k, Lin kvs a b = some k → a < n ∧ b < n := fun a b c h => by
    rcases lin_val hok a b with ⟨c', _, g2, ha, hb, _⟩ | ⟨_, g2⟩
    · exact ⟨ha, hb⟩
    · rw [g2] at h
      cases h
  rw [fnd_mem]
  constructor
  · rintro ⟨k, _, h⟩
    obtain ⟨h1, h2, _⟩ := lvls_ok hok hg k x h
    exact ⟨h1, h2⟩
  · rintro ⟨h1, h2⟩
    have h3 := h1.in_ hg hin
    have h4 := nodup_len2 n h2 h3
    obtain ⟨a, w, ha⟩ := h1.ne
    have h5 : x.2.length = (x.2.length - 1) + 1 := by rw [ha]; simp
    exact ⟨x.2.length - 1, by omega, lvls_all h1 h2 h3 _ h5⟩
/-! how many -/
theorem nexts_len {n : Nat} {kvs : List (List L2.Key × V)} {x : It2} (nd : x.2.Nodup) (hin : ∀ a ∈ x.2, a < n) : (nexts n kvs x).length + x.2.length ≤ n := by
  have h1 : (nexts n kvs x).length ≤ ((List.range n).filter fun r => !decide (r ∈ x.2)).length := by
    unfold nexts
    generalize List.range n = l
    induction l with
    | nil => exact Nat.le_refl _
    | cons r l ih =>
      rw [List.filterMap_cons]
      cases e : next1 kvs x r with
      | none =>
        refine Nat.le_trans ih ?_
        rw [List.filter_cons]
        split
        · simp
        · exact Nat.le_refl _
      | some y =>
        obtain ⟨_, _, g2, _⟩ := next1_mem e
        rw [List.filter_cons, if_pos (by rw [decide_eq_false g2]; rfl)]
        simpa using ih
  have h2 := nodup_len2 n (l := x.2 ++ (List.range n).filter fun r => !decide (r ∈ x.2)) (by
    rw [List.nodup_append]
    refine ⟨nd, List.nodup_range.filter _, fun a ha b hb z => ?_⟩
    have := (List.mem_filter.mp hb).2
    rw [← z, decide_eq_true ha] at this
    cases this) (fun a ha => (List.mem_append.mp ha).elim (hin a) fun h => List.mem_range.mp (List.mem_filter.mp h).1)
  rw [List.length_append] at h2
  omega
theorem flat_le {α β : Type} {f : α → List β} {m : Nat} : ∀ {l : List α}, (∀ x ∈ l, (f x).length ≤ m) → (l.flatMap f).length ≤ l.length * m
  | [], _ => by simp
  | x :: l, h => by
    have h1 := h x List.mem_cons_self
    have h2 := flat_le (l := l) fun y hy => h y (List.mem_cons_of_mem _ hy)
    rw [List.flatMap_cons, List.length_append, List.length_cons, Nat.succ_mul]
    omega
def lvB : Nat → Nat
  | 0 => 1
  | k + 1 => lvB k * (7 - k)
theorem lvls_len {n : Nat} {kvs : List (List L2.Key × V)} (hok : LnOk n kvs) {g : Nat} (hg : g < n) (hn : n ≤ 8) : ∀ k, (lvls n kvs g k).length ≤ lvB k
  | 0 => Nat.le_refl _
  | k + 1 => by
    refine Nat.le_trans (flat_le (m := 7 - k) fun x hx => ?_) (Nat.mul_le_mul_right _ (lvls_len hok hg hn k))
    obtain ⟨_, h2, h3, h4⟩ := lvls_ok hok hg k x hx
    have := nexts_len (kvs := kvs) h2 h3
    omega
end Wk

set_option Elab.async false
set_option linter.all false
set_option maxRecDepth 100000
set_option maxHeartbeats 4000000
namespace Wk
open PySem PySem.Spec PySem.SeqAt PyProof.Rows L2 Evl
theorem op_notInK {X : Cx} {K : PySem.W.Frag} (hK : X.K = K) : OpR X (compareOp .NotIn) (rIn K true) := by
  subst hK
  exact op_notIn_seq
theorem op_catAK {X : Cx} {K : PySem.W.Frag} (hK : X.K = K) : OpR X (binaryOp .Add) (rCatA K) := by
  subst hK
  exact op_catA
theorem inV_n {l : List Nat} {a : Nat} : inV (.int (a : Int)) (nVs l) = decide (a ∈ l) := by
  unfold inV nVs
  rw [List.any_map]
  by_cases c : a ∈ l
  · rw [decide_eq_true c, List.any_eq_true]
    exact ⟨a, c, by show eqV (.int (a : Int)) (.int (a : Int)) = true; simp [eqV]⟩
  · rw [decide_eq_false c, List.any_eq_false]
    intro b hb z
    have z2 : eqV (.int (b : Int)) (.int (a : Int)) = true := z
    have z3 : (b : Int) = (a : Int) := by simpa [eqV] using z2
    have z4 : b = a := by omega
    exact c (z4 ▸ hb)
theorem nVs_flat (l : List Nat) : (nVs l).all flatV = true := by
  rw [List.all_eq_true]
  intro v hv
  obtain ⟨i, _, rfl⟩ := List.mem_map.mp hv
  rfl
/-- a list of items -/
def ItsL (H : Hp) (us : List V) (xs : List It2) : Prop := us.length = xs.length ∧ ∀ (i : Nat) (v : V) (x : It2), us[i]? = some v → xs[i]? = some x → ItV H v (some x)
theorem ItsL.mono {H H' : Hp} {us : List V} {xs : List It2} (e : Ex H H') (h : ItsL H us xs) : ItsL H' us xs := ⟨h.1, fun i v x h1 h2 => (h.2 i v x h1 h2).mono e⟩
theorem ItsL.updL {H : Hp} {us : List V} {xs : List It2} {D : Addr} {ys : List V} {o : HO} (hD : H D = some (.lst ys)) (h : ItsL H us xs) : ItsL (upd H D o) us xs := ⟨h.1, fun i v x h1 h2 => (h.2 i v x h1 h2).updL hD⟩
theorem ItsL.app {H : Hp} {us vs : List V} {xs ys : List It2} (h : ItsL H us xs) (k : ItsL H vs ys) : ItsL H (us ++ vs) (xs ++ ys) := ⟨by rw [List.length_append, List.length_append, h.1, k.1], fun i v x h1 h2 => by
  have hl := h.1
  by_cases c : i < us.length
  · rw [List.getElem?_append_left c] at h1
    rw [List.getElem?_append_left (by omega)] at h2
    exact h.2 i v x h1 h2
  · rw [List.getElem?_append_right (by omega)] at h1 h2
    rw [← hl] at h2
    exact k.2 _ v x h1 h2⟩
theorem ItsL.one {H : Hp} {v : V} {x : It2} (h : ItV H v (some x)) : ItsL H [v] [x] := ⟨rfl, fun i u y h1 h2 => by
  cases i with
  | zero =>
    cases h1
    cases h2
    exact h
  | succ i => cases h1⟩
theorem lvB_le : ∀ k, lvB k ≤ 5040
  | 0 => by decide
  | 1 => by decide
  | 2 => by decide
  | 3 => by decide
  | 4 => by decide
  | 5 => by decide
  | 6 => by decide
  | 7 => by decide
  | k + 8 => by
    show lvB (k + 7) * (7 - (k + 7)) ≤ 5040
    rw [show 7 - (k + 7) = 0 by omega, Nat.mul_zero]
    exact Nat.zero_le _
theorem fnd_len {n : Nat} {kvs : List (List L2.Key × V)} (hok : LnOk n kvs) {g : Nat} (hg : g < n) (hn : n ≤ 8) : ∀ k, (fnd n kvs g k).length ≤ 1 + k * 5040
  | 0 => Nat.le_refl _
  | k + 1 => by
    have h1 := fnd_len hok hg hn k
    have h2 := Nat.le_trans (lvls_len hok hg hn (k + 1)) (lvB_le (k + 1))
    show (fnd n kvs g k ++ lvls n kvs g (k + 1)).length ≤ _
    rw [List.length_append, Nat.succ_mul]
    omega
theorem nexts_le {n : Nat} {kvs : List (List L2.Key × V)} {x : It2} : (nexts n kvs x).length ≤ n := by
  unfold nexts
  have := List.length_filterMap_le (next1 kvs x) (List.range n)
  rw [List.length_range] at this
  exact this
section
variable {P : Program} {w : World} {K : PySem.W.Frag} {mg : Str → Option Value} {base : Heap} {f : Addr} {fd : FuncData}
end
end Wk

set_option Elab.async false
set_option linter.all false
set_option maxRecDepth 100000
set_option maxHeartbeats 4000000
namespace Wk
open PySem PySem.Spec PySem.SeqAt PyProof.Rows L2 Evl
theorem lex_wlt : ∀ l m : List Nat, HT.lexLt (l.map fun (i : Nat) => (i : Int)) (m.map fun (i : Nat) => (i : Int)) = wlt l m
  | [], [] => rfl
  | [], _ :: _ => rfl
  | _ :: _, [] => rfl
  | a :: l, b :: m => by
    rw [List.map_cons, List.map_cons, HT.lexLt_cons, lex_wlt l m]
    show _ = (decide (a < b) || (decide (a = b) && wlt l m))
    by_cases c : a = b
    · rw [c, if_pos rfl, decide_eq_false (Nat.lt_irrefl b), decide_eq_true rfl, Bool.false_or, Bool.true_and]
    · rw [if_neg (fun z => c (by omega)), decide_eq_false c, Bool.false_and, Bool.or_false]
      by_cases d : a < b
      · rw [decide_eq_true d, decide_eq_true (by omega)]
      · rw [decide_eq_false d, decide_eq_false (by omega)]
/-- the least of each router so far -/
def best1 (r : Rw2) (x : It2) : Rw2 := fun i => if i = x.2.headD 0 then lesser (r i) (some x) else r i
def bestN (xs : List It2) : Rw2 := xs.foldl best1 fun _ => none
theorem best_snoc (xs : List It2) (x : It2) : bestN (xs ++ [x]) = best1 (bestN xs) x := by
  unfold bestN
  rw [List.foldl_append]
  rfl
theorem best_bel : ∀ (xs : List It2) {r : Rw2} {x : It2} {i : Nat}, Bel (r i) x → Bel (xs.foldl best1 r i) x
  | [], _, _, _, h => h
  | y :: xs, r, x, i, h => best_bel xs (by
    unfold best1
    by_cases c : i = y.2.headD 0
    · rw [if_pos c]; exact lesser_l h
    · rw [if_neg c]; exact h)
theorem best_all : ∀ (xs : List It2) {r : Rw2} {x : It2}, x ∈ xs → Bel (xs.foldl best1 r (x.2.headD 0)) x
  | [], _, _, h => by cases h
  | y :: xs, r, x, h => by
    rcases List.mem_cons.mp h with rfl | h
    · refine best_bel xs ?_
      unfold best1
      rw [if_pos rfl]
      exact lesser_r ⟨_, rfl, ile_refl _⟩
    · exact best_all xs h
theorem best_from : ∀ (xs : List It2) {r : Rw2} {x : It2} {i : Nat}, xs.foldl best1 r i = some x → r i = some x ∨ (x ∈ xs ∧ x.2.headD 0 = i)
  | [], _, _, _, h => .inl h
  | y :: xs, r, x, i, h => by
    rcases best_from xs h with z | ⟨z1, z2⟩
    · unfold best1 at z
      by_cases c : i = y.2.headD 0
      · rw [if_pos c] at z
        rcases lesser_or z with z | z
        · exact .inl z
        · cases z
          exact .inr ⟨List.mem_cons_self, c.symm⟩
      · rw [if_neg c] at z
        exact .inl z
    · exact .inr ⟨List.mem_cons_of_mem _ z1, z2⟩
theorem best_least {n : Nat} {kvs : List (List L2.Key × V)} (hok : LnOk n kvs) {g : Nat} (hg : g < n) (s : Nat) : LeastW kvs g s (bestN (fnd n kvs g (n - 1)) s) := by
  have pos : ∀ a b k, Lin kvs a b = some k → 1 ≤ k := fun a b c h => by
    rcases lin_val hok a b with ⟨c', _, g2, _, _, g3, _⟩ | ⟨_, g2⟩
    · rw [g2] at h
      cases h
      exact g3
    · rw [g2] at h
      cases h
  refine ⟨fun x w hx hw => ?_, fun x hx => ?_⟩
  · obtain ⟨y, h1, h2, h3, h4⟩ := hx.simple pos
    have hm := (fnd_iff hok hg y).mpr ⟨h1, h2⟩
    have hh : y.2.headD 0 = s := by
      obtain ⟨a, v, hy⟩ := h1.ne
      rw [hy, hw] at h3
      rw [hy]
      exact Option.some.inj h3
    have := best_all (r := fun _ => none) _ hm
    rw [hh] at this
    exact this.le h4
  · rcases best_from _ hx with z | ⟨z1, z2⟩
    · cases z
    · obtain ⟨h1, h2⟩ := (fnd_iff hok hg x).mp z1
      obtain ⟨a, v, hy⟩ := h1.ne
      refine ⟨h1, h2, v, ?_⟩
      rw [hy] at z2 ⊢
      rw [show a = s from z2]
end Wk

set_option Elab.async false
set_option linter.all false
set_option maxRecDepth 100000
set_option maxHeartbeats 4000000
namespace Wk
open PySem PySem.Spec PySem.SeqAt PyProof.Rows L2 Evl
section
variable {P : Program} {w : World} {K : PySem.W.Frag} {mg : Str → Option Value} {base : Heap} {f : Addr} {fd : FuncData}
/-! _law_is_integer -/
abbrev sLIsInt : Stmt := top 32
theorem scLIsInt : FnScope ["_law_thing"] ["_law_thing"] (defScope sLIsInt) := ⟨rfl, rfl, rfl, by decide +kernel, rfl, by decide +kernel, by decide +kernel⟩
theorem ok_lIsInt (B : Bl mg) (F : FnP K "_law_is_integer" sLIsInt f fd) : FnOk P w K mg base CX0 1 f fd ["_law_thing"] spIsInt := by
  refine F.ok scLIsInt (fun vs H Q E h => ?_) (fun cdv A outer s H vs Q E hr h => ?_)
  · obtain ⟨z, ⟨v, d, rfl, _⟩, _⟩ := h
    rfl
  · obtain ⟨z, ⟨v, d, rfl, hd, rfl⟩, k⟩ := h
    refine ⟨_, pss_one (ps_ret (pe_and (pe_callB call_isi (by rfl) B.isi boot_isinstance (pa_cons (pv 0) (pa_cons (pe_bltn (v := .ty "int") (by rfl) B.int PyProof.Rows.boot_int rfl) pa_nil)))
      (pe_one (pe_not (pe_callB call_isi (by rfl) B.isi boot_isinstance (pa_cons (pv 0) (pa_cons (pe_bltn (v := .ty "bool") (by rfl) B.bool PyProof.Rows.boot_bool rfl) pa_nil))))))), ?_⟩
    obtain ⟨b, hb, h1, h2⟩ := kit_int d
    have v0 : Ev (tVar 0) (start ["_law_thing"] [v]) H v := ev_var rfl
    cases b with
    | true =>
      obtain ⟨c, hc, e⟩ := h1 rfl
      rw [← e] at k
      exact s_ret (ev_andV (ev_isi v0 hd hb) fun _ => ev_notV (ev_isi v0 hd hc)) k
    | false =>
      rw [h2 rfl] at k
      exact s_ret (ev_andV (b := false) (ev_isi v0 hd hb) fun z => (by cases z)) k
end
end Wk

set_option Elab.async false
set_option linter.all false
set_option maxRecDepth 100000
set_option maxHeartbeats 4000000
namespace Wk
open PySem PySem.Spec PySem.SeqAt PyProof.Rows L2 Evl
theorem nVs_ints (l : List Nat) : nVs l = (l.map fun (i : Nat) => (i : Int)).map V.int := by unfold nVs; rw [List.map_map]; rfl
section
variable {K : PySem.W.Frag} {σ : L2.St} {H : Hp} {ta tb : TE}
theorem ev_neN {a b : Addr} {xs : List Nat} (h1 : Ev ta σ H (.ref a)) (ha : H a = some (.tup (nVs xs))) (h2 : Ev tb σ H (.ref b)) (hb : H b = some (.tup (nVs xs))) : Ev (tOp (rNeD K) ta tb) σ H (.bl false) := fun H1 e Q q =>
  h1 H1 e _ fun H2 e2 => h2 H2 (e.trans e2) _ fun H3 e3 => by
    rw [nVs_ints] at ha hb
    refine ⟨wd _, wd _, Dq.dp ?_ (wd_of (((e.trans e2).trans e3) _ _ ha)), Dq.dp ?_ (wd_of (((e.trans e2).trans e3) _ _ hb)), shaped_ints _, shaped_ints _, ?_⟩
    · simp [-List.map_map, wd, PyData.canLay0, lay_ints]
    · simp [-List.map_map, wd, PyData.canLay0, lay_ints]
    · rw [eqv_wd, decide_eq_true rfl]
      exact q H3 (e2.trans e3)
end
section
variable {P : Program} {w : World} {K : PySem.W.Frag} {mg : Str → Option Value} {base : Heap} {f : Addr} {fd : FuncData}
end
end Wk

set_option Elab.async false
set_option linter.all false
set_option maxRecDepth 100000
set_option maxHeartbeats 4000000
namespace Wk
open PySem PySem.Spec PySem.SeqAt PyProof.Rows L2 Evl
section
variable {κ : Type} [DecidableEq κ]
theorem put_inE {es : List (κ × V)} {l : κ} {v : V} {e : κ × V} (h : e ∈ putK es l v) : e = (l, v) ∨ e ∈ es := by
  unfold putK at h
  split at h
  · obtain ⟨x, hx, hh⟩ := List.mem_map.mp h
    split at hh
    · rename_i c
      rw [← hh, c]
      exact .inl rfl
    · rw [← hh]; exact .inr hx
  · rcases List.mem_append.mp h with h | h
    · exact .inr h
    · exact .inl (List.mem_singleton.mp h)
theorem put_nd {es : List (κ × V)} {l : κ} {v : V} (h : (es.map (·.1)).Nodup) : ((putK es l v).map (·.1)).Nodup := by
  cases hv : valV es l with
  | none => exact nd_putK v h hv
  | some u =>
    unfold putK
    split
    · rw [List.map_map]
      have e : (es.map ((fun x : κ × V => x.1) ∘ fun kv => if kv.1 = l then (kv.1, v) else kv)) = es.map (·.1) := List.map_congr_left fun p _ => by
        show (if p.1 = l then (p.1, v) else p).1 = p.1
        split <;> rfl
      rw [e]
      exact h
    · rename_i c
      exfalso
      rw [valV_any, hv] at c
      exact c rfl
end
theorem LnOk.nil (n : Nat) : LnOk n [] := ⟨fun _ h => (by cases h), List.nodup_nil⟩
theorem LnOk.put {n : Nat} {kvs : List (List L2.Key × V)} {a b c : Nat} (h : LnOk n kvs) (ha : a < n) (hb : b < n) (hne : a ≠ b) (h1 : 1 ≤ c) (h2 : c ≤ 1000000000) : LnOk n (putK kvs (Lk a b) (.int (c : Int))) :=
  ⟨fun kv hk => by
    rcases put_inE hk with rfl | hk
    · exact ⟨a, b, c, rfl, ha, hb, hne, h1, h2⟩
    · exact h.it kv hk, put_nd h.nd⟩
theorem next_neN {n a d b : Nat} (ha : a < n) (hd : d < n - 1) (hb : ((b : Nat) : Int) = ((a : Int) + 1 + (d : Int)) % (n : Int)) : b < n ∧ a ≠ b := by
  have e : (a : Int) + 1 + (d : Int) = ((a + 1 + d : Nat) : Int) := by omega
  rw [e, ← Int.natCast_emod] at hb
  have hb : b = (a + 1 + d) % n := by omega
  have hm := Nat.mod_lt (a + 1 + d) (show 0 < n by omega)
  refine ⟨by omega, fun z => ?_⟩
  by_cases c : a + 1 + d < n
  · rw [Nat.mod_eq_of_lt c] at hb
    omega
  · rw [Nat.mod_eq_sub_mod (by omega), Nat.mod_eq_of_lt (by omega)] at hb
    omega
section
variable {P : Program} {w : World} {K : PySem.W.Frag} {mg : Str → Option Value} {base : Heap} {f : Addr} {fd : FuncData}
/-! _law_lines -/
def spLns : Sp := fun vs H Q _ => ∃ (G : Hp) (p q : Addr) (n m : Nat), vs = [.ref p, .int (n : Int), .int (m : Int)] ∧ Pm G H p q ∧ 1 ≤ n ∧ n ≤ 8 ∧ m ≤ 50 ∧ ∀ H' D kvs, Pm G H' p q → H D = none → D ≠ p → H' D = some (.dT kvs) → LnOk n kvs → kvs.length ≤ m → Q (.ref D) H'
abbrev sLns : Stmt := top 31
abbrev nLns : List Str := ["_law_pool_here", "_law_size", "_law_most", "_law_lines_here", "_law_k", "_law_a", "_law_b", "_law_cost"]
theorem scLns : FnScope nLns ["_law_pool_here", "_law_size", "_law_most"] (defScope sLns) := ⟨rfl, rfl, rfl, by decide +kernel, rfl, by decide +kernel, by decide +kernel⟩
theorem ok_lns (B : Bl mg) (C : Cal P w K mg base "_law_draw" ["_law_pool_here", "_law_limit"] 2 spDraw) (F : FnP K "_law_lines" sLns f fd) : FnOk P w K mg base CX0 3 f fd ["_law_pool_here", "_law_size", "_law_most"] spLns := by
  refine F.ok scLns (fun vs H Q E h => ?_) (fun cdv A outer s H vs Q E hr h => ?_)
  · obtain ⟨G, p, q, n, m, rfl, _⟩ := h
    rfl
  · obtain ⟨G, p, q, n, m, rfl, hP, hn1, hn8, hm, k⟩ := h
    have hu : (A.deeper (envOfC "_law_lines" (defScope sLns) s.heap.objs.size f cdv)).units + 1 < cLine := by have := hr.un; omega
    refine ⟨_, pss_cons (ps_set (i := 3) scLns.nd rfl (Or.inl rfl) pe_dnewT)
      (pss_cons (ps_for (passes_of rfl) rfl (pi_range1 (by rfl) B.range (pa_cons (pe_cal C hr (by rfl) (pa_cons (pv 0) (pa_cons (pe_op op_add (pv 2) pe_int) pa_nil))) pa_nil)) (pg_name (i := 4) scLns.nd rfl (Or.inl rfl))
        (pss_one (ps_if (pt_cmpR op_gt (pv 1) pe_int (nomark _))
          (pss_cons (ps_set (i := 5) scLns.nd rfl (Or.inl rfl) (pe_cal C hr (by rfl) (pa_cons (pv 0) (pa_cons (pv 1) pa_nil))))
          (pss_cons (ps_set (i := 6) scLns.nd rfl (Or.inl rfl) (pe_op op_mod (pe_callTy call_int1 (by rfl) B.int PyProof.Rows.boot_int (pa_cons (pe_op op_add (pe_op op_add (pv 5) pe_int) (pe_cal C hr (by rfl) (pa_cons (pv 0) (pa_cons (pe_op op_sub (pv 1) pe_int) pa_nil)))) pa_nil)) (pv 1)))
          (pss_cons (ps_set (i := 7) scLns.nd rfl (Or.inl rfl) (pe_op op_add pe_int (pe_cal C hr (by rfl) (pa_cons (pv 0) (pa_cons pe_int pa_nil)))))
          (pss_cons (ps_if (pt_cmpR op_eq (pe_cal C hr (by rfl) (pa_cons (pv 0) (pa_cons pe_int pa_nil))) pe_int (nomark _)) (pss_one (ps_set (i := 7) scLns.nd rfl (Or.inl rfl) (pe_op op_sub (pe_op op_pow pe_int pe_int) (pe_cal C hr (by rfl) (pa_cons (pv 0) (pa_cons (pe_op op_pow pe_int pe_int) pa_nil)))))) pss_nil)
          (pss_one (ps_asg (pv 7) (pg_sub (pv 3) (pe_tup (pa_cons (pv 5) (pa_cons (pv 6) pa_nil))) (set_dict hu)))))))) pss_nil)))
      (pss_one (ps_ret (pv 3)))), ?_⟩
    refine q_asgW ?_
    intro D hD
    have gD := fresh_back hP.ex hD
    have nD := hP.np hD
    have hP1 := hP.ext (Ex.new (o := .dT []) hD)
    have hD1 : (upd H D (.dT [])) D = some (.dT []) := upd_same
    generalize upd H D (.dT []) = H1 at *
    change tSeq (tFor _ _ _) _ _ [some (.ref p), some (.int (n : Int)), some (.int (m : Int)), some (.ref D), none, none, none, none] H1
    refine ⟨.ref p, rfl, .int (m : Int), rfl, (m : Int), 1, rfl, rfl, ⟨_, p, q, _, rfl, hP1.hd, by omega, by omega, fun H2 cnt hP20 hc0 hc1 => ?_⟩⟩
    have hP2 := hP1.back hP20
    have hD2 := hP20.off _ _ nD hD1
    refine ⟨cnt, rfl, by omega, by omega, for_range (lo := 0) (n := cnt.toNat) (fun i σ' H' => ∃ (kvs : List (List L2.Key × V)) (o4 o5 o6 o7 : Option V), σ' = [some (.ref p), some (.int (n : Int)), some (.int (m : Int)), some (.ref D), o4, o5, o6, o7] ∧ Pm G H' p q ∧ H' D = some (.dT kvs) ∧ LnOk n kvs ∧ kvs.length ≤ i) ⟨[], _, _, _, _, rfl, hP2, hD2, LnOk.nil n, Nat.le_refl 0⟩ ?_ ?_⟩
    · rintro i σ' H3 hi ⟨kvs, o4, o5, o6, o7, rfl, hP3, hD3, hok, hl⟩
      refine g_name ?_
      dsimp only
      change tIfS _ _ _ _ [some (.ref p), some (.int (n : Int)), some (.int (m : Int)), some (.ref D), some (.int (0 + (i : Int))), o5, o6, o7] H3
      refine s_when (b := decide ((n : Int) > 1)) (et_test (ev_op (ev_var rfl) ev_c rv_I0)) (fun hb H4 e4 => ?_) (fun _ H4 e4 => ⟨kvs, _, _, _, _, rfl, hP3.ext e4, e4 _ _ hD3, hok, by omega⟩)
      have hn2 : (n : Int) > 1 := of_decide_eq_true hb
      have hP4 := hP3.ext e4
      have hD4 := e4 _ _ hD3
      refine ⟨.ref p, rfl, .int (n : Int), rfl, ⟨_, p, q, _, rfl, hP4.hd, by omega, by omega, fun H5 a hP50 ha0 ha1 => ?_⟩⟩
      have hP5 := hP4.back hP50
      have hD5 := hP50.off _ _ nD hD4
      obtain ⟨a, rfl⟩ : ∃ a' : Nat, a = (a' : Int) := ⟨a.toNat, by omega⟩
      refine g_name ?_
      dsimp only
      refine ⟨.int (a : Int), rfl, (a : Int), 1, rfl, rfl, .ref p, rfl, .int (n : Int), rfl, (n : Int), 1, rfl, rfl, ⟨_, p, q, _, rfl, hP5.hd, by omega, by omega, fun H6 d hP60 hd0 hd1 => ?_⟩⟩
      have hP6 := hP5.back hP60
      have hD6 := hP60.off _ _ nD hD5
      obtain ⟨d, rfl⟩ : ∃ d' : Nat, d = (d' : Int) := ⟨d.toNat, by omega⟩
      refine ⟨_, (d : Int), rfl, rfl, .inl ⟨_, rfl, .int (n : Int), rfl, _, (n : Int), rfl, rfl, (show (0 : Int) < (n : Int) by omega), ?_⟩⟩
      have mb := modP ((a : Int) + 1 + (d : Int)) (n : Int) (by omega)
      refine g_name ?_
      dsimp only
      obtain ⟨b, hb'⟩ : ∃ b' : Nat, ((a : Int) + 1 + (d : Int)) % (n : Int) = (b' : Int) := ⟨(((a : Int) + 1 + (d : Int)) % (n : Int)).toNat, by omega⟩
      obtain ⟨hbn, hab⟩ := next_neN (a := a) (d := d) (by omega) (by omega) hb'.symm
      rw [hb']
      refine ⟨.ref p, rfl, ⟨_, p, q, _, rfl, hP6.hd, by decide, by decide, fun H7 x hP70 hx0 hx1 => ?_⟩⟩
      have hP7 := hP6.back hP70
      have hD7 := hP70.off _ _ nD hD6
      obtain ⟨x, rfl⟩ : ∃ x' : Nat, x = (x' : Int) := ⟨x.toNat, by omega⟩
      refine ⟨1, (x : Int), rfl, rfl, ?_⟩
      refine g_name ?_
      dsimp only
      rw [show (1 : Int) + (x : Int) = ((1 + x : Nat) : Int) by omega]
      have fin : ∀ (H8 : Hp) (c : Nat), Pm G H8 p q → H8 D = some (.dT kvs) → 1 ≤ c → c ≤ 1000000000 → tAsg (tVar 7) (gSub (tVar 3) (tTup (tCons (tVar 5) (tCons (tVar 6) tNil))) rSetD) { nx := fun σ' H' => ∃ (kvs : List (List L2.Key × V)) (o4 o5 o6 o7 : Option V), σ' = [some (.ref p), some (.int (n : Int)), some (.int (m : Int)), some (.ref D), o4, o5, o6, o7] ∧ Pm G H' p q ∧ H' D = some (.dT kvs) ∧ LnOk n kvs ∧ kvs.length ≤ i + 1, rt := Q, bk := fun _ _ => False, ct := fun _ _ => False } [some (.ref p), some (.int (n : Int)), some (.int (m : Int)), some (.ref D), some (.int (0 + (i : Int))), some (.int (a : Int)), some (.int (b : Int)), some (.int (c : Int))] H8 := fun H8 c hP8 hD8 hc1 hc2 => by
        refine ⟨.int (c : Int), rfl, .ref D, rfl, .int (a : Int), rfl, .int (b : Int), rfl, by show 2 ≤ sizeLine; decide, fun t ht => ?_⟩
        have e9 := Ex.new (o := .tup [V.int (a : Int), .int (b : Int)]) ht
        have ht9 : (upd H8 t (.tup [V.int (a : Int), .int (b : Int)])) t = some (.tup ((Lk a b).map kV)) := upd_same
        have hP9 := hP8.ext e9
        have hD9 := e9 _ _ hD8
        generalize upd H8 t (.tup [V.int (a : Int), .int (b : Int)]) = H9 at *
        refine ⟨D, _, rfl, DPut.t hD9 ht9 (sz_lt (by omega)), ?_⟩
        exact ⟨_, _, _, _, _, rfl, hP9.mut gD nD, upd_same, hok.put (by omega) hbn hab hc1 hc2, Nat.le_trans (length_putK _ _ _) (by omega)⟩
      refine ⟨.ref p, rfl, ⟨_, p, q, _, rfl, hP7.hd, by decide, by decide, fun H8 y hP80 hy0 hy1 => ⟨rfl, _, rfl, ?_⟩⟩⟩
      have hP8 := hP7.back hP80
      have hD8 := hP80.off _ _ nD hD7
      refine ite2 (fun _ => ?_) (fun _ => ?_)
      · refine ⟨10, 9, rfl, rfl, ⟨by decide, by decide, by decide⟩, .ref p, rfl, 10, 9, rfl, rfl, ⟨by decide, by decide, by decide⟩, ⟨_, p, q, _, rfl, hP8.hd, by decide, by decide, fun H9 z hP90 hz0 hz1 => ?_⟩⟩
        have hP9 := hP8.back hP90
        have hD9 := hP90.off _ _ nD hD8
        have e9 : ((10 : Int) ^ (9 : Int).toNat) = 1000000000 := by decide
        have hz1 : z < 1000000000 := hz1
        refine ⟨_, z, rfl, rfl, ?_⟩
        refine g_name ?_
        dsimp only
        obtain ⟨c, hc⟩ : ∃ c : Nat, (1000000000 : Int) - z = (c : Int) := ⟨((1000000000 : Int) - z).toNat, by omega⟩
        have hc' : (10 : Int) ^ (9 : Int).toNat - z = (c : Int) := by rw [e9]; exact hc
        rw [hc']
        exact fin H9 c hP9 hD9 (by omega) (by omega)
      · exact fin H8 (1 + x) hP8 hD8 (by omega) (by omega)
    · rintro σ' H3 ⟨kvs, o4, o5, o6, o7, rfl, hP3, hD3, hok, hl⟩
      exact s_ret (v := .ref D) (ev_var rfl) fun H4 e4 => k H4 D kvs (hP3.ext e4) hD nD (e4 _ _ hD3) hok (by omega)
theorem ev_lns {G H : Hp} {p q : Addr} {n m : Nat} {Q : VK} (h : Pm G H p q) (h1 : 1 ≤ n) (h8 : n ≤ 8) (hm : m ≤ 50) (k : ∀ H' D kvs, Pm G H' p q → Of1 p H H' → H D = none → D ≠ p → H' D = some (.dT kvs) → LnOk n kvs → kvs.length ≤ m → Q (.ref D) H') (E : XK) : spLns [.ref p, .int (n : Int), .int (m : Int)] H Q E :=
  ⟨Hd1 H p, p, q, n, m, rfl, h.hd, h1, h8, hm, fun H' D kvs hP => k H' D kvs (h.back hP) hP.off⟩
end
end Wk

set_option Elab.async false
set_option linter.all false
set_option maxRecDepth 100000
set_option maxHeartbeats 4000000
namespace Wk
open PySem PySem.Spec PySem.SeqAt PyProof.Rows L2 Evl
theorem keys_at {H : Hp} : ∀ {kvs : List (List L2.Key × V)} {bs : List Addr}, IsKeys H kvs bs → ∀ {i : Nat} {b : Addr}, bs[i]? = some b → ∃ kv, kvs[i]? = some kv ∧ H b = some (.tup (kv.1.map kV))
  | _, _, .nil, i, b, h => by cases h
  | kv :: _, _, .cons h t, 0, b, e => by
    cases e
    exact ⟨kv, rfl, h⟩
  | _ :: _, _, .cons _ t, i + 1, b, e => keys_at t (i := i) e
theorem keys_len {H : Hp} : ∀ {kvs : List (List L2.Key × V)} {bs : List Addr}, IsKeys H kvs bs → bs.length = kvs.length
  | _, _, .nil => rfl
  | _ :: _, _, .cons _ t => congrArg (· + 1) (keys_len t)
section
variable {κ : Type} [DecidableEq κ]
theorem val_some {l : List (κ × V)} {k : κ} (h : k ∈ l.map (·.1)) : ∃ v, valV l k = some v := by
  have z : (l.any fun kv => decide (kv.1 = k)) = true := by
    obtain ⟨kv, h1, h2⟩ := List.mem_map.mp h
    exact List.any_eq_true.mpr ⟨kv, h1, decide_eq_true h2⟩
  rw [valV_any] at z
  exact Option.isSome_iff_exists.mp z
theorem put_old {l : List (κ × V)} {k : κ} {v : V} (h : k ∈ l.map (·.1)) : (putK l k v).map (·.1) = l.map (·.1) := by
  have z : (l.any fun kv => decide (kv.1 = k)) = true := by
    obtain ⟨kv, h1, h2⟩ := List.mem_map.mp h
    exact List.any_eq_true.mpr ⟨kv, h1, decide_eq_true h2⟩
  unfold putK
  rw [if_pos z, List.map_map]
  refine List.map_congr_left fun p _ => ?_
  show (if p.1 = k then (p.1, v) else p).1 = p.1
  split <;> rfl
theorem put_inN {es : List (κ × V)} {l : κ} {v : V} {e : κ × V} (h : e ∈ putK es l v) : e = (l, v) ∨ (e ∈ es ∧ e.1 ≠ l) := by
  unfold putK at h
  split at h
  · obtain ⟨x, hx, hh⟩ := List.mem_map.mp h
    split at hh
    · rename_i c
      rw [← hh, c]
      exact .inl rfl
    · rename_i c
      rw [← hh]
      exact .inr ⟨hx, c⟩
  · rename_i z
    rcases List.mem_append.mp h with h | h
    · refine .inr ⟨h, fun c => z ?_⟩
      exact List.any_eq_true.mpr ⟨e, h, decide_eq_true c⟩
    · exact .inl (List.mem_singleton.mp h)
end
theorem LnOk.put2 {n : Nat} {kvs : List (List L2.Key × V)} {a b c : Nat} {v : V} (h : LnOk n kvs) (ha : a < n) (hb : b < n) (hne : a ≠ b) (h1 : 1 ≤ c) (h2 : c ≤ 1000000000) : LnOk n (putK (putK kvs (Lk a b) v) (Lk a b) (.int (c : Int))) :=
  ⟨fun kv hk => by
    rcases put_inN hk with rfl | ⟨hk, hn⟩
    · exact ⟨a, b, c, rfl, ha, hb, hne, h1, h2⟩
    · rcases put_inN hk with rfl | ⟨hk, _⟩
      · exact absurd rfl hn
      · exact h.it kv hk, put_nd (put_nd h.nd)⟩
section
variable {P : Program} {w : World} {K : PySem.W.Frag} {mg : Str → Option Value} {base : Heap} {f : Addr} {fd : FuncData}
/-! ranges as lists -/
theorem rg_nats (n : Nat) : rgV 0 (n : Int) = (List.range n).map fun (i : Nat) => V.int (i : Int) := by
  unfold rgV
  rw [show ((n : Int) - 0).toNat = n by omega]
  refine List.map_congr_left fun i _ => ?_
  show V.int ((0 : Int) + (i : Int)) = V.int (i : Int)
  rw [Int.zero_add]
theorem perm_nats {ys : List V} {ns : List Nat} (h : ys.Perm (nVs ns)) : ∃ os : List Nat, os.Perm ns ∧ ys = nVs os := by
  refine ⟨ys.map fun v => match v with | .int i => i.toNat | _ => 0, ?_, ?_⟩
  · have z := h.map fun v => match v with | .int i => i.toNat | _ => 0
    unfold nVs at z
    rw [List.map_map] at z
    have e : ns.map ((fun v => match v with | V.int i => i.toNat | _ => 0) ∘ fun (i : Nat) => V.int (i : Int)) = ns := by
      refine (List.map_congr_left fun i _ => ?_).trans (List.map_id ns)
      show ((i : Int)).toNat = i
      exact Int.toNat_natCast i
    rw [e] at z
    exact z
  · unfold nVs
    rw [List.map_map]
    refine ((List.map_congr_left fun d hd => ?_).trans (List.map_id ys)).symm
    obtain ⟨w, _, rfl⟩ := List.mem_map.mp (h.mem_iff.mp hd)
    show V.int ((((w : Int)).toNat : Nat) : Int) = V.int (w : Int)
    rw [Int.toNat_natCast]
end
end Wk

set_option Elab.async false
set_option linter.all false
set_option maxRecDepth 100000
set_option maxHeartbeats 4000000
namespace Wk
open PySem PySem.Spec PyProof.Rows L2 Evl
/-! promises of defs that are called where no repr is under way -/
structure FnG (P : Program) (w : World) (K : PySem.W.Frag) (mg : Str → Option Value) (base : Heap) (k : Nat) (f : Addr) (fd : FuncData) (ps : List Str) (sp : Sp) : Prop where
  len : ∀ vs H Q E, sp vs H Q E → vs.length = ps.length
  run : ∀ (A : Around) (outer : List Env) (s : Shared) (H : Hp) (args : Args) (us : List Value) (vs : List V) (Q : VK) (E : XK), Room k A → A.guards = some [] → Env0 P w K mg base A outer s H → BindsTo s fd args (ps.zip us) → Vals vs us → sp vs H Q E →
    codeAny (model P w) A (.call (.ref f) args) (CR CX0 outer P w H s Q E) s
section
variable {P : Program} {w : World} {K : PySem.W.Frag} {mg : Str → Option Value} {base : Heap} {x qual : Str} {params : Arguments} {body : List Stmt} {scope : Scope} {dvs : List V} {kws : List (Str × V)} {f : Addr} {fd : FuncData}
theorem okG {N ps : List Str} {k : Nat} {sp : Sp} (F : FunD K x qual params body scope dvs kws f fd) (S : FnScope N ps scope) (len : ∀ vs H Q E, sp vs H Q E → vs.length = ps.length)
    (hbody : ∀ (cdv : Value) (A : Around) (outer : List Env) (s : Shared) (H : Hp) (vs : List V) (Q : VK) (E : XK), Room k (A.deeper (envOfC qual scope s.heap.objs.size f cdv)) → (A.deeper (envOfC qual scope s.heap.objs.size f cdv)).guards = some [] → sp vs H Q E →
      ∃ t, PSs (cxOf CX0 P w K mg base N qual scope f cdv A outer s H E) body t ∧ t { nx := fun _ H' => Q .non H', rt := Q } (start N vs) H) : FnG P w K mg base (k + 1) f fd ps sp := by
  obtain ⟨oc, od, dV, kV, doc, pm, an, cdv, ct, osl, rfl, lk, cd, _, _⟩ := F.ex
  refine ⟨len, fun A outer s H args us vs Q E hr hg e0 hb r hsp => ?_⟩
  have KX : K.In s.heap := e0.mod.kin.keeps fun b o e => (e0.bs b o e).1
  have lim : s.heap.NoLimit := e0.mod.nolimit.keeps fun b o e => (e0.bs b o e).1
  have kinds : ∀ y ∈ ps.zip us, scope.names.lookup y.1 = some .local ∨ (scope.names.lookup y.1 = some .cell ∧ ((cellsFrom (s.heap.objs.size + 1) scope.names []).lookup y.1).isSome = true) := fun y hy =>
    (S.par y.1 (List.of_mem_zip hy).1).elim .inl fun q => .inr ⟨q, PySem.W.cellsFrom_some _ _ _ (.inl q)⟩
  refine codeAny_call_function hr.depth (KX _ _ lk) rfl S.co S.gen rfl (PySem.W.codeRec_of KX cd) (hb _ _ _ _ (wpAny_newFunctionEnv_cells S.kind kinds fun env he s1 x => ?_))
  subst he
  refine ⟨lim.keeps x.toInCall.keep, codeAny_func ?_⟩
  obtain ⟨t, ht, hq⟩ := hbody cdv A outer s H vs Q E (hr.deeper _) hg hsp
  have I : Inv (cxOf CX0 P w K mg base N qual scope f cdv A outer s H E) [] (start N vs) H s1 := inv_start S hr.hd e0 (len _ _ _ _ hsp) r x
  refine wpAny_mono (ht.run [] s1 (start N vs) H _ I hq) (fun fl s' hs => ?_) fun e s' hs => hs
  cases fl with
  | ret u =>
    obtain ⟨v, σ', H', J, rv, q⟩ := hs
    exact ⟨v, H', J.os, J.bare, J.base, J.hok, rv, q⟩
  | next =>
    obtain ⟨σ', H', J, q⟩ := hs
    exact ⟨V.non, H', J.os, J.bare, J.base, J.hok, rfl, q⟩
  | brk => exact (hs.choose_spec.choose_spec.2 : False).elim
  | cont => exact (hs.choose_spec.choose_spec.2 : False).elim
end
structure CalG (P : Program) (w : World) (K : PySem.W.Frag) (mg : Str → Option Value) (base : Heap) (x : Str) (ps : List Str) (k : Nat) (sp : Sp) : Prop where
  ex : ∃ (f : Addr) (fd : FuncData), FnG P w K mg base k f fd ps sp ∧ mg x = some (.ref f) ∧ PySem.W.keepIn K (.ref f) = true ∧ Binds K fd ps []
section
variable {X : Cx}
theorem pe_calG {x : Str} {p pos : Pos} {e : Expr} {es : List Expr} {ps : List Str} {k : Nat} {sp : Sp} {t : TA} (C : CalG X.prog X.w X.K X.mg X.base x ps k sp) (hr : Room k X.A) (gu : X.A.guards = some []) (hg : Gl X x) (ha : PA X (e :: es) t)
    (hdb : (x == ("__debug__" : Str)) = false := by decide) (he : starEach (e :: es) X.env = (false, eval e X.env) :: starEach es X.env := by rfl) (hpl : (backTo pos (starEach es X.env)).any (·.1) = false := by rfl) :
    PE X (.Call (.Name x p) (e :: es) [] pos) (tCall sp [] E0 t) := by
  obtain ⟨f, fd, Fn, g, kp, b⟩ := C.ex
  refine ⟨fun pins s σ H Q I h => wpAny_Call_Name_kw (ld_glob I hg g (PySem.W.callWith_K (h₀ := X.base) I.ok.mod.kin kp (thn (ha.run pos pins s σ H _ I h) fun us s1 hh => ?_) he hpl) hdb)⟩
  obtain ⟨vs, H1, I1, r, q⟩ := hh
  rw [List.append_nil] at q
  have hl : us.length = ps.length := by rw [← r.length]; exact Fn.len _ _ _ _ q
  have bd := b s1 us I1.kIn (by rw [List.append_nil]; exact hl)
  rw [List.append_nil] at bd
  refine ⟨I1.kIn, wpAny_call (codeAny_mono (Fn.run X.A X.stack s1 H1 ⟨us, []⟩ us vs Q E0 hr gu I1.env0 bd r q) fun r s' out => ?_)⟩
  cases r with
  | error er => exact False.elim out
  | ok fl =>
    cases fl with
    | ret u => exact I1.after out
    | next => exact False.elim out
    | brk => exact False.elim out
    | cont => exact False.elim out
/-- repr(x) of data -/
def rRepr (K : PySem.W.Frag) : List V → Hp → VK → Prop := fun xs H Q => ∃ v d, xs = [v] ∧ Dp K H v d ∧ d.showable = true ∧ d.hasDict = false ∧ d.depth ≤ 60 ∧ d.shown.length ≤ sizeLine ∧ Q (.str d.shown) H
theorem call_reprD (gu : X.A.guards = some []) (hu : X.A.units + 64 < cLine) : CallR X (.builtin "repr") (rRepr X.K) := fun pins s σ H xs us Q I r h => by
  obtain ⟨v, d, rfl, hd, sh, nd, dp, sz, q⟩ := h
  obtain ⟨u, rfl, ru⟩ := Vals.one r
  obtain ⟨as, rd⟩ := Dp.reads I d v u hd ru
  cases hd with
  | non => cases ru; exact PySem.P.repr_of_none ⟨.str _, H, I.tok _, ⟨_, rfl⟩, q⟩
  | bl b =>
    cases ru
    refine PySem.P.repr_of_bool ⟨.str _, H, I.tok _, ⟨_, rfl⟩, ?_⟩
    cases b <;> exact q
  | int i =>
    obtain ⟨t, rfl⟩ := ru
    exact PySem.P.repr_of_int (by simpa [PyData.showable] using sh) ⟨.str _, H, I.tok _, ⟨_, rfl⟩, q⟩
  | str z =>
    obtain ⟨t, rfl⟩ := ru
    exact PySem.P.repr_of_str ⟨.str _, H, I.tok _, ⟨_, rfl⟩, q⟩ sz
  | lst h1 h2 =>
    cases ru
    exact repr_of_reads' rd sh (fun z => by rw [nd] at z; cases z) gu (by omega) (fun b o e => e) (fun h' u tk k => ⟨.str _, H, I.kept k, ⟨_, rfl⟩, q⟩) sz
  | tup h1 h2 =>
    cases ru
    exact repr_of_reads' rd sh (fun z => by rw [nd] at z; cases z) gu (by omega) (fun b o e => e) (fun h' u tk k => ⟨.str _, H, I.kept k, ⟨_, rfl⟩, q⟩) sz
end
end Wk

set_option Elab.async false
set_option linter.all false
set_option maxRecDepth 100000
set_option maxHeartbeats 4000000
namespace Wk
open PySem PySem.Spec PyProof.Rows L2 Evl
/-! an own error with one field of any name -/
def spXF (C : Addr) (n : Str) : Sp := fun vs H Q _ => ∃ (a : Addr) (y : V), vs = [.ref a, y] ∧ H a = some (exo a C none) ∧ ∀ dx, H dx = none → dx ≠ a → Q .non (upd (upd H dx (exd dx [(n, y)])) a (exo a C (some dx)))
theorem mk_errF {C : Addr} {n : Str} {te : TE} {σ : L2.St} {H : Hp} {y : V} {W : XK} (h : Ev te σ H y) (k : ∀ d H', H d = none → Ex H H' → H' d = some (.xd [(n, y)]) → W (.ref C) (some d) H') : tMkO C (spXF C n) [] (tCons te tNil) σ H W := by
  refine h H (Ex.refl H) _ fun H1 e => ⟨by show 1 ≤ 1000; decide, fun a ha => ?_⟩
  refine ⟨a, y, rfl, upd_same, fun dx hd hne => ⟨rfl, dx, [(n, y)], upd_same, by rw [upd_ne hne, upd_same], ?_, ?_⟩⟩
  · rw [upd_ne hne] at hd
    exact hd
  · have hd1 : H1 dx = none := by rw [upd_ne hne] at hd; exact hd
    refine k dx _ (fresh_back e hd1) (fun b o hb => ?_) upd_same
    have hb1 := e b o hb
    have nb : b ≠ dx := ne_of_none hb1 hd1
    have na : b ≠ a := ne_of_none hb1 ha
    rw [upd_ne nb, del_ne na, upd_ne na, upd_ne nb, upd_ne na]
    exact hb1
structure ErrF (P : Program) (w : World) (K : PySem.W.Frag) (mg : Str → Option Value) (base : Heap) (x : Str) (C : Addr) (n : Str) : Prop where
  g : mg x = some (.ref C)
  oex : OexC K C
  xf : XfC K C
  no : PySem.W.findIn K (.ref C) n = some none
  te : PySem.W.exmOne K (.ref C) (.ref C) = some true
  ini : ∃ (fI : Addr) (fd : FuncData), PySem.W.findIn K (.ref C) "__init__" = some (some (.ref fI)) ∧ PySem.W.typeIn K (.ref fI) = some (.type "function") ∧ FnOk P w K mg base CX0 1 fI fd ["self", n] (spXF C n) ∧ Binds K fd ["self", n] []
theorem pmk_errF {X : Cx} {x n : Str} {C : Addr} {e : Expr} {ta : TA} {p pos : Pos} (T : ErrF X.prog X.w X.K X.mg X.base x C n) (hr : Room 2 X.A) (hg : Gl X x) (ha : PA X [e] ta)
    (hdb : (x == ("__debug__" : Str)) = false := by decide) (he : starEach [e] X.env = (false, eval e X.env) :: starEach [] X.env := by rfl) (hpl : (backTo pos (starEach [] X.env)).any (·.1) = false := by rfl) : PMk X (.Call (.Name x p) [e] [] pos) (tMkO C (spXF C n) [] ta) := by
  obtain ⟨fI, fd, h1, h2, h3, h4⟩ := T.ini
  exact pmk_oex T.oex h1 h2 h3 hr h4 .nil pass0 hg T.g ha hdb he hpl
section
variable {P : Program} {w : World} {K : PySem.W.Frag} {mg : Str → Option Value} {base : Heap} {f : Addr} {fd : FuncData}
abbrev sXN : Stmt := inClass (top 2) 0
abbrev sXB : Stmt := inClass (top 3) 0
theorem scXN : FnScope ["self", "router"] ["self", "router"] (defScope sXN) := ⟨rfl, rfl, rfl, by decide +kernel, rfl, by decide +kernel, by decide +kernel⟩
theorem scXB : FnScope ["self", "part"] ["self", "part"] (defScope sXB) := ⟨rfl, rfl, rfl, by decide +kernel, rfl, by decide +kernel, by decide +kernel⟩
theorem ok_xn {C : Addr} (T : OexC K C) (no : PySem.W.findIn K (.ref C) "router" = some none) (F : FunD K "__init__" "NoRouter.__init__" (defArgs sXN) (defBody sXN) (defScope sXN) [] [] f fd) : FnOk P w K mg base CX0 1 f fd ["self", "router"] (spXF C "router") := by
  refine F.ok scXN (fun vs H Q E h => ?_) (fun cdv A outer s H vs Q E hr h => ?_)
  · obtain ⟨a, y, rfl, _⟩ := h
    rfl
  · obtain ⟨a, y, rfl, ha, k⟩ := h
    exact ⟨_, pss_one (ps_ost (pv 0) (pv 1)), y, rfl, .ref a, rfl, a, C, rfl, T, no, .inl ⟨ha, k⟩⟩
theorem ok_xb {C : Addr} (T : OexC K C) (no : PySem.W.findIn K (.ref C) "part" = some none) (F : FunD K "__init__" "BadCosts.__init__" (defArgs sXB) (defBody sXB) (defScope sXB) [] [] f fd) : FnOk P w K mg base CX0 1 f fd ["self", "part"] (spXF C "part") := by
  refine F.ok scXB (fun vs H Q E h => ?_) (fun cdv A outer s H vs Q E hr h => ?_)
  · obtain ⟨a, y, rfl, _⟩ := h
    rfl
  · obtain ⟨a, y, rfl, ha, k⟩ := h
    exact ⟨_, pss_one (ps_ost (pv 0) (pv 1)), y, rfl, .ref a, rfl, a, C, rfl, T, no, .inl ⟨ha, k⟩⟩
end
/-! isinstance of a caught error with a field -/
def rIsF (K : PySem.W.Frag) (D a dx : Addr) : List V → Hp → VK → Prop := fun xs H Q => ∃ (c : V) (cv : Value) (b : Bool) (fs : List (Str × V)), xs = [.ref a, c] ∧ ClsV c cv ∧ PySem.W.kitOne K (.ref D) cv = some b ∧ H dx = some (.xd fs) ∧ Q (.bl b) H
def rIsFT (K : PySem.W.Frag) (D a dx : Addr) : List V → Hp → VK → Prop := fun xs H Q => ∃ (tp : Addr) (cs : List V) (us : List Value) (b : Bool) (fs : List (Str × V)), xs = [.ref a, .ref tp] ∧ H tp = some (.tup cs) ∧ Paired ClsV cs us ∧ PySem.W.kitAny K (.ref D) us = some b ∧ H dx = some (.xd fs) ∧ Q (.bl b) H
theorem excC_cls {K : PySem.W.Frag} {D : Addr} (C : ExcC K D) : (PySem.W.clsIn K D).isSome = true := by
  obtain ⟨cd, hc, _⟩ := PySem.W.any_some C.hd
  rw [hc]
  rfl
theorem inst_of {X : Cx} {pins : List (Addr × Obj)} {σ : L2.St} {H : Hp} {s : Shared} {a D dx : Addr} {oe : Obj} {pn : List (Addr × Obj)} {fs : List (Str × V)} (I : Inv (X.suite a ((a, oe) :: pn)) pins σ H s) (hz : Zc (.ref D) (some dx) oe) (hf : ∃ vs, oe.data = .fields vs) (ea : H dx = some (.xd fs)) :
    ∃ od, PySem.W.InstAt s.heap a oe D (some od) := by
  obtain ⟨ha, _⟩ := I.pin (a, oe) (List.mem_append_left _ List.mem_cons_self)
  obtain ⟨vs, hd⟩ := hf
  have hx : ObjOk X.prog X.w H s.heap dx (.xd fs) := I.hok dx _ ea
  obtain ⟨mA, hns, hr⟩ := hx
  obtain ⟨od, ho, hl⟩ := lookIn_ns hns
  exact ⟨od, ha, hz.1, by unfold PySem.W.notCls; rw [hd] <;> rfl, by rw [hz.2]; exact ho⟩
theorem call_isF {X : Cx} {K : PySem.W.Frag} {a D dx : Addr} {oe : Obj} {pn : List (Addr × Obj)} (hK : X.K = K) (C : ExcC K D) (hz : Zc (.ref D) (some dx) oe) (hf : ∃ vs, oe.data = .fields vs) : CallR (X.suite a ((a, oe) :: pn)) (.builtin "isinstance") (rIsF K D a dx) := by
  subst hK
  intro pins s σ H xs us Q I r h
  obtain ⟨c, cv, b, fs, rfl, hcv, e, ea, q⟩ := h
  obtain ⟨u1, u2, rfl, r1, r2⟩ := vals2 r
  obtain rfl : u1 = Value.ref a := r1
  have e2 := hcv.eq r2
  subst e2
  obtain ⟨od, J⟩ := inst_of I hz hf ea
  exact PySem.W.kia_one (PySem.W.kitx_exc (excC_cls C) C.hg C.hk C.hs C.ha C.hn C.ht C.hm) I.kIn J e (fun z => nomatch z) fun tk => ⟨.bl b, H, I.kept (t' := tk) fun _ _ z => z, rfl, q⟩
theorem call_isFT {X : Cx} {K : PySem.W.Frag} {a D dx : Addr} {oe : Obj} {pn : List (Addr × Obj)} (hK : X.K = K) (C : ExcC K D) (hz : Zc (.ref D) (some dx) oe) (hf : ∃ vs, oe.data = .fields vs) : CallR (X.suite a ((a, oe) :: pn)) (.builtin "isinstance") (rIsFT K D a dx) := by
  subst hK
  intro pins s σ H xs us Q I r h
  obtain ⟨tp, cs, ws, b, fs, rfl, hT, k, e, ea, q⟩ := h
  obtain ⟨u1, u2, rfl, r1, r2⟩ := vals2 r
  obtain rfl : u1 = Value.ref a := r1
  cases (show u2 = Value.ref tp from r2)
  obtain ⟨od, J⟩ := inst_of I hz hf ea
  obtain ⟨_, its, rv, o, h1, h2, n, h3⟩ := (show ObjOk X.prog X.w H s.heap tp (.tup cs) from I.hok tp _ hT)
  have e3 := ClsV.all k rv
  subst e3
  obtain ⟨oc, od2, dt, sl⟩ := o
  simp only at h2 h3
  subst h2 h3
  exact PySem.W.kia_tup (PySem.W.kitx_exc (excC_cls C) C.hg C.hk C.hs C.ha C.hn C.ht C.hm) I.kIn J h1 e (fun z => nomatch z) fun tk => ⟨.bl b, H, I.kept (t' := tk) fun _ _ z => z, rfl, q⟩
/-- t == u, equal plain items -/
def rEqSm (K : PySem.W.Frag) : R2 := fun x y H Q => ∃ a b xs, x = .ref a ∧ y = .ref b ∧ SqT K H a xs ∧ SqT K H b xs ∧ xs.all flatV = true ∧ (∀ z ∈ xs, eqV z z = true) ∧ Q (.bl true) H
theorem op_eqSm {X : Cx} {K : PySem.W.Frag} (hK : X.K = K) (hu : X.A.units < cLine) : OpR X (compareOp .Eq) (rEqSm K) := by
  subst hK
  intro pins s σ H x y v u Q I rx ry h
  obtain ⟨a, b, xs, rfl, rfl, ha, hb, hf, he, q⟩ := h
  cases rx
  cases ry
  obtain ⟨its, r1, p1, _⟩ := I.tuple ha
  obtain ⟨its2, r2, p2, _⟩ := I.tuple hb
  have l1 := r1.length
  have l2 := r2.length
  refine SeqAt.eq_tupleAt (e := fun _ => true) p1 p2 hu (fun j h1 h2 => ?_) ⟨.bl true, H, I, ?_, q⟩
  · have hj : j < xs.length := by simp at h1; omega
    have hx : xs[j]? = some xs[j] := List.getElem?_eq_getElem hj
    obtain ⟨u1, e1, q1⟩ := r1.get hx
    obtain ⟨u2, e2, q2⟩ := r2.get hx
    have f1 := List.all_eq_true.mp hf xs[j] (List.getElem_mem hj)
    have z := eqAt_V (A := X.A.in1) (s := s) q1 q2 f1 f1
    rw [he _ (List.getElem_mem hj)] at z
    have i1 : its.toArray[j] = u1 := by
      have := (List.getElem?_eq_some_iff.mp e1).2
      simpa using this
    have i2 : its2.toArray[j] = u2 := by
      have := (List.getElem?_eq_some_iff.mp e2).2
      simpa using this
    rw [i1, i2]
    exact z
  · show Value.bool _ = Value.bool true
    have : its.length = its2.length := by omega
    simp [this]
/-- repr of data, or of an empty dict -/
def Shw (K : PySem.W.Frag) (H : Hp) (v : V) (d : PyData) : Prop := (Dq H v d ∧ d.canLay0 = true ∧ d.showable = true ∧ d.hasDict = false ∧ d.depth ≤ 60 ∧ d.shown.length ≤ sizeLine) ∨ (d = .dict [] ∧ ∃ a, v = .ref a ∧ H a = some (.dK []))
theorem Shw.mono {K : PySem.W.Frag} {H H' : Hp} {v : V} {d : PyData} (e : Ex H H') (h : Shw K H v d) : Shw K H' v d := h.imp (fun h => ⟨h.1.mono e, h.2⟩) fun ⟨h1, a, h2, h3⟩ => ⟨h1, a, h2, e _ _ h3⟩
def rReprX (K : PySem.W.Frag) : List V → Hp → VK → Prop := fun xs H Q => ∃ v d, xs = [v] ∧ Shw K H v d ∧ Q (.str d.shown) H
theorem call_reprX {X : Cx} {K : PySem.W.Frag} (hK : X.K = K) (gu : X.A.guards = some []) (hu : X.A.units + 64 < cLine) : CallR X (.builtin "repr") (rReprX K) := by
  subst hK
  intro pins s σ H xs us Q I r h
  obtain ⟨v, d, rfl, hs | ⟨rfl, a, rfl, ha⟩, q⟩ := h
  · obtain ⟨h1, h2, h3, h4, h5, h6⟩ := hs
    exact call_reprD gu hu pins s σ H _ us Q I r ⟨v, d, rfl, Dq.dp h2 h1, h3, h4, h5, h6, q⟩
  · obtain ⟨u, rfl, ru⟩ := vals1 r
    cases ru
    obtain ⟨_, hd, vs, rel, o, es, ep, h1, h2, h3, _, h5, _⟩ := (show ObjOk X.prog X.w H s.heap a (.dK []) from I.hok a _ ha)
    cases rel
    have e0 : es.toList = [] := by
      generalize es.toList = l at h5
      cases h5
      rfl
    have rd : Reads s.heap (.ref a) (.dict []) (a :: [] ++ []) := .dict (kvs := []) h1 h2.1 h3 (by rw [e0]; exact .nil) (by rw [e0]; exact .nil)
    refine repr_of_reads' rd (by rfl) (fun _ z => ?_) gu (by show _ + (PyData.depth (.dict []) + 1) < _; rw [show PyData.depth (.dict []) = 1 by rfl]; omega) (fun b o e => e) (fun h' u tk k => ⟨.str _, H, I.kept k, ⟨_, rfl⟩, q⟩) (by decide +kernel)
    have : sysModules = a := by simpa using z
    rw [this] at hd
    simp at hd
def rIsFo (K : PySem.W.Frag) (D a : Addr) (cls : Value) (d : Option Addr) : List V → Hp → VK → Prop := fun xs H Q => cls = .ref D ∧ ∃ dx, d = some dx ∧ rIsF K D a dx xs H Q
def rIsFTo (K : PySem.W.Frag) (D a : Addr) (cls : Value) (d : Option Addr) : List V → Hp → VK → Prop := fun xs H Q => cls = .ref D ∧ ∃ dx, d = some dx ∧ rIsFT K D a dx xs H Q
theorem call_isFo {X : Cx} {K : PySem.W.Frag} {a D : Addr} {cls : Value} {d : Option Addr} {oe : Obj} {pn : List (Addr × Obj)} (hK : X.K = K) (C : ExcC K D) (hz : Zc cls d oe) (hf : ∃ vs, oe.data = .fields vs) : CallR (X.suite a ((a, oe) :: pn)) (.builtin "isinstance") (rIsFo K D a cls d) := by
  intro pins s σ H xs us Q I r h
  obtain ⟨rfl, dx, rfl, h⟩ := h
  exact call_isF hK C hz hf pins s σ H xs us Q I r h
theorem call_isFTo {X : Cx} {K : PySem.W.Frag} {a D : Addr} {cls : Value} {d : Option Addr} {oe : Obj} {pn : List (Addr × Obj)} (hK : X.K = K) (C : ExcC K D) (hz : Zc cls d oe) (hf : ∃ vs, oe.data = .fields vs) : CallR (X.suite a ((a, oe) :: pn)) (.builtin "isinstance") (rIsFTo K D a cls d) := by
  intro pins s σ H xs us Q I r h
  obtain ⟨rfl, dx, rfl, h⟩ := h
  exact call_isFT hK C hz hf pins s σ H xs us Q I r h
section
variable {P : Program} {w : World} {K : PySem.W.Frag} {mg : Str → Option Value} {base : Heap} {f : Addr} {fd : FuncData} {CN : Addr}
def spNoRt (CN : Addr) : Sp := fun vs H Q E => ∃ (n : Int) (v : V) (d : PyData), vs = [.int n, v] ∧ Dq H v d ∧ (isR n d = true → ∀ H', Ex H H' → Q .non H') ∧ (isR n d = false → ∀ dx H', H dx = none → Ex H H' → H' dx = some (.xd [("router", v)]) → E (.ref CN) (some dx) H')
theorem ok_noRt (TN : ErrF P w K mg base "NoRouter" CN "router") (C : Cal P w K mg base "is_router" ["size", "thing"] 3 spRouter) (F : FnP K "refuse_no_router" sRNR f fd) : FnOk P w K mg base (L2.CX P w) 4 f fd ["size", "thing"] (spNoRt CN) := by
  refine F.ok scRNR (fun vs H Q E h => ?_) (fun cdv A outer s H vs Q E hr h => ?_)
  · obtain ⟨n, v, d, rfl, _⟩ := h
    rfl
  · obtain ⟨n, v, d, rfl, hd, kQ, kE⟩ := h
    have hr2 : Room 2 _ := hr.mono (by decide)
    refine ⟨_, pss_one (ps_if (pt_not (pt_val (pe_cal C hr (by rfl) (pa_cons (pv 0) (pa_cons (pv 1) pa_nil))))) (pss_one (ps_raise rfl (takes_of rfl rfl rfl rfl) (pmk_errF TN hr2 (by rfl) (pa_cons (pv 1) pa_nil)))) pss_nil), ?_⟩
    refine s_when (b := !isR n d) (et_not (et_B (ev_call (ea_cons (ev_var rfl) (ea_cons (ev_var rfl) ea_nil)) (spP_v fun H1 e => ⟨_, v, d, rfl, hd.mono e, rfl⟩)))) (fun hb H1 e => ?_) (fun hb H1 e => ?_)
    · exact mk_errF (ev_var rfl) fun dx H' h0 e' hx => kE (by simpa using hb) dx H' (fresh_back e h0) (e.trans e') hx
    · exact kQ (by simpa using hb) H1 e
end
end Wk

set_option Elab.async false
set_option linter.all false
set_option maxRecDepth 100000
set_option maxHeartbeats 4000000
namespace Wk
open PySem PySem.Spec PySem.SeqAt PyProof.Rows L2 Evl
/-! rows of numbers, judged line by line -/
abbrev RwI := Nat → Option Int
def dI (r : Rw2) : RwI := fun i => (r i).map fun x => (x.1 : Int)
def FarP (kvs : List (List L2.Key × V)) (r : RwI) : Prop := ∀ a b c y, Lin kvs a b = some c → r b = some y → ∃ x, r a = some x ∧ x ≤ (c : Int) + y
def TightP (n : Nat) (kvs : List (List L2.Key × V)) (g : Nat) (r : RwI) : Prop := ∀ a, a < n → a ≠ g → ∀ x, r a = some x → ∃ b c y, Lin kvs a b = some c ∧ r b = some y ∧ x = (c : Int) + y
def DistP (n : Nat) (kvs : List (List L2.Key × V)) (g : Nat) (r : RwI) : Prop := r g = some 0 ∧ FarP kvs r ∧ TightP n kvs g r
theorem lin_pos {n : Nat} {kvs : List (List L2.Key × V)} (hok : LnOk n kvs) {a b c : Nat} (h : Lin kvs a b = some c) : 1 ≤ c ∧ a < n ∧ b < n := by
  rcases lin_val hok a b with ⟨c', _, g2, ha, hb, g3, _⟩ | ⟨_, g2⟩
  · rw [g2] at h
    cases h
    exact ⟨g3, ha, hb⟩
  · rw [g2] at h
    cases h
theorem wlk_zero {n : Nat} {kvs : List (List L2.Key × V)} (hok : LnOk n kvs) {g : Nat} {x : It2} (h : Wlk (Lin kvs) g x) {a : Nat} {w : List Nat} (hw : x.2 = a :: w) (hne : a ≠ g) : 1 ≤ x.1 := by
  cases h with
  | nil =>
    injection hw with e _
    exact absurd e.symm hne
  | cons hl hc =>
    have := (lin_pos hok hl).1
    show 1 ≤ _ + _
    omega
/-- the least walks' costs keep the clauses -/
theorem dist_ok {n : Nat} {kvs : List (List L2.Key × V)} (hok : LnOk n kvs) {g : Nat} {r : Rw2} (h : ∀ s, LeastW kvs g s (r s)) : DistP n kvs g (dI r) := by
  have z : ∃ y, r g = some y ∧ y.1 = 0 := by
    obtain ⟨y, h1, h2⟩ := (h g).1 (0, [g]) [] .nil rfl
    have := ile_cost h2
    exact ⟨y, h1, by have : y.1 ≤ 0 := this; omega⟩
  obtain ⟨y0, z1, z2⟩ := z
  refine ⟨by unfold dI; rw [z1]; show some (y0.1 : Int) = some 0; rw [z2]; rfl, fun a b c y hl hy => ?_, fun a ha hne x hx => ?_⟩
  · unfold dI at hy
    cases hb : r b with
    | none => rw [hb] at hy; cases hy
    | some xb =>
      rw [hb] at hy
      have hy : (xb.1 : Int) = y := Option.some.inj hy
      obtain ⟨w1, _, v, w2⟩ := (h b).2 xb hb
      obtain ⟨xa, h3, h4⟩ := (h a).1 (ahead a c xb) xb.2 (w1.ahead hl w2) rfl
      refine ⟨(xa.1 : Int), by unfold dI; rw [h3]; rfl, ?_⟩
      have := ile_cost h4
      have : xa.1 ≤ c + xb.1 := this
      omega
  · unfold dI at hx
    cases hr : r a with
    | none => rw [hr] at hx; cases hx
    | some xa =>
      rw [hr] at hx
      have hx : (xa.1 : Int) = x := Option.some.inj hx
      obtain ⟨w1, _, v, w2⟩ := (h a).2 xa hr
      cases w1 with
      | nil =>
        injection w2 with e _
        exact absurd e.symm hne
      | @cons a' b k c w hl hc =>
        injection w2 with e _
        subst e
        obtain ⟨yb, h3, h4⟩ := (h b).1 (c, b :: w) w hc rfl
        have h4 := ile_cost h4
        have h4 : yb.1 ≤ c := h4
        obtain ⟨w3, _, v3, w4⟩ := (h b).2 yb h3
        obtain ⟨xa', h5, h6⟩ := (h a').1 (ahead a' k yb) yb.2 (w3.ahead hl w4) rfl
        rw [hr] at h5
        cases h5
        have h6 := ile_cost h6
        have h6 : k + c ≤ k + yb.1 := h6
        refine ⟨b, k, (yb.1 : Int), hl, by unfold dI; rw [h3]; rfl, ?_⟩
        rw [← hx]
        show ((k + c : Nat) : Int) = (k : Int) + (yb.1 : Int)
        omega
/-- what keeps the clauses are these costs -/
theorem far_walk {kvs : List (List L2.Key × V)} {g : Nat} {r : RwI} (h0 : r g = some 0) (hf : FarP kvs r) {x : It2} (h : Wlk (Lin kvs) g x) : ∀ a w, x.2 = a :: w → ∃ y, r a = some y ∧ y ≤ (x.1 : Int) := by
  induction h with
  | nil =>
    intro a w hw
    injection hw with e _
    subst e
    exact ⟨0, h0, by show (0 : Int) ≤ ((0 : Nat) : Int); omega⟩
  | @cons a' b k c w hl hc ih =>
    intro a w' hw
    injection hw with e _
    subst e
    obtain ⟨y, h1, h2⟩ := ih b w rfl
    obtain ⟨x, h3, h4⟩ := hf _ _ _ _ hl h1
    have h2 : y ≤ (c : Int) := h2
    exact ⟨x, h3, by show x ≤ ((k + c : Nat) : Int); omega⟩
/-- from a router with a number down to the goal -/
theorem tight_walk {n : Nat} {kvs : List (List L2.Key × V)} (hok : LnOk n kvs) {g : Nat} {r : RwI} (h0 : r g = some 0) (ht : TightP n kvs g r) : ∀ (m : Nat) (seen : List Nat), seen.Nodup → (∀ s ∈ seen, s < n) → n ≤ seen.length + m →
    ∀ a x, a < n → r a = some x → (∀ s ∈ seen, ∃ y, r s = some y ∧ x < y) → ∃ z : It2, Wlk (Lin kvs) g z ∧ (∃ w, z.2 = a :: w) ∧ (z.1 : Int) = x
  | 0, seen, nd, hs, hn, a, x, ha, hx, hlt => by
    exfalso
    have nm : a ∉ seen := fun hm => by
      obtain ⟨y, h1, h2⟩ := hlt a hm
      rw [hx] at h1
      cases h1
      omega
    have := nodup_len2 n (List.nodup_cons.mpr ⟨nm, nd⟩) (fun s h => by
      rcases List.mem_cons.mp h with rfl | h
      · exact ha
      · exact hs s h)
    simp at this
    omega
  | m + 1, seen, nd, hs, hn, a, x, ha, hx, hlt => by
    by_cases hg : a = g
    · subst hg
      rw [h0] at hx
      cases hx
      exact ⟨(0, [a]), .nil, ⟨[], rfl⟩, rfl⟩
    · obtain ⟨b, c, y, hl, hy, e⟩ := ht a ha hg x hx
      obtain ⟨hc, _, hb⟩ := lin_pos hok hl
      have nm : a ∉ seen := fun hm => by
        obtain ⟨y, h1, h2⟩ := hlt a hm
        rw [hx] at h1
        cases h1
        omega
      obtain ⟨z, z1, ⟨w, z2⟩, z3⟩ := tight_walk hok h0 ht m (a :: seen) (List.nodup_cons.mpr ⟨nm, nd⟩) (fun s h => by
        rcases List.mem_cons.mp h with rfl | h
        · exact ha
        · exact hs s h) (by simp; omega) b y hb hy (fun s h => by
        rcases List.mem_cons.mp h with rfl | h
        · exact ⟨x, hx, by omega⟩
        · obtain ⟨y', h1, h2⟩ := hlt s h
          exact ⟨y', h1, by omega⟩)
      refine ⟨ahead a c z, z1.ahead hl z2, ⟨z.2, rfl⟩, ?_⟩
      show ((c + z.1 : Nat) : Int) = x
      omega
theorem dist_uniq {n : Nat} {kvs : List (List L2.Key × V)} (hok : LnOk n kvs) {g : Nat} {r : Rw2} (h : ∀ s, LeastW kvs g s (r s)) {q : RwI} (hq : DistP n kvs g q) : ∀ a, a < n → q a = dI r a := fun a ha => by
  obtain ⟨h0, hf, ht⟩ := hq
  cases hr : r a with
  | none =>
    unfold dI
    rw [hr]
    cases hv : q a with
    | none => rfl
    | some x =>
      obtain ⟨z, z1, ⟨w, z2⟩, _⟩ := tight_walk hok h0 ht n [] List.nodup_nil (fun s h => by cases h) (by simp) a x ha hv (fun s h => by cases h)
      obtain ⟨y, h1, _⟩ := (h a).1 z w z1 z2
      rw [hr] at h1
      cases h1
  | some x =>
    unfold dI
    rw [hr]
    obtain ⟨w1, _, v, w2⟩ := (h a).2 x hr
    obtain ⟨y, h1, h2⟩ := far_walk h0 hf w1 a v w2
    obtain ⟨z, z1, ⟨w, z2⟩, z3⟩ := tight_walk hok h0 ht n [] List.nodup_nil (fun s h => by cases h) (by simp) a y ha h1 (fun s h => by cases h)
    obtain ⟨x', h3, h4⟩ := (h a).1 z w z1 z2
    rw [hr] at h3
    cases h3
    have := ile_cost h4
    rw [h1]
    show some y = some (x.1 : Int)
    congr 1
    omega
theorem dist_other {n : Nat} {kvs : List (List L2.Key × V)} (hok : LnOk n kvs) {g o : Nat} {r : Rw2} (h : ∀ s, LeastW kvs o s (r s)) (hne : g ≠ o) : dI r g ≠ some 0 := fun z => by
  unfold dI at z
  cases hr : r g with
  | none => rw [hr] at z; cases z
  | some x =>
    rw [hr] at z
    have z : (x.1 : Int) = 0 := Option.some.inj z
    obtain ⟨w1, _, v, w2⟩ := (h g).2 x hr
    have := wlk_zero hok w1 w2 hne
    omega
/-! costs alone, the first of the least -/
def cost1 (c : Nat → Option Nat) (x : It2) : Nat → Option Nat := fun i => if i = x.2.headD 0 then (match c i with
  | none => some x.1
  | some k => if x.1 < k then some x.1 else some k) else c i
theorem cost_best {r : Rw2} {x : It2} : cost1 (fun i => (r i).map (·.1)) x = fun i => (best1 r x i).map (·.1) := by
  funext i
  unfold cost1 best1
  by_cases c : i = x.2.headD 0
  · rw [if_pos c, if_pos c]
    dsimp only
    cases hr : r i with
    | none => rfl
    | some b =>
      show (if x.1 < b.1 then some x.1 else some b.1) = ((if ilt x b = true then some x else some b) : Option It2).map (·.1)
      by_cases d : ilt x b = true
      · rw [if_pos d]
        unfold ilt at d
        by_cases e : x.1 < b.1
        · rw [if_pos e]; rfl
        · rw [if_neg e]
          rw [decide_eq_false e, Bool.false_or, Bool.and_eq_true_iff] at d
          have := of_decide_eq_true d.1
          show some b.1 = some x.1
          rw [this]
      · rw [if_neg d]
        have : ¬ x.1 < b.1 := fun e => d (by unfold ilt; rw [decide_eq_true e, Bool.true_or])
        rw [if_neg this]
        rfl
  · rw [if_neg c, if_neg c]
end Wk

set_option Elab.async false
set_option linter.all false
set_option maxRecDepth 100000
set_option maxHeartbeats 4000000
namespace Wk
open PySem PySem.Spec PySem.SeqAt PyProof.Rows L2 Evl
/-! == of two dicts whose keys are tuples -/
section
variable {prog : Program} {w : World} {K : Type} [DecidableEq K] {knd : HeapKind prog w K} {A : Around} {E : Value → Shared → Prop} {s : Shared}
theorem heq_samePairs {nm : String} {a b : Addr} {xa xb : List (K × Addr × Value)} {e : K → Bool} {Q : Bool → Shared → Prop} (hu : knd.room A) (ha : (a == sysModules) = false) (hb : (b == sysModules) = false)
    (da : s.heap.DictOfH knd a xa) (db : s.heap.DictOfH knd b xb) (hits : ∀ x ∈ xa, ∀ p, atKey xb x.1 = some p → SeqAt.EqAt A s x.2.2 p.2 (e x.1)) (h : Q (xa.length == xb.length && xa.all fun x => (atKey xb x.1).isSome && e x.1) s) :
    wpAny (model prog w) A (Builtin.Dict.samePairs nm a b) Q E s := by
  obtain ⟨oa, es, ep, hoa, _, hda, hka, hia, hna⟩ := da
  obtain ⟨ob, es', ep', hob, _, hdb, hkb, hib, hnb⟩ := db
  have hla : xa.length = es.size := (size_of_entries hka).symm
  have hlb : xb.length = es'.size := (size_of_entries hkb).symm
  rw [hla, hlb] at h
  unfold Builtin.Dict.samePairs Builtin.Dict.showsAll
  rw [if_neg (show ¬ (a == sysModules) = true by rw [ha]; exact Bool.false_ne_true), if_neg (show ¬ (b == sysModules) = true by rw [hb]; exact Bool.false_ne_true)]
  refine wpAny_bind (wpAny_pure (wpAny_bind (wpAny_pure ?_)))
  refine wpAny_bind (wpAny_dictEntries hoa hda ?_)
  dsimp only
  refine wpAny_bind (wpAny_dictEntries hob hdb ?_)
  by_cases hsz : es.size = es'.size
  case neg =>
    rw [if_pos (by simpa using hsz)]
    have hbf : (es.size == es'.size) = false := by simpa using hsz
    rw [hbf, Bool.false_and] at h
    exact wpAny_bind (wpAny_rule (wpAny_pure h))
  case pos =>
    have h' : Q (xa.all fun x => (atKey xb x.1).isSome && e x.1) s := by simpa [hsz] using h
    rw [if_neg (by rw [hsz]; simp)]
    refine wpAny_bind (wpAny_dictEpoch hoa hda ?_)
    refine wpAny_bind ?_
    rw [Std.Legacy.Range.forIn_eq_forIn_range']
    simp only [Std.Legacy.Range.size, Nat.sub_zero, Nat.add_sub_cancel, Nat.div_one]
    refine wpAny_forIn_list _
      (fun rest q s' => s' = s ∧ q = (none, ()) ∧ ∃ i, rest = List.range' i (es.size - i) ∧ i ≤ es.size ∧ Q ((xa.drop i).all fun x => (atKey xb x.1).isSome && e x.1) s)
      _ ?_ ?_ _ _ ⟨rfl, rfl, 0, by simp, Nat.zero_le _, h'⟩
    · rintro x rest q s' ⟨rfl, rfl, i, hr, hi, hpre⟩
      have hlt : i < es.size := by
        rcases Nat.lt_or_ge i es.size with h | h
        · exact h
        · rw [Nat.sub_eq_zero_of_le h] at hr; simp at hr
      obtain ⟨rfl, hrest⟩ : x = i ∧ rest = List.range' (i + 1) (es.size - (i + 1)) := by
        have e : es.size - i = (es.size - (i + 1)) + 1 := by omega
        rw [e, List.range'_succ] at hr
        injection hr with h1 h2
        exact ⟨h1, h2⟩
      refine wpAny_bind (wpAny_dictEntries hoa hda ?_)
      have hlt' : x < xa.length := by rw [hla]; exact hlt
      obtain ⟨k, p, v, hkv⟩ : ∃ k p v, xa[x] = (k, p, v) := ⟨_, _, _, rfl⟩
      have hdrop : xa.drop x = (k, p, v) :: xa.drop (x + 1) := by rw [← hkv]; exact List.drop_eq_getElem_cons hlt'
      have hx : xa[x]? = some (k, p, v) := by rw [List.getElem?_eq_getElem hlt', hkv]
      have hmem : (k, p, v) ∈ xa := List.mem_of_getElem? hx
      rw [entry_at hka x, hx]
      show wpAny _ _ (holding [Value.ref p, v] _ >>= _) _ _ _
      rw [hdrop, List.all_cons] at hpre
      refine wpAny_bind (wpAny_holding (wpAny_bind (wpAny_dictFind_heap hu (hia _ hmem) hob hdb hkb hib hnb ?_ ?_)))
      · intro hno
        have hn := atKey_none_of_get hno
        have hn : atKey xb k = none := hn
        dsimp only at hpre
        rw [hn] at hpre
        refine wpAny_pure ?_
        show wpAny _ _ (if (!false) = true then _ else _) _ _ _
        rw [if_pos (by decide)]
        exact wpAny_pure (wpAny_pure (by simpa using hpre))
      · intro j pj hj
        have hp : atKey xb k = some pj := atKey_of_get hnb hj
        have he := hits _ hmem pj hp
        refine wpAny_bind (wpAny_dictEntries hob hdb ?_)
        rw [entry_at hkb j, hj]
        refine wpAny_holding (he prog w _ _ ?_)
        dsimp only at hpre ⊢
        rw [hp] at hpre
        cases hek : e k with
        | false =>
          rw [hek] at hpre
          show wpAny _ _ (if (!false) = true then _ else _) _ _ _
          rw [if_pos (by decide)]
          exact wpAny_pure (wpAny_pure (by simpa using hpre))
        | true =>
          rw [hek] at hpre
          show wpAny _ _ (if (!true) = true then _ else _) _ _ _
          rw [if_neg (by decide)]
          refine wpAny_bind (wpAny_dictEpoch hoa hda ?_)
          rw [if_neg (by simp)]
          exact wpAny_pure ⟨rfl, rfl, x + 1, hrest, hlt, by simpa using hpre⟩
    · rintro q s' ⟨rfl, rfl, i, hr, hi, hpre⟩
      have hin : i = es.size := by
        rcases Nat.lt_or_ge i es.size with h | h
        · have e : es.size - i = (es.size - (i + 1)) + 1 := by omega
          rw [e, List.range'_succ] at hr; exact nomatch hr
        · exact Nat.le_antisymm hi h
      refine wpAny_pure ?_
      rw [hin, ← hla, List.drop_length] at hpre
      exact hpre
theorem heq_eq {a b : Addr} {xa xb : List (K × Addr × Value)} {e : K → Bool} {Q : Value → Shared → Prop} (hr : knd.room A.in1) (ha : (a == sysModules) = false) (hb : (b == sysModules) = false)
    (da : s.heap.DictOfH knd a xa) (db : s.heap.DictOfH knd b xb) (hu : A.units < cLine) (hits : ∀ x ∈ xa, ∀ p, atKey xb x.1 = some p → SeqAt.EqAt A.in1 s x.2.2 p.2 (e x.1)) (h : Q (.bool (xa.length == xb.length && xa.all fun x => (atKey xb x.1).isSome && e x.1)) s) :
    wpAny (model prog w) A (compareOp .Eq (.ref a) (.ref b)) Q E s := by
  refine wpAny_richCompare_same_room (op := .Eq) da.typeIs db.typeIs PySem.F.slot_dict_eq (wpAny_call_entry PySem.F.slot_dict_eq da.typeIs PySem.F.entry_dict_eq ?_ (PySem.F.args_dict_eq_2 _ _)) hu
  show wpAny _ _ (Builtin.Dict.dictSlotArgs "__eq__" ⟨[.ref a, .ref b], []⟩ >>= _) _ _ s
  refine wpAny_bind ?_
  unfold Builtin.Dict.dictSlotArgs
  refine wpAny_bind (wpAny_notOrdered_dict da.typeIs ?_)
  show wpAny _ _ (pure (Value.ref a, Value.ref b)) _ _ s
  refine wpAny_pure ?_
  refine wpAny_bind (wpAny_isInstance (T := "dict") db.typeIs PySem.F.sub_dict_dict ?_)
  simp only [Bool.not_true, Bool.false_eq_true, if_false]
  refine wpAny_bind (wpAny_pure (wpAny_bind (wpAny_pure ?_)))
  refine wpAny_bind (heq_samePairs hr ha hb da db hits ?_)
  refine wpAny_pure ⟨_, rfl, ?_, ?_⟩
  · exact fun x => nomatch x
  · simpa using h
end
/-- as lists of pairs -/
def eqDT (ks ls : List (List L2.Key × V)) : Bool := ks.length == ls.length && ks.all fun p => match valV ls p.1 with
  | some v => eqV p.2 v
  | none => false
section
variable {X : Cx}
def rEqDT : R2 := fun x y H Q => ∃ a b ks ls, x = .ref a ∧ y = .ref b ∧ H a = some (.dT ks) ∧ H b = some (.dT ls) ∧ (∀ p ∈ ks, flatV p.2 = true) ∧ (∀ p ∈ ls, flatV p.2 = true) ∧ Q (.bl (eqDT ks ls)) H
theorem kt_all {H : Hp} {f : List L2.Key → V → Bool} {g : List L2.Key × Addr × Value → Bool} : ∀ {ks : List (List L2.Key × V)} {xs : List (List L2.Key × Addr × Value)}, KT H ks xs → (∀ p q, p ∈ ks → q ∈ xs → p.1 = q.1 → RelV p.2 q.2.2 → f p.1 p.2 = g q) → ks.all (fun p => f p.1 p.2) = xs.all g
  | _, _, .nil, _ => rfl
  | p :: ks, q :: xs, .cons hq t, h => by
    rw [List.all_cons, List.all_cons, h p q List.mem_cons_self List.mem_cons_self hq.1 hq.2.2, kt_all t fun p' q' h1 h2 => h p' q' (List.mem_cons_of_mem _ h1) (List.mem_cons_of_mem _ h2)]
theorem kt_mem {H : Hp} : ∀ {ks : List (List L2.Key × V)} {xs : List (List L2.Key × Addr × Value)}, KT H ks xs → ∀ q ∈ xs, ∃ p ∈ ks, p.1 = q.1 ∧ RelV p.2 q.2.2
  | _, _, .nil, _, h => by cases h
  | p :: ks, q :: xs, .cons hq t, q', h => by
    rcases List.mem_cons.mp h with rfl | h
    · exact ⟨p, List.mem_cons_self, hq.1, hq.2.2⟩
    · obtain ⟨p', h1, h2⟩ := kt_mem t q' h
      exact ⟨p', List.mem_cons_of_mem _ h1, h2⟩
theorem kt_keys {H : Hp} : ∀ {ks : List (List L2.Key × V)} {xs : List (List L2.Key × Addr × Value)}, KT H ks xs → ks.map (·.1) = xs.map (·.1)
  | _, _, .nil => rfl
  | p :: ks, q :: xs, .cons hq t => by
    rw [List.map_cons, List.map_cons, hq.1, kt_keys t]
theorem kt_len {H : Hp} : ∀ {ks : List (List L2.Key × V)} {xs : List (List L2.Key × Addr × Value)}, KT H ks xs → ks.length = xs.length
  | _, _, .nil => rfl
  | p :: ks, q :: xs, .cons hq t => by
    rw [List.length_cons, List.length_cons, kt_len t]
theorem val_in {l : List (List L2.Key × V)} {p : List L2.Key × V} (nd : (l.map (·.1)).Nodup) (h : p ∈ l) : valV l p.1 = some p.2 := by
  obtain ⟨j, hj⟩ := List.getElem?_of_mem h
  exact val_nd nd hj
theorem op_eqDT (hu : X.A.units + 1 < cLine) : OpR X (compareOp .Eq) rEqDT := by
  intro pins s σ H x y v u Q I rx ry h
  obtain ⟨a, b, ks, ls, rfl, rfl, ea, eb, fk, fl, q⟩ := h
  obtain rfl : v = Value.ref a := rx
  obtain rfl : u = Value.ref b := ry
  obtain ⟨_, ya, xa, ra, da⟩ := dt_of I.hok ea
  obtain ⟨_, yb, xb, rb, db⟩ := dt_of I.hok eb
  have hna : (xa.map (·.1)).Nodup := by obtain ⟨_, _, _, _, _, _, _, _, hn⟩ := da; exact hn
  have nk : (ks.map (·.1)).Nodup := by rw [kt_keys ra]; exact hna
  refine heq_eq (e := fun k => match valV ks k, valV ls k with
    | some v, some v' => eqV v v'
    | _, _ => false) (tupleKind_room_in1 hu) ya yb da db (by omega) (fun x hx p hp => ?_) ⟨.bl (eqDT ks ls), H, I, ?_, q⟩
  · obtain ⟨pk, h1, h2, h3⟩ := kt_mem ra x hx
    have hv := rb.val x.1
    rw [hp] at hv
    cases hl : valV ls x.1 with
    | none => rw [hl] at hv; cases hv
    | some v' =>
      rw [hl] at hv
      have hv : RelV v' p.2 := hv
      have hk : valV ks x.1 = some pk.2 := by rw [← h2]; exact val_in nk h1
      rw [hk]
      exact eqAt_V h3 hv (fk _ h1) (fl _ (val_mem hl))
  · show Value.bool _ = Value.bool _
    congr 1
    unfold eqDT
    rw [kt_len ra, kt_len rb]
    congr 1
    refine (kt_all (f := fun k w => match valV ls k with
      | some v => eqV w v
      | none => false) ra fun p q' hp hq e r => ?_).symm
    have hv := rb.val q'.1
    have hk : valV ks q'.1 = some p.2 := by rw [← e]; exact val_in nk hp
    rw [hk, e]
    cases hl : valV ls q'.1 with
    | none =>
      rw [hl] at hv
      have : atKey xb q'.1 = none := by
        cases hz : atKey xb q'.1 with
        | none => rfl
        | some z => rw [hz] at hv; cases hv
      rw [this]
      rfl
    | some v' =>
      rw [hl] at hv
      have : ∃ z, atKey xb q'.1 = some z := by
        cases hz : atKey xb q'.1 with
        | none => rw [hz] at hv; cases hv
        | some z => exact ⟨z, rfl⟩
      obtain ⟨z, hz⟩ := this
      rw [hz]
      rfl
end
/-- as functions -/
theorem eqDT_yes {ks ls : List (List L2.Key × V)} (hl : ks.length = ls.length) (nd : (ks.map (·.1)).Nodup) (hv : ∀ k, valV ks k = valV ls k) (hf : ∀ p ∈ ks, eqV p.2 p.2 = true) : eqDT ks ls = true := by
  unfold eqDT
  rw [hl, beq_self_eq_true, Bool.true_and, List.all_eq_true]
  intro p hp
  rw [← hv, val_in nd hp]
  exact hf p hp
end Wk

set_option Elab.async false
set_option linter.all false
set_option maxRecDepth 100000
set_option maxHeartbeats 2000000
namespace Wk
open PySem PySem.SeqAt
open AutoSeq1 (wpAny_loadPart')
open MeetsSeq MeetsSeq2 MeetsSeq3 SeqRoads2
section
variable {prog : Program} {w : World} {A : Around} {R : Result → Shared → Prop}
/-- at each turn the list is read anew; whether its i-th item is x -/
def InI (prog : Program) (w : World) (A : Around) (E : Value → Shared → Prop) (l : Addr) (x : Value) (e : Nat → Bool) (N : Nat) (I : Shared → Prop) : Prop :=
  ∀ s, I s → ∃ (items : Array Value) (n : Nat), s.heap.get? l = some { cls := .type "list", data := .seq items n } ∧ items.size = N ∧ ∀ (i : Nat) (h : i < items.size), wpAny (model prog w) A.in1 (eqBool items[i] x) (fun r s' => r = e i ∧ I s') E s
theorem in_loopB (l : Addr) (x : Value) (e : Nat → Bool) (N : Nat) (I : Shared → Prop) (hl : InI prog w A (fun er s' => R (.error er) s') l x e N I)
    (fin : ∀ (b : Bool) s, (b = true ↔ ∃ j, j < N ∧ e j = true) → I s → R (.ok (.ret (.bool b))) s) (k : Nat) :
    ∀ i : Nat, N - i = k → i ≤ N → (∀ j, j < i → e j = false) → ∀ s, I s →
      wpAny (model prog w) A.in1 (Builtin.«list.__contains__.loop» ⟨[.ref l, x, rawInt i], []⟩) (GQ.FinOf prog w A R) (fun er s' => R (.error er) s') s := by
  induction k with
  | zero =>
    intro i hk hi hno s h
    obtain ⟨items, n, hl1, hs1, _⟩ := hl _ h
    have hR : R (.ok (.ret (.bool false))) s := fin false s ⟨fun z => (by cases z), fun ⟨j, hj, hj2⟩ => by rw [hno j (by omega)] at hj2; cases hj2⟩ h
    obtain ⟨hp, g, d, tk, os⟩ := s
    wp_walk using wpAny_loadPart' hl1
    have hi1 : items[((i : Nat) : Int).toNat]? = none := by simp; omega
    rw [hi1]
    wp_walk
    exact hR
  | succ k ih =>
    intro i hk hi hno s h
    obtain ⟨items, n, hl1, hs1, turn⟩ := hl _ h
    have hlt : i < items.size := by omega
    have ht := turn i hlt
    obtain ⟨hp, g, d, tk, os⟩ := s
    wp_walk using wpAny_loadPart' hl1
    have hi1 : items[((i : Nat) : Int).toNat]? = some items[i] := by simp [hlt]
    have hc : ((i : Int) + 1) = ((i + 1 : Nat) : Int) := by omega
    rw [hi1]
    refine wpAny_bind (wpAny_mono ht (fun r s2 h2 => ?_) fun _ _ x => x)
    obtain ⟨hr, h2⟩ := h2
    subst hr
    cases hb : e i with
    | true =>
      have hR := fin true s2 ⟨fun _ => ⟨i, by omega, hb⟩, fun _ => rfl⟩ h2
      obtain ⟨hp2, g2, d2, tk2, os2⟩ := s2
      wp_walk
      exact hR
    | false =>
      have hrec := ih (i + 1) (by omega) (by omega) (fun j hj => by
        by_cases c : j = i
        · rw [c]; exact hb
        · exact hno j (by omega)) s2 h2
      obtain ⟨hp2, g2, d2, tk2, os2⟩ := s2
      wp_walk
      rw [hc]
      exact ⟨plainId_quiet plain_contains_loop _, codeAny_builtin entry_contains_loop (by
        rw [Around.under_plainId plain_contains_loop _]
        exact hrec)⟩
theorem list_inB (l : Addr) (x : Value) (e : Nat → Bool) (N : Nat) (I : Shared → Prop) (hl : InI prog w A (fun er s' => R (.error er) s') l x e N I)
    (fin : ∀ (b : Bool) s, (b = true ↔ ∃ j, j < N ∧ e j = true) → I s → R (.ok (.ret (.bool b))) s) {s : Shared} (h : I s) :
    wpAny (model prog w) A.in1 (Builtin.«list.__contains__» ⟨[.ref l, x], []⟩) (GQ.FinOf prog w A R) (fun er s' => R (.error er) s') s := by
  obtain ⟨items, n, hl1, hs1, _⟩ := hl _ h
  have hrec := in_loopB (A := A) (R := R) l x e N I hl fin _ 0 rfl (Nat.zero_le _) (fun j hj => by omega) s h
  obtain ⟨hp, g, d, tk, os⟩ := s
  wp_walk using wpAny_loadPart' hl1
  exact ⟨plainId_quiet plain_contains_loop _, codeAny_builtin entry_contains_loop (by
    rw [Around.under_plainId plain_contains_loop _]
    exact hrec)⟩
/-- the same of two lists -/
def EqI (prog : Program) (w : World) (A : Around) (E : Value → Shared → Prop) (l b : Addr) (e : Nat → Bool) (N : Nat) (I : Shared → Prop) : Prop :=
  ∀ s, I s → ∃ (items items2 : Array Value) (n n2 : Nat), s.heap.get? l = some { cls := .type "list", data := .seq items n } ∧ s.heap.get? b = some { cls := .type "list", data := .seq items2 n2 } ∧ items.size = N ∧ items2.size = N ∧
    ∀ (i : Nat) (h1 : i < items.size) (h2 : i < items2.size), wpAny (model prog w) A.in1 (eqBool items[i] items2[i]) (fun r s' => r = e i ∧ I s') E s
theorem eq_loopB (l b : Addr) (e : Nat → Bool) (N : Nat) (I : Shared → Prop) (hl : EqI prog w A (fun er s' => R (.error er) s') l b e N I)
    (fin : ∀ (r : Bool) s, (r = true ↔ ∀ j, j < N → e j = true) → I s → R (.ok (.ret (.bool r))) s) (k : Nat) :
    ∀ i : Nat, N - i = k → i ≤ N → (∀ j, j < i → e j = true) → ∀ s, I s →
      wpAny (model prog w) A.in1 (Builtin.«list.__eq__.loop» ⟨[.ref l, .ref b, rawInt i, rawInt 2], []⟩) (GQ.FinOf prog w A R) (fun er s' => R (.error er) s') s := by
  induction k with
  | zero =>
    intro i hk hi hyes s h
    obtain ⟨items, items2, n, n2, hl1, hb1, hs1, hs2, _⟩ := hl _ h
    have hR : R (.ok (.ret (.bool true))) s := fin true s ⟨fun _ j hj => hyes j (by omega), fun _ => rfl⟩ h
    obtain ⟨hp, g, d, tk, os⟩ := s
    wp_walk using wpAny_loadPart' hl1, wpAny_loadPart' hb1
    have hi1 : items[((i : Nat) : Int).toNat]? = none := by simp; omega
    have hi2 : items2[((i : Nat) : Int).toNat]? = none := by simp; omega
    rw [hi1, hi2]
    wp_walk using wpAny_loadPart' hl1, wpAny_loadPart' hb1
    show R (.ok (.ret (.bool (items.size == items2.size)))) _
    rw [hs1, hs2]
    simpa using hR
  | succ k ih =>
    intro i hk hi hyes s h
    obtain ⟨items, items2, n, n2, hl1, hb1, hs1, hs2, turn⟩ := hl _ h
    have hlt : i < items.size := by omega
    have hlt2 : i < items2.size := by omega
    have ht := turn i hlt hlt2
    obtain ⟨hp, g, d, tk, os⟩ := s
    wp_walk using wpAny_loadPart' hl1, wpAny_loadPart' hb1
    have hi1 : items[((i : Nat) : Int).toNat]? = some items[i] := by simp [hlt]
    have hi2 : items2[((i : Nat) : Int).toNat]? = some items2[i] := by simp [hlt2]
    have hc : ((i : Int) + 1) = ((i + 1 : Nat) : Int) := by omega
    rw [hi1, hi2]
    refine wpAny_bind (wpAny_mono ht (fun r s2 h2 => ?_) fun _ _ x => x)
    obtain ⟨hr, h2⟩ := h2
    subst hr
    cases he : e i with
    | false =>
      have hR := fin false s2 ⟨fun z => (by cases z), fun z => by rw [z i (by omega)] at he; cases he⟩ h2
      obtain ⟨items', items2', n', n2', hl1', hb1', hs1', hs2', _⟩ := hl _ h2
      obtain ⟨hp2, g2, d2, tk2, os2⟩ := s2
      wp_walk using wpAny_loadPart' hl1', wpAny_loadPart' hb1'
      have hlt' : i < items'.size := by omega
      have hlt2' : i < items2'.size := by omega
      have hi1' : items'[((i : Nat) : Int).toNat]? = some items'[i] := by simp [hlt']
      have hi2' : items2'[((i : Nat) : Int).toNat]? = some items2'[i] := by simp [hlt2']
      rw [hi1', hi2']
      wp_walk
      exact hR
    | true =>
      have hrec := ih (i + 1) (by omega) (by omega) (fun j hj => by
        by_cases c : j = i
        · rw [c]; exact he
        · exact hyes j (by omega)) s2 h2
      obtain ⟨hp2, g2, d2, tk2, os2⟩ := s2
      wp_walk
      rw [hc]
      exact ⟨plainId_quiet plain_eq_loop _, codeAny_builtin entry_eq_loop (by
        rw [Around.under_plainId plain_eq_loop _]
        exact hrec)⟩
theorem list_eqB (l b : Addr) (e : Nat → Bool) (N : Nat) (I : Shared → Prop) (hl : EqI prog w A (fun er s' => R (.error er) s') l b e N I)
    (fin : ∀ (r : Bool) s, (r = true ↔ ∀ j, j < N → e j = true) → I s → R (.ok (.ret (.bool r))) s) {s : Shared} (h : I s) :
    wpAny (model prog w) A.in1 (Builtin.«list.__eq__» ⟨[.ref l, .ref b], []⟩) (GQ.FinOf prog w A R) (fun er s' => R (.error er) s') s := by
  obtain ⟨items, items2, n, n2, hl1, hb1, hs1, hs2, _⟩ := hl _ h
  have hrec := eq_loopB (A := A) (R := R) l b e N I hl fin _ 0 rfl (Nat.zero_le _) (fun j hj => by omega) s h
  obtain ⟨hp, g, d, tk, os⟩ := s
  have f3 := AutoSeq1.sub_list_list
  have hne : ¬ (items.size != items2.size) = true := by simp [hs1, hs2]
  wp_walk using wpAny_loadPart' hl1, wpAny_loadPart' hb1
  exact ⟨plainId_quiet plain_eq_loop _, codeAny_builtin entry_eq_loop (by
    rw [Around.under_plainId plain_eq_loop _]
    exact hrec)⟩
end
section
variable {prog : Program} {w : World} {A : Around} {E : Value → Shared → Prop} {s : Shared}
theorem notIn_listB {l : Addr} {x : Value} {e : Nat → Bool} {N : Nat} {Q : Value → Shared → Prop} (I : Shared → Prop) (hl : InI prog w A E l x e N I)
    (fin : ∀ (b : Bool) s, (b = true ↔ ∃ j, j < N ∧ e j = true) → I s → Q (.bool (!b)) s) (h : I s) : wpAny (model prog w) A (compareOp .NotIn x (.ref l)) Q E s := by
  obtain ⟨items, n, hl1, hs1, _⟩ := hl _ h
  show wpAny _ A (do return .bool (!(← contains (.ref l) x))) Q E s
  refine wpAny_bind (wpAny_contains_slot ⟨_, hl1, rfl⟩ F.slot_list_contains (wpAny_mono (GQ.call_here F.slot_list_contains ⟨_, hl1, rfl⟩ F.entry_list_contains (F.args_list_contains_2 _ _)
    (list_inB (R := wants (fun v s' => ∃ b, v = .bool b ∧ Q (.bool (!b)) s') E) l x e N I hl (fun b s' hb hI => ⟨b, rfl, fin b s' hb hI⟩) h)) (fun v s' hv => ?_) fun _ _ e => e))
  obtain ⟨b, rfl, hq⟩ := hv
  exact wpAny_truthy_bool (wpAny_pure hq)
theorem rc_listB {l b : Addr} {e : Nat → Bool} {N : Nat} {Q : Value → Shared → Prop} (hu : A.units < cLine) (I : Shared → Prop) (hl : EqI prog w A E l b e N I)
    (fin : ∀ (r : Bool) s, (r = true ↔ ∀ j, j < N → e j = true) → I s → Q (.bool r) s) (h : I s) : wpAny (model prog w) A (richCompare .Eq (.ref l) (.ref b)) Q E s := by
  obtain ⟨items, items2, n, n2, hl1, hb1, _, _, _⟩ := hl _ h
  refine wpAny_richCompare_same_room (op := .Eq) ⟨_, hl1, rfl⟩ ⟨_, hb1, rfl⟩ F.slot_list_eq (GQ.call_here F.slot_list_eq ⟨_, hl1, rfl⟩ F.entry_list_eq (F.args_list_eq_2 _ _) ?_) hu
  exact list_eqB (R := wants (fun v s' => v ≠ .notImplemented ∧ Q v s') E) l b e N I hl (fun r s' hr q => ⟨(fun x => nomatch x), fin r s' hr q⟩) h
end
end Wk

set_option Elab.async false
set_option linter.all false
set_option maxRecDepth 100000
set_option maxHeartbeats 2000000
namespace Wk
open L2 PySem PySem.Spec PyProof.Rows
/-! an own == that tells True or False -/
abbrev EqvB := V → V → Bool → Hp → Prop
def MonB (D : EqvB) : Prop := ∀ x y z H H', Ext H H' → D x y z H → D x y z H'
def RcB (X : Cx) (n : Nat) (D : EqvB) : Prop :=
  ∀ (A : Around) (pins : List (Addr × Obj)) (s : Shared) (σ : L2.St) (H : Hp) (x y : V) (u v : Value) (z : Bool), Sub X n A → Inv X pins σ H s → RelV x u → RelV y v → D x y z H →
    wpAny (model X.prog X.w) A (richCompare .Eq u v) (fun r s' => r = .bool z ∧ ∃ H', Inv X pins σ H' s' ∧ Ext H H') X.xe s
def EqB (X : Cx) (n : Nat) (D : EqvB) : Prop :=
  ∀ (A : Around) (pins : List (Addr × Obj)) (s : Shared) (σ : L2.St) (H : Hp) (x y : V) (u v : Value) (z : Bool), Sub X n A → Inv X pins σ H s → RelV x u → RelV y v → D x y z H →
    wpAny (model X.prog X.w) A (eqBool u v) (fun r s' => r = z ∧ ∃ H', Inv X pins σ H' s' ∧ Ext H H') X.xe s
def DInsB (C : Addr) (R : Addr → Addr → Bool → Hp → Prop) : EqvB := fun x y z H => ∃ a b dx dy fs gs, x = .ref a ∧ y = .ref b ∧ H a = some (.ins C dx fs) ∧ H b = some (.ins C dy gs) ∧ R a b z H
def spEqB (R : Addr → Addr → Bool → Hp → Prop) : Sp := fun vs H Q _ => ∃ a b z, vs = [.ref a, .ref b] ∧ R a b z H ∧ ∀ H', Ext H H' → Q (.bl z) H'
section
variable {X : Cx} {n : Nat} {D : EqvB}
theorem rcB_ins {CX : CXT} {C f : Addr} {fd : FuncData} {ps : List Str} {R : Addr → Addr → Bool → Hp → Prop} {E : XK} (F : FnOk X.prog X.w X.K X.mg X.base CX n f fd ps (spEqB R))
    (hs : PySem.W.findIn X.K (.ref C) "__eq__" = some (some (.ref f))) (hf : PySem.W.isFn X.K (.ref f) = true) (hb : Binds X.K fd ps []) (hx : Passes CX X E) : RcB X n (DInsB C R) := by
  intro A pins s σ H x y u v z sb I rx ry d
  obtain ⟨a, b, dx, dy, fs, gs, rfl, rfl, ha, hb', hr⟩ := d
  cases rx
  cases ry
  obtain ⟨mA, J, _⟩ := ins_get I.hok ha
  obtain ⟨mB, J', _⟩ := ins_get I.hok hb'
  obtain ⟨od, J, _⟩ := J.look
  obtain ⟨od', J', _⟩ := J'.look
  obtain ⟨m, hF⟩ := I.fr
  refine PySem.W.cmp_K (op := .Eq) (tb := .ref C) sb.room.units0 hF I.ok.mod.kin J J'.type (by simp [PySem.W.notFirst]) hs hf ?_
  have hsp : spEqB R [.ref a, .ref b] H (fun v H' => v = .bl z ∧ Ext H H') E := ⟨a, b, z, rfl, hr, fun H' e => ⟨rfl, e⟩⟩
  have e0 : Env0 X.prog X.w X.K X.mg X.base A X.stack s H := by
    have e := I.env0
    exact ⟨by rw [sb.fr]; exact e.frames, e.mod, e.bs, e.bsz, e.funs, e.frf, e.hok, e.bare⟩
  have hl := F.len _ _ _ _ hsp
  have r2 : Vals [V.ref a, V.ref b] [Value.ref a, Value.ref b] := .cons rfl (.cons rfl .nil)
  refine wpAny_call (codeAny_mono (F.run A X.stack s H ⟨[.ref a, .ref b], []⟩ [.ref a, .ref b] [.ref a, .ref b] _ E sb.room e0 (by
    have := hb s [.ref a, .ref b] I.kIn (by simpa using hl)
    simpa using this) r2 hsp) fun r s' hq => ?_)
  cases r with
  | error e => exact hx pins σ H s e s' I hq
  | ok fl =>
    cases fl with
    | ret w =>
      obtain ⟨zz, H', I', rz, ez, ex⟩ := I.after hq
      subst ez
      cases rz
      exact ⟨rfl, H', I', ex⟩
    | next => exact False.elim hq
    | brk => exact False.elim hq
    | cont => exact False.elim hq
theorem RcB.eqB (h : RcB X n D) (hr : ∀ x y z H, D x y z H → ∃ a b, x = .ref a ∧ y = .ref b) (hs : ∀ a z H, D (.ref a) (.ref a) z H → z = true) : EqB X n D := by
  intro A pins s σ H x y u v z sb I rx ry d
  obtain ⟨a, b, rfl, rfl⟩ := hr _ _ _ _ d
  cases rx
  cases ry
  by_cases hab : a = b
  · subst hab
    rw [hs _ _ _ d]
    exact SeqAt.EqAt.same (A := A) (s := s) (.ref a) X.prog X.w X.xe _ ⟨rfl, H, I, Ext.rfl'⟩
  · refine GQ.eqBool_refG hab (wpAny_mono (h A pins s σ H (.ref a) (.ref b) _ _ z sb I rfl rfl d) (fun r s' q => ?_) fun _ _ x => x)
    obtain ⟨hr', q⟩ := q
    exact ⟨z, hr', rfl, q⟩
/-- x == y -/
def rEqB (D : EqvB) : R2 := fun x y H Q => ∃ z, D x y z H ∧ ∀ H', Ext H H' → Q (.bl z) H'
theorem op_eqB (h : RcB X n D) (hr : Room n X.A) : OpR X (compareOp .Eq) (rEqB D) := by
  intro pins s σ H x y v u Q I rx ry hq
  obtain ⟨z, d, q⟩ := hq
  show wpAny (model X.prog X.w) X.A (richCompare .Eq v u) (EP X pins σ Q) X.xe s
  refine wpAny_mono (h X.A pins s σ H x y v u z ⟨hr, rfl⟩ I rx ry d) (fun r s' zz => ?_) fun _ _ x => x
  obtain ⟨hr', H', I', e⟩ := zz
  subst hr'
  exact ⟨.bl z, H', I', rfl, q H' e⟩
/-- x not in [..] -/
def rNinB (D : EqvB) : R2 := fun x y H Q => ∃ l ys, ∃ e : Nat → Bool, y = .ref l ∧ H l = some (.lst ys) ∧ (∀ i yi, ys[i]? = some yi → D yi x (e i) H) ∧ ∀ (b : Bool) H', (b = true ↔ ∃ j, j < ys.length ∧ e j = true) → Ext H H' → Q (.bl (!b)) H'
theorem op_notInB (hD : MonB D) (h : EqB X n D) (hr : Room (n + 1) X.A) : OpR X (compareOp .NotIn) (rNinB D) := by
  intro pins s σ H x y v u Q I rx ry hq
  obtain ⟨l, ys, e, rfl, hl, he, q⟩ := hq
  cases ry
  have sb : Sub X (n + 1) X.A := ⟨hr, rfl⟩
  refine notIn_listB (N := ys.length) (e := e) (fun s' => LoopI X pins σ H s') (fun s' t => ?_) (fun b s' hb t => ?_) ⟨H, I, Ext.rfl'⟩
  · obtain ⟨H1, I1, e1⟩ := t
    obtain ⟨z, its, k, r, ei⟩ := I1.hok l _ (e1 _ _ hl)
    refine ⟨its.toArray, k, ei, by rw [List.size_toArray, ← r.length], fun i hi => ?_⟩
    have hi' : i < its.length := by simpa using hi
    have k1 : i < ys.length := by rw [r.length]; exact hi'
    obtain ⟨w, hw, rw'⟩ := r.get (List.getElem?_eq_getElem k1)
    have g1 : its[i]? = some its.toArray[i] := by rw [List.getElem?_eq_getElem hi'] <;> simp
    rw [g1] at hw
    rw [Option.some.inj hw]
    refine wpAny_mono (h _ pins s' σ H1 _ _ w v (e i) sb.in1 I1 rw' rx (hD _ _ _ _ _ e1 (he i _ (List.getElem?_eq_getElem k1)))) (fun r s2 q2 => ?_) fun _ _ x => x
    obtain ⟨hr', H2, I2, e2⟩ := q2
    exact ⟨hr', H2, I2, e1.trans e2⟩
  · obtain ⟨H1, I1, e1⟩ := t
    exact ⟨.bl (!b), H1, I1, rfl, q b H1 hb e1⟩
/-- [..] == [..] -/
def rEqLB (D : EqvB) : R2 := fun x y H Q => ∃ a b xs ys, ∃ e : Nat → Bool, x = .ref a ∧ y = .ref b ∧ H a = some (.lst xs) ∧ H b = some (.lst ys) ∧ xs.length = ys.length ∧ (∀ i xi yi, xs[i]? = some xi → ys[i]? = some yi → D xi yi (e i) H) ∧
  ∀ (r : Bool) H', (r = true ↔ ∀ j, j < xs.length → e j = true) → Ext H H' → Q (.bl r) H'
theorem op_eqLB (hD : MonB D) (h : EqB X n D) (hr : Room (n + 1) X.A) : OpR X (compareOp .Eq) (rEqLB D) := by
  intro pins s σ H x y v u Q I rx ry hq
  obtain ⟨a, b, xs, ys, e, rfl, rfl, ha, hb, hl, he, q⟩ := hq
  cases rx
  cases ry
  have sb : Sub X (n + 1) X.A := ⟨hr, rfl⟩
  show wpAny (model X.prog X.w) X.A (richCompare .Eq (.ref a) (.ref b)) (EP X pins σ Q) X.xe s
  refine rc_listB (N := xs.length) (e := e) hr.units0 (fun s' => LoopI X pins σ H s') (fun s' t => ?_) (fun r s' hb t => ?_) ⟨H, I, Ext.rfl'⟩
  · obtain ⟨H1, I1, e1⟩ := t
    obtain ⟨z, its, k, r, ei⟩ := I1.hok a _ (e1 _ _ ha)
    obtain ⟨z2, its2, k2, r2, ei2⟩ := I1.hok b _ (e1 _ _ hb)
    refine ⟨its.toArray, its2.toArray, k, k2, ei, ei2, by rw [List.size_toArray, ← r.length], by rw [List.size_toArray, ← r2.length, ← hl], fun i h1 h2 => ?_⟩
    have h1' : i < its.length := by simpa using h1
    have h2' : i < its2.length := by simpa using h2
    have k1 : i < xs.length := by rw [r.length]; exact h1'
    have k2 : i < ys.length := by rw [r2.length]; exact h2'
    obtain ⟨w, hw, rw'⟩ := r.get (List.getElem?_eq_getElem k1)
    obtain ⟨w2, hw2, rw2⟩ := r2.get (List.getElem?_eq_getElem k2)
    have g1 : its[i]? = some its.toArray[i] := by rw [List.getElem?_eq_getElem h1'] <;> simp
    have g2 : its2[i]? = some its2.toArray[i] := by rw [List.getElem?_eq_getElem h2'] <;> simp
    rw [g1] at hw
    rw [g2] at hw2
    rw [Option.some.inj hw, Option.some.inj hw2]
    refine wpAny_mono (h _ pins s' σ H1 _ _ w w2 (e i) sb.in1 I1 rw' rw2 (hD _ _ _ _ _ e1 (he i _ _ (List.getElem?_eq_getElem k1) (List.getElem?_eq_getElem k2)))) (fun r s2 q2 => ?_) fun _ _ x => x
    obtain ⟨hr', H2, I2, e2⟩ := q2
    exact ⟨hr', H2, I2, e1.trans e2⟩
  · obtain ⟨H1, I1, e1⟩ := t
    exact ⟨.bl r, H1, I1, rfl, q r H1 hb e1⟩
end
end Wk

set_option Elab.async false
set_option linter.all false
set_option maxRecDepth 100000
set_option maxHeartbeats 4000000
namespace Wk
open PySem PySem.Spec PySem.SeqAt PyProof.Rows L2 Evl
theorem call_isCK {X : Cx} {K : PySem.W.Frag} {C : Addr} (hK : X.K = K) (c : C8.InsC K C) : CallR X (.builtin "isinstance") (fun xs H Q => ∃ a dx fs, xs = [.ref a, .ref C] ∧ H a = some (.ins C dx fs) ∧ Q (.bl true) H) := by
  subst hK
  exact C8.call_isC c
theorem LnOk.flat {n : Nat} {kvs : List (List L2.Key × V)} (h : LnOk n kvs) : ∀ p ∈ kvs, flatV p.2 = true := fun p hp => by
  obtain ⟨_, _, _, rfl, _⟩ := h.it p hp
  rfl
theorem LnOk.eqv {n : Nat} {kvs : List (List L2.Key × V)} (h : LnOk n kvs) : ∀ p ∈ kvs, eqV p.2 p.2 = true := fun p hp => by
  obtain ⟨_, _, c, rfl, _⟩ := h.it p hp
  show ((c : Int) == (c : Int)) = true
  exact beq_self_eq_true _
theorem same_len {ks ls : List (List L2.Key × V)} (n1 : (ks.map (·.1)).Nodup) (n2 : (ls.map (·.1)).Nodup) (hv : ∀ k, valV ks k = valV ls k) : ks.length = ls.length := by
  have hm : ∀ k, k ∈ ks.map (·.1) ↔ k ∈ ls.map (·.1) := fun k => by
    constructor
    · intro h
      obtain ⟨v, hv'⟩ := val_some h
      rw [hv] at hv'
      exact List.mem_map.mpr ⟨_, val_mem hv', rfl⟩
    · intro h
      obtain ⟨v, hv'⟩ := val_some h
      rw [← hv] at hv'
      exact List.mem_map.mpr ⟨_, val_mem hv', rfl⟩
  have h1 := nd_le _ _ n1 fun k h => (hm k).mp h
  have h2 := nd_le _ _ n2 fun k h => (hm k).mpr h
  simp only [List.length_map] at h1 h2
  omega
section
variable {P : Program} {w : World} {K : PySem.W.Frag} {mg : Str → Option Value} {base : Heap} {f : Addr} {fd : FuncData} {CC CN CW CB : Addr}
/-! Costs == Costs -/
def RCs (CC : Addr) (a b : Addr) (z : Bool) (H : Hp) : Prop := ∃ (n m : Nat) (ks ls : List (List L2.Key × V)), Cst CC H a n ks ∧ Cst CC H b m ls ∧ (∀ p ∈ ks, flatV p.2 = true) ∧ (∀ p ∈ ls, flatV p.2 = true) ∧ z = (decide (n = m) && eqDT ks ls)
abbrev sCEq : Stmt := inClass (top 18) 1
theorem scCEq : FnScope ["self", "other"] ["self", "other"] (defScope sCEq) := ⟨rfl, rfl, rfl, by decide +kernel, rfl, by decide +kernel, by decide +kernel⟩
theorem ok_cEq (B : Bl mg) (X : CXc K CC) (ic : C8.InsC K CC) (g : mg "Costs" = some (.ref CC)) (F : FnM K "__eq__" "Costs.__eq__" sCEq f fd) : FnOk P w K mg base CX0 1 f fd ["self", "other"] (spEqB (RCs CC)) := by
  refine F.ok scCEq (fun vs H Q E h => ?_) (fun cdv A outer s H vs Q E hr h => ?_)
  · obtain ⟨a, b, z, rfl, _⟩ := h
    rfl
  · obtain ⟨a, b, z, rfl, ⟨n, m, ks, ls, hA, hB, fk, fl, rfl⟩, k⟩ := h
    have hu : (A.deeper (envOfC "Costs.__eq__" (defScope sCEq) s.heap.objs.size f cdv)).units + 1 < cLine := by have := hr.un; omega
    refine ⟨_, pss_one (ps_ret (pe_and (pe_callB (call_isCK (K := K) rfl ic) (by rfl) B.isi boot_isinstance (pa_cons (pv 1) (pa_cons (pe_glob (v := .ref CC) (by rfl) g rfl) pa_nil)))
      (pe_and (pe_cmpR op_eq (pe_fld (pv 0) rfl) (pe_fld (pv 1) rfl) (nomark _)) (pe_one (pe_cmpR (op_eqDT hu) (pe_fld (pv 0) rfl) (pe_fld (pv 1) rfl) (nomark _)))))), ?_⟩
    obtain ⟨dx, fs, D, i1, i2, i3, i4, i5⟩ := hA
    obtain ⟨dy, gs, D', j1, j2, j3, j4, j5⟩ := hB
    have c1 : Ev (tCB (fun xs H Q => ∃ a dx fs, xs = [.ref a, .ref CC] ∧ H a = some (.ins CC dx fs) ∧ Q (.bl true) H) (tCons (tVar 1) (tCons (tC (.ref CC)) tNil))) (start ["self", "other"] [V.ref a, .ref b]) H (.bl true) := fun H1 e Q1 q1 => ⟨.ref b, rfl, b, dy, gs, rfl, e _ _ j1, q1 H1 (Ex.refl _)⟩
    have c2 : Ev (tOp rEq (tFld K (tVar 0) "size") (tFld K (tVar 1) "size")) (start ["self", "other"] [V.ref a, .ref b]) H (.bl (decide (n = m))) := fun H1 e Q1 q1 => by
      refine ⟨.ref a, rfl, a, CC, dx, fs, .int (n : Int), rfl, e _ _ i1, X.cl, X.nS, i2, .ref b, rfl, b, CC, dy, gs, .int (m : Int), rfl, e _ _ j1, X.cl, X.nS, j2, rfl, ?_⟩
      have : decide (V.int (n : Int) = V.int (m : Int)) = decide (n = m) := decide_eq_decide.mpr ⟨fun z => by injection z with z; omega, fun z => by rw [z]⟩
      rw [this]
      exact q1 H1 (Ex.refl _)
    have c3 : Ev (tOp rEqDT (tFld K (tVar 0) "_lines") (tFld K (tVar 1) "_lines")) (start ["self", "other"] [V.ref a, .ref b]) H (.bl (eqDT ks ls)) := fun H1 e Q1 q1 =>
      ⟨.ref a, rfl, a, CC, dx, fs, .ref D, rfl, e _ _ i1, X.cl, X.nL, i3, .ref b, rfl, b, CC, dy, gs, .ref D', rfl, e _ _ j1, X.cl, X.nL, j3, D, D', ks, ls, rfl, rfl, e _ _ i5, e _ _ j5, fk, fl, q1 H1 (Ex.refl _)⟩
    exact s_ret (v := .bl (true && (decide (n = m) && eqDT ks ls))) (ev_andV c1 fun _ => ev_andV c2 fun _ => c3) k
def DCs (CC : Addr) : EqvB := DInsB CC (RCs CC)
theorem dc_of {H : Hp} {a b : Addr} {n m : Nat} {ks ls : List (List L2.Key × V)} (h1 : Cst CC H a n ks) (h2 : Cst CC H b m ls) (f1 : ∀ p ∈ ks, flatV p.2 = true) (f2 : ∀ p ∈ ls, flatV p.2 = true) : DCs CC (.ref a) (.ref b) (decide (n = m) && eqDT ks ls) H := by
  obtain ⟨dx, fs, D, i1, _⟩ := id h1
  obtain ⟨dy, gs, D', j1, _⟩ := id h2
  exact ⟨a, b, dx, dy, fs, gs, rfl, rfl, i1, j1, n, m, ks, ls, h1, h2, f1, f2, rfl⟩
structure MqC (P : Program) (w : World) (K : PySem.W.Frag) (mg : Str → Option Value) (base : Heap) (CC : Addr) : Prop where
  ex : ∃ (fE : Addr) (fd : FuncData), Meth K CC "__eq__" fE ∧ FnOk P w K mg base CX0 1 fE fd ["self", "other"] (spEqB (RCs CC)) ∧ Binds K fd ["self", "other"] []
theorem rc_DC {X : Cx} (M : MqC X.prog X.w X.K X.mg X.base CC) : RcB X 1 (DCs CC) := by
  obtain ⟨fE, fd, me, Fn, b⟩ := M.ex
  exact rcB_ins (E := E0) Fn me.at_ me.fn b pass0
end
end Wk

set_option Elab.async false
set_option linter.all false
set_option maxRecDepth 100000
set_option maxHeartbeats 4000000
namespace Wk
open PySem PySem.Spec PySem.SeqAt PyProof.Rows L2 Evl
/-! dict(d) of a dict whose keys are pairs of small numbers -/
section
variable {prog : Program} {w : World} {K : Type} [DecidableEq K] {knd : KeyKind prog w K} {A : Around} {E : Value → Shared → Prop} {s : Shared}
theorem h_call_dict {o : Addr} {more : List (List K × Addr × Value)} {Q : Value → Shared → Prop} (hu : A.units + 2 < cLine) (hoS : (o == sysModules) = false) (ho : s.heap.DictOfH (tupleKind knd) o more) (hsz : more.length ≤ sizeLine) (hty : ∀ x ∈ more, s.TypeIs (.ref x.2.1) "tuple") (hap : (more.map fun x => (tupleKind knd).hash x.1).Nodup)
    (h : ∀ h', h'.DictOfH (tupleKind knd) s.heap.objs.size more → Heap.SameBut s.heap.objs.size (s.heap.push { cls := .type "dict", data := .dict #[] }) h' → Q (.ref s.heap.objs.size) { s with heap := h' }) :
    wpAny (model prog w) A (call (.type "dict") [.ref o]) Q E s := by
  refine callType_codes (Q₁ := fun obj s₁ => obj = .ref s.heap.objs.size ∧ s₁ = { s with heap := s.heap.push { cls := .type "dict", data := .dict #[] } }) F.kt_called_dict (F.kt_typeCall_dict_1 _) F.entry_dict_init (kt_code_dict_new _ ⟨rfl, rfl⟩) ?_
  rintro obj s₁ ⟨rfl, rfl⟩
  have hnew : (s.heap.push { cls := .type "dict", data := .dict #[] }).DictOfH (tupleKind knd) s.heap.objs.size [] := Heap.DictOfH.new s.heap
  have ho' : (s.heap.push { cls := .type "dict", data := .dict #[] }).DictOfH (tupleKind knd) o more := by
    obtain ⟨oo, es, ep, h1, h2, h3, h4, h5, h6⟩ := ho
    exact ⟨oo, es, ep, Heap.get?_push_of_some _ h1, h2, h3, h4, fun x hx => tupleKind_stays.stays (fun b ob vs n e _ => Heap.get?_push_of_some _ e) (h5 x hx), h6⟩
  have hdo : s.heap.objs.size ≠ o := by
    obtain ⟨_, _, _, hg, _⟩ := ho
    exact fun e => absurd (Heap.lt_size hg) (by rw [e]; exact Nat.lt_irrefl _)
  have hty' : ∀ x ∈ more, ({ s with heap := s.heap.push { cls := .type "dict", data := .dict #[] } } : Shared).TypeIs (.ref x.2.1) "tuple" := fun x hx => by
    obtain ⟨ob, e1, e2⟩ := hty x hx
    exact ⟨ob, Heap.get?_push_of_some _ e1, e2⟩
  refine ⟨hnew.typeIs, F.args_dict_init_2 _ _, ?_⟩
  unfold Builtin.«dict.__init__»
  refine wpAny_bind ?_
  unfold Builtin.Dict.selfAndRest
  refine wpAny_bind (wpAny_notOrdered_dict hnew.typeIs ?_)
  show wpAny _ _ (pure (s.heap.objs.size, [Value.ref o])) _ _ _
  refine wpAny_pure ?_
  show wpAny _ _ (Builtin.Dict.updateFrom "dict.__init__" s.heap.objs.size (.ref o) [] .none) _ _ _
  unfold Builtin.Dict.updateFrom
  refine wpAny_bind (wpAny_typeOf ho'.typeIs ?_)
  rw [if_neg (by decide)]
  refine wpAny_bind ?_
  unfold Builtin.Dict.merge
  refine wpAny_bind ?_
  unfold Builtin.Dict.readDirectly
  refine wpAny_bind (wpAny_isInstance ho'.typeIs isSubtype_dict_dict ?_)
  simp only [Bool.not_true, Bool.false_eq_true, if_false]
  refine wpAny_bind (wpAny_specialOf ho'.typeIs F.slot_dict_iter.lookup (wpAny_pure ?_))
  simp only [beq_self_eq_true, if_true]
  refine wpAny_bind (wpAny_pure ?_)
  refine wpAny_mergeDict_heap (s := { s with heap := s.heap.push { cls := .type "dict", data := .dict #[] } }) (hsz := by simpa using hsz) (show A.in1.in1.units < cLine from hu) hdo hoS hnew ho' (.inr ⟨hty', hap⟩) fun h' hd' _ hs' => ?_
  show wpAny _ _ (Builtin.Dict.addKeywords s.heap.objs.size [] >>= _) _ _ _
  rw [storedAllH_nil_of_nodup more ho.nodup] at hd'
  exact wpAny_bind (wpAny_pure (wpAny_pure ⟨rfl, h h' hd' hs'⟩))
end
def hh2 (a b : Int) : Int := reduceHash (Builtin.Tuple.tupleHashOf [hashInt a, hashInt b])
theorem hh2_all : ((List.range 64).all fun i => (List.range 64).all fun j => i == j || !decide (hh2 ((i / 8 : Nat) : Int) ((i % 8 : Nat) : Int) = hh2 ((j / 8 : Nat) : Int) ((j % 8 : Nat) : Int))) = true := by decide +kernel
theorem hh2_inj (a : Nat) (ha : a < 8) (b : Nat) (hb : b < 8) (c : Nat) (hc : c < 8) (d : Nat) (hd : d < 8) (h : hh2 (a : Int) (b : Int) = hh2 (c : Int) (d : Int)) : a = c ∧ b = d := by
  have z := List.all_eq_true.mp (List.all_eq_true.mp hh2_all (a * 8 + b) (List.mem_range.mpr (by omega))) (c * 8 + d) (List.mem_range.mpr (by omega))
  rw [show (a * 8 + b) / 8 = a by omega, show (a * 8 + b) % 8 = b by omega, show (c * 8 + d) / 8 = c by omega, show (c * 8 + d) % 8 = d by omega, decide_eq_true h, Bool.not_true, Bool.or_false] at z
  have := eq_of_beq z
  omega
def Small (kvs : List (List L2.Key × V)) : Prop := ∀ kv ∈ kvs, ∃ a b : Nat, kv.1 = Lk a b ∧ a < 8 ∧ b < 8
theorem LnOk.small {n : Nat} {kvs : List (List L2.Key × V)} (h : LnOk n kvs) (hn : n ≤ 8) : Small kvs := fun kv hk => by
  obtain ⟨a, b, c, rfl, h1, h2, _⟩ := h.it kv hk
  exact ⟨a, b, rfl, by omega, by omega⟩
section
variable {X : Cx}
theorem apart_keys {P : Program} {w : World} {H : Hp} : ∀ {kvs : List (List L2.Key × V)} {xs : List (List L2.Key × Addr × Value)}, KT H kvs xs → Small kvs → (xs.map (·.1)).Nodup → (xs.map fun x => (tupleKind (mixKind P w)).hash x.1).Nodup := fun {kvs xs} r hs nd => by
  have hk : ∀ k ∈ xs.map (·.1), ∃ a b : Nat, k = Lk a b ∧ a < 8 ∧ b < 8 := fun k hk => by
    rw [← kt_keys r] at hk
    obtain ⟨kv, h1, rfl⟩ := List.mem_map.mp hk
    exact hs kv h1
  have e : (xs.map fun x => (tupleKind (mixKind P w)).hash x.1) = (xs.map (·.1)).map (tupleKind (mixKind P w)).hash := by rw [List.map_map]; rfl
  rw [e]
  revert nd hk
  generalize xs.map (·.1) = l
  induction l with
  | nil => intro _ _; exact List.nodup_nil
  | cons k l ih =>
    intro nd hk
    rw [List.nodup_cons] at nd
    rw [List.map_cons, List.nodup_cons]
    refine ⟨fun hm => ?_, ih nd.2 fun k' h => hk k' (List.mem_cons_of_mem _ h)⟩
    obtain ⟨k', h1, h2⟩ := List.mem_map.mp hm
    obtain ⟨a, b, rfl, ha, hb⟩ := hk k List.mem_cons_self
    obtain ⟨c, d, rfl, hc, hd⟩ := hk k' (List.mem_cons_of_mem _ h1)
    have h2 : hh2 (c : Nat) (d : Nat) = hh2 (a : Nat) (b : Nat) := h2
    obtain ⟨rfl, rfl⟩ := hh2_inj c hc d hd a ha b hb h2
    exact nd.1 h1
theorem call_dictT (hu : X.A.units + 2 < cLine) : CallR X (.type "dict") (fun xs H Q => ∃ (a : Addr) (kvs : List (List L2.Key × V)), xs = [.ref a] ∧ H a = some (.dT kvs) ∧ Small kvs ∧ ∀ p, H p = none → Q (.ref p) (upd H p (.dT kvs))) := by
  intro pins s σ H xs us Q I r q
  obtain ⟨a, kvs, rfl, ha, hs, q⟩ := q
  obtain ⟨u, rfl, rx⟩ := vals1 r
  cases rx
  obtain ⟨z, lo, xs, rel, dd⟩ := dt_of I.hok ha
  have nd := dd.nodup
  refine h_call_dict hu lo dd (by rw [← kt_len rel]; exact z) (fun x hx => ?_) (apart_keys rel hs nd) fun h' d' hs' => ?_
  · obtain ⟨_, _, _, _, _, _, _, his, _⟩ := dd
    exact tupleKind_stays.tuple (his x hx)
  have hm : (s.heap.objs.size == sysModules) = false := beq_eq_false_iff_ne.mpr (Nat.ne_of_gt I.big)
  have hf : H s.heap.objs.size = none := I.hok.fresh (Nat.le_refl _)
  obtain ⟨o, es, ep, g1, g2, g3, g4, g5, g6⟩ := d'
  exact ⟨.ref s.heap.objs.size, upd H s.heap.objs.size (.dT kvs), I.laid (t' := s.toks) (fun b u e => (hs'.2 b (Nat.ne_of_lt (Heap.lt_size e))).trans (Heap.get?_push_of_some _ e)) (Nat.le_refl _)
    (show ObjOk X.prog X.w _ _ _ (.dT kvs) from ⟨z, hm, xs, KT.keeps rel (fun b ys hb => by rw [upd_ne (ne_of_none hb hf)]; exact hb), o, es, ep, g1, g2, g3, g4, g6⟩), rfl, q _ hf⟩
end
end Wk

set_option Elab.async false
set_option linter.all false
set_option maxRecDepth 100000
set_option maxHeartbeats 4000000
namespace Wk
open PySem PySem.Spec PyProof.Rows L2 Evl
/-! an own error with the fields a, b -/
def spXL (C : Addr) : Sp := fun vs H Q _ => ∃ (a : Addr) (y z : V), vs = [.ref a, y, z] ∧ H a = some (exo a C none) ∧ ∀ dx, H dx = none → dx ≠ a → Q .non (upd (upd (upd H dx (exd dx [("a", y)])) a (exo a C (some dx))) dx (exd dx [("b", z), ("a", y)]))
theorem mk_errL {C : Addr} {te tf : TE} {σ : L2.St} {H : Hp} {y z : V} {W : XK} (h : Ev te σ H y) (h2 : Ev tf σ H z) (k : ∀ d H', H d = none → Ex H H' → H' d = some (.xd [("b", z), ("a", y)]) → W (.ref C) (some d) H') : tMkO C (spXL C) [] (tCons te (tCons tf tNil)) σ H W := by
  refine h H (Ex.refl H) _ fun H0 e0 => h2 H0 e0 _ fun H1 e1 => ⟨by show 2 ≤ 1000; decide, fun a ha => ?_⟩
  have e := e0.trans e1
  refine ⟨a, y, z, rfl, upd_same, fun dx hd hne => ⟨rfl, dx, [("b", z), ("a", y)], ?_, upd_same, ?_, ?_⟩⟩
  · rw [upd_ne (Ne.symm hne), upd_same]
  · rw [upd_ne hne] at hd
    exact hd
  · have hd1 : H1 dx = none := by rw [upd_ne hne] at hd; exact hd
    refine k dx _ (fresh_back e hd1) (fun b o hb => ?_) upd_same
    have hb1 := e b o hb
    have nb : b ≠ dx := ne_of_none hb1 hd1
    have na : b ≠ a := ne_of_none hb1 ha
    rw [upd_ne nb, del_ne na, upd_ne nb, upd_ne na, upd_ne nb, upd_ne na]
    exact hb1
structure ErrL (P : Program) (w : World) (K : PySem.W.Frag) (mg : Str → Option Value) (base : Heap) (x : Str) (C : Addr) : Prop where
  g : mg x = some (.ref C)
  oex : OexC K C
  xf : XfC K C
  nA : PySem.W.findIn K (.ref C) "a" = some none
  nB : PySem.W.findIn K (.ref C) "b" = some none
  te : PySem.W.exmOne K (.ref C) (.ref C) = some true
  ini : ∃ (fI : Addr) (fd : FuncData), PySem.W.findIn K (.ref C) "__init__" = some (some (.ref fI)) ∧ PySem.W.typeIn K (.ref fI) = some (.type "function") ∧ FnOk P w K mg base CX0 1 fI fd ["self", "a", "b"] (spXL C) ∧ Binds K fd ["self", "a", "b"] []
theorem pmk_errL {X : Cx} {x : Str} {C : Addr} {e e2 : Expr} {ta : TA} {p pos : Pos} (T : ErrL X.prog X.w X.K X.mg X.base x C) (hr : Room 2 X.A) (hg : Gl X x) (ha : PA X [e, e2] ta)
    (hdb : (x == ("__debug__" : Str)) = false := by decide) (he : starEach [e, e2] X.env = (false, eval e X.env) :: starEach [e2] X.env := by rfl) (hpl : (backTo pos (starEach [e2] X.env)).any (·.1) = false := by rfl) : PMk X (.Call (.Name x p) [e, e2] [] pos) (tMkO C (spXL C) [] ta) := by
  obtain ⟨fI, fd, h1, h2, h3, h4⟩ := T.ini
  exact pmk_oex T.oex h1 h2 h3 hr h4 .nil pass0 hg T.g ha hdb he hpl
theorem op_in_seqK {X : Cx} {K : PySem.W.Frag} (hK : X.K = K) : OpR X (compareOp .In) (rIn K false) := by
  subst hK
  exact op_in_seq
section
variable {P : Program} {w : World} {K : PySem.W.Frag} {mg : Str → Option Value} {base : Heap} {f : Addr} {fd : FuncData}
abbrev sErA : Stmt := inClass (top 4) 0
abbrev sErL : Stmt := inClass (top 5) 0
theorem scErA : FnScope ["self", "router"] ["self", "router"] (defScope sErA) := ⟨rfl, rfl, rfl, by decide +kernel, rfl, by decide +kernel, by decide +kernel⟩
theorem scErL : FnScope ["self", "a", "b"] ["self", "a", "b"] (defScope sErL) := ⟨rfl, rfl, rfl, by decide +kernel, rfl, by decide +kernel, by decide +kernel⟩
theorem ok_xa {C : Addr} (T : OexC K C) (no : PySem.W.findIn K (.ref C) "router" = some none) (F : FunD K "__init__" "BadAreas.__init__" (defArgs sErA) (defBody sErA) (defScope sErA) [] [] f fd) : FnOk P w K mg base CX0 1 f fd ["self", "router"] (spXF C "router") := by
  refine F.ok scErA (fun vs H Q E h => ?_) (fun cdv A outer s H vs Q E hr h => ?_)
  · obtain ⟨a, y, rfl, _⟩ := h
    rfl
  · obtain ⟨a, y, rfl, ha, k⟩ := h
    exact ⟨_, pss_one (ps_ost (pv 0) (pv 1)), y, rfl, .ref a, rfl, a, C, rfl, T, no, .inl ⟨ha, k⟩⟩
theorem ok_xl {C : Addr} (T : OexC K C) (nA : PySem.W.findIn K (.ref C) "a" = some none) (nB : PySem.W.findIn K (.ref C) "b" = some none) (F : FunD K "__init__" "BadLine.__init__" (defArgs sErL) (defBody sErL) (defScope sErL) [] [] f fd) : FnOk P w K mg base CX0 1 f fd ["self", "a", "b"] (spXL C) := by
  refine F.ok scErL (fun vs H Q E h => ?_) (fun cdv A outer s H vs Q E hr h => ?_)
  · obtain ⟨a, y, z, rfl, _⟩ := h
    rfl
  · obtain ⟨a, y, z, rfl, ha, k⟩ := h
    refine ⟨_, pss_cons (ps_ost (pv 0) (pv 1)) (pss_one (ps_ost (pv 0) (pv 2))), ?_⟩
    refine ⟨y, rfl, .ref a, rfl, a, C, rfl, T, nA, .inl ⟨ha, fun dx hd hne => ?_⟩⟩
    refine ⟨z, rfl, .ref a, rfl, a, C, rfl, T, nB, .inr ⟨dx, [("a", y)], upd_same, by rw [upd_ne hne, upd_same], (show 1 ≤ 900 by decide), k dx hd hne⟩⟩
/-! common -/
/-- a row of areas: ints -/
def aV (r : List Nat) : List V := r.map fun (i : Nat) => V.int (i : Int)
def cmn (r q : List Nat) : List Nat := r.filter fun i => decide (i ∈ q)
theorem inV_vI (i : Nat) : ∀ q : List Nat, inV (.int (i : Int)) (aV q) = decide (i ∈ q)
  | [] => by simp [inV, aV]
  | j :: q => by
    have ih := inV_vI i q
    unfold inV aV at ih ⊢
    rw [List.map_cons, List.any_cons, ih]
    show (((j : Int) == (i : Int)) || _) = _
    by_cases h : j = i
    · subst h; simp
    · have : ((j : Int) == (i : Int)) = false := beq_eq_false_iff_ne.mpr (by omega)
      rw [this, Bool.false_or]
      simp [Ne.symm h]
theorem given_fil (l : List Nat) (p : Nat → Bool) : ∀ k, k ≤ l.length → given k (fun i => p (l.getD i 0)) (fun i => .int ((l.getD i 0 : Nat) : Int)) = aV ((l.take k).filter p)
  | 0, _ => by rw [List.take_zero]; rfl
  | k + 1, h => by
    have ih := given_fil l p k (by omega)
    have hk : l[k]? = some (l.getD k 0) := by
      rw [List.getD_eq_getElem?_getD, List.getElem?_eq_getElem (by omega)]
      rfl
    rw [take_snoc hk, List.filter_append]
    unfold aV at ih ⊢
    cases hp : p (l.getD k 0) with
    | true =>
      rw [given_yes (f := fun i => p (l.getD i 0)) (v := fun i => .int ((l.getD i 0 : Nat) : Int)) hp, ih, List.filter_cons_of_pos hp, List.filter_nil, List.map_append]
      rfl
    | false =>
      rw [given_no (f := fun i => p (l.getD i 0)) (v := fun i => .int ((l.getD i 0 : Nat) : Int)) hp, ih, List.filter_cons_of_neg (by rw [hp]; decide)]
      simp
theorem aV_at {r : List Nat} {i : Nat} {x : V} (h : (aV r)[i]? = some x) : x = .int ((r.getD i 0 : Nat) : Int) := by
  unfold aV at h
  rw [List.getElem?_map] at h
  cases hq : r[i]? with
  | none => rw [hq] at h; cases h
  | some y =>
    rw [hq] at h
    rw [List.getD_eq_getElem?_getD, hq]
    exact (Option.some.inj h).symm
theorem aV_len (r : List Nat) : (aV r).length = r.length := by unfold aV; rw [List.length_map]
theorem aV_flat (r : List Nat) : (aV r).all flatV = true := by
  unfold aV
  rw [List.all_map, List.all_eq_true]
  intro x _
  rfl
def spCmn : Sp := fun vs H Q _ => ∃ (a b : Addr) (r q : List Nat), vs = [.ref a, .ref b] ∧ H a = some (.tup (aV r)) ∧ H b = some (.tup (aV q)) ∧ r.length ≤ 100 ∧ ∀ H' l, H l = none → Ex H H' → H' l = some (.lst (aV (cmn r q))) → Q (.ref l) H'
abbrev sCmn : Stmt := top 26
abbrev nCmn : List Str := ["one", "other", "area"]
theorem scCmn : FnScope nCmn ["one", "other"] (defScope sCmn) := ⟨rfl, rfl, rfl, by decide +kernel, rfl, by decide +kernel, by decide +kernel⟩
theorem ok_cmn (F : FnP K "common" sCmn f fd) : FnOk P w K mg base CX0 1 f fd ["one", "other"] spCmn := by
  refine F.ok scCmn (fun vs H Q E h => ?_) (fun cdv A outer s H vs Q E hr h => ?_)
  · obtain ⟨a, b, r, q, rfl, _⟩ := h
    rfl
  · obtain ⟨a, b, r, q, rfl, ha, hb, hl, k⟩ := h
    refine ⟨_, pss_one (ps_ret (pe_lc (own := [("area", 2)]) (g := gName 2) (tt := tTest (tOp (rIn K false) (tVar 2) (tVar 1))) rfl scCmn.nd (pi_tup (pv 0)) (blkOk_by (N := nCmn) (sc := defScope sCmn) (by decide +kernel))
      (fun _ _ _ _ _ => pg_name (i := 2) scCmn.nd rfl (.inl rfl)) (fun _ _ _ _ _ => pts_one (pt_cmpR (op_in_seqK (K := K) rfl) (pv 2) (pv 1) rfl)) (fun _ _ _ _ _ => pv 2))), ?_⟩
    refine el_lcT (K := K) (a := a) (xs := aV r) (tl := tVar 0) (j := 2) (vs := [2]) (fun i => decide (r.getD i 0 ∈ q)) (fun i => .int ((r.getD i 0 : Nat) : Int)) (ev_var rfl) (st_of ha) (by rw [aV_len]; omega) (fun _ => rfl) (fun i x H1 e1 hx => ?_) (fun i x H1 e1 hx _ => ?_) H (Ex.refl _) _ fun l H1 nl e1 hl1 => ?_
    · rw [aV_at hx]
      refine et_test fun H2 e2 Q2 q2 => ⟨_, rfl, .ref b, rfl, b, aV q, rfl, .inr (st_of ((e1.trans e2) _ _ hb)), rfl, aV_flat q, ?_⟩
      rw [inV_vI]
      exact q2 H2 (Ex.refl _)
    · rw [aV_at hx]
      exact ev_var rfl
    · rw [aV_len, given_fil r (fun i => decide (i ∈ q)) r.length (Nat.le_refl _), List.take_length] at hl1
      exact k H1 l nl e1 hl1
end
end Wk

set_option Elab.async false
set_option linter.all false
set_option maxRecDepth 100000
set_option maxHeartbeats 4000000
namespace Wk
open PySem PySem.Spec PyProof.Rows L2 Evl
theorem asc_iff {ns ms : List Int} (h1 : ms.Pairwise (· < ·)) (h2 : ∀ x, x ∈ ms ↔ x ∈ ns) : ns = ms ↔ ns.Pairwise (· < ·) := by
  constructor
  · intro e
    rw [e]
    exact h1
  · intro h
    have nd1 : ns.Nodup := h.imp fun z => by omega
    have nd2 : ms.Nodup := h1.imp fun z => by omega
    have p : ns.Perm ms := (List.perm_ext_iff_of_nodup nd1 nd2).mpr fun a => (h2 a).symm
    exact List.Perm.eq_of_pairwise (fun a b _ _ x y => by omega) h h1 p
def isA (d : PyData) : Bool := isI d && (decide ((0 : Int) ≤ valI d) && decide (valI d ≤ 5))
def isAr (d : PyData) : Bool := isTu d && ((itemsT d).all isA && (decide (0 < (itemsT d).length) && decide (((itemsT d).map valI).Pairwise (· < ·))))
theorem ints_ofA : ∀ {ds : List PyData}, ds.all isA = true → ds = (ds.map valI).map PyData.int
  | [], _ => rfl
  | d :: ds, h => by
    have h' : isA d = true ∧ ds.all isA = true := by simpa using h
    have h1 : isI d = true := (Bool.and_eq_true_iff.mp h'.1).1
    show d :: ds = .int (valI d) :: (ds.map valI).map PyData.int
    rw [← ints_ofA h'.2, ← isI_eq h1]
theorem shaped_li (ns : List Int) : SeqAt.shaped (.list (ns.map PyData.int)) = true := by
  unfold SeqAt.shaped
  have h1 := lay_ints ns
  have h2 := depth_ints ns
  simp [PyData.canLay0, PyData.depth, h1, h2]
section
variable {P : Program} {w : World} {K : PySem.W.Frag} {mg : Str → Option Value} {base : Heap} {f : Addr} {fd : FuncData} {CA : Addr}
/-! is_area_tuple -/
abbrev spIAT : Sp := spP fun H vs z => ∃ (v : V) (d : PyData), vs = [v] ∧ Dq H v d ∧ (itemsT d).length ≤ 60 ∧ z = .bl (isAr d)
abbrev sIAT : Stmt := top 25
abbrev nIAT : List Str := ["thing", "item"]
theorem scIAT : FnScope nIAT ["thing"] (defScope sIAT) := ⟨rfl, rfl, rfl, by decide +kernel, rfl, by decide +kernel, by decide +kernel⟩
theorem ok_iat (B : Bl mg) (hso : mg "sorted" = none) {t1 : Tok} (hM : mg "LAST_AREA" = some (.int 5 t1)) (CB : Cal P w K mg base "is_between" ["least", "most", "thing"] 2 spBetween) (F : FnP K "is_area_tuple" sIAT f fd) : FnOk P w K mg base CX0 3 f fd ["thing"] spIAT := by
  refine F.ok scIAT (fun vs H Q E h => ?_) (fun cdv A outer s H vs Q E hr h => ?_)
  · obtain ⟨z, ⟨v, d, rfl, _⟩, _⟩ := h
    rfl
  · obtain ⟨z, ⟨v, d, rfl, hd, hl, rfl⟩, k⟩ := h
    have hu0 : (A.deeper (envOfC "is_area_tuple" (defScope sIAT) s.heap.objs.size f cdv)).units + 64 < cLine := by have := hr.un; omega
    refine ⟨_, pss_cons (ps_if (PW.pt (pw_or (pt_not (pt_val (pe_callB call_isi (by rfl) B.isi boot_isinstance (pa_cons (pv 0) (pa_cons (pe_bltn (v := .ty "tuple") (by rfl) B.tuple PyProof.Rows.boot_tuple rfl) pa_nil)))))
        (pw_or1 (pt_not (pt_val (pe_callB (cr_all rfl) (by rfl) B.all boot_all (pa_cons (pe_lc (own := [("item", 1)]) (g := gName 1) (tt := tYes) (te := tCall spBetween [] E0 (tCons (tC (.int 0)) (tCons (tC (.int 5)) (tCons (tVar 1) tNil)))) rfl scIAT.nd (pi_tup (pv 0)) (blkOk_by (N := nIAT) (sc := defScope sIAT) (by decide +kernel))
          (fun _ _ _ _ _ => pg_name (i := 1) scIAT.nd rfl (Or.inl rfl)) (fun _ _ _ _ _ => pts_nil) (fun _ _ _ _ _ => pe_cal CB hr (by rfl) (pa_cons pe_int (pa_cons (pe_glob (v := .int 5) (by rfl) hM ⟨_, rfl⟩) (pa_cons (pv 1) pa_nil))))) pa_nil))))))) (pss_one (ps_ret pe_bl)) pss_nil)
      (pss_one (ps_ret (pe_and (pe_cmpR op_gt (pe_callB call_len_seq (by rfl) B.len PySem.boot_len (pa_cons (pv 0) pa_nil)) pe_int (nomark _))
        (pe_one (pe_cmpR (op_eqD hu0) (pe_callTy (call_listK2 (K := K) rfl) (by rfl) B.list PyProof.Rows.boot_list (pa_cons (pv 0) pa_nil)) (pe_callB (cr_sortedSet rfl) (by rfl) hso PyProof.Rows.boot_sorted (pa_cons (pe_callTy (cr_setOfU rfl) (by rfl) B.set PyProof.Rows.boot_set (pa_cons (pv 0) pa_nil)) pa_nil)) (nomark _)))))), ?_⟩
    have v0 : ∀ {H1 : Hp}, Ev (tVar 0) (start nIAT [v]) H1 v := ev_var rfl
    cases htu : isTu d with
    | false =>
      have ez : isAr d = false := by unfold isAr; rw [htu]; rfl
      rw [ez] at k
      exact q_when (b := true || true) (et_or (et_is (et_not (et_B (ev_isi v0 hd (kit_tup d)))) (by rw [htu]; rfl)) fun z => by cases z) (fun _ H1 e1 => s_ret ev_c fun H2 e2 => k H2 (e1.trans e2)) (fun z => by cases z)
    | true =>
      obtain ⟨a, xs, ds, rfl, rfl, ha, hxs⟩ := tu_inv hd htu
      have hl : ds.length ≤ 60 := hl
      have hxl := hxs.length
      have qa := ev_allT (K := K) (H := H) (j := 1) (vs := [1]) (σ := start nIAT [.ref a]) (te := tCall spBetween [] E0 (tCons (tC (.int 0)) (tCons (tC (.int 5)) (tCons (tVar 1) tNil)))) (fun i => ((ds[i]?).map isA).getD false) v0 (st_of ha) (by omega) (fun x => rfl)
        (fun i x H1 e1 hx => by
          obtain ⟨e, he, hv⟩ := hxs.get hx
          rw [he]
          exact ev_call (ea_cons ev_c (ea_cons ev_c (ea_cons (ev_var rfl) ea_nil))) (spP_v fun H2 e2 => ⟨0, 5, x, e, rfl, hv.mono (e1.trans e2), rfl⟩))
      rw [hxl, all_get] at qa
      refine q_when (b := false || !ds.all isA) (et_or (et_is (et_not (et_B (ev_isi v0 hd (kit_tup _)))) (by rw [htu]; rfl)) fun _ => et_not (et_B qa)) (fun hb H1 e1 => s_ret ev_c fun H2 e2 => ?_) (fun hb H1 e1 => ?_)
      · have hb' : ds.all isA = false := by simpa using hb
        have ez : isAr (.tuple ds) = false := by
          show (true && (ds.all isA && _)) = false
          rw [hb']
          rfl
        rw [ez] at k
        exact k H2 (e1.trans e2)
      have hall : ds.all isA = true := by simpa using hb
      have ees := ints_ofA hall
      have exs : xs = (ds.map valI).map V.int := by rw [ees] at hxs; exact hxs.int_inv
      have ez : isAr (.tuple ds) = (decide (0 < ds.length) && decide ((ds.map valI).Pairwise (· < ·))) := by
        show (true && (ds.all isA && _)) = _
        rw [hall]
        rfl
      rw [ez] at k
      have hnl : (ds.map valI).length = ds.length := List.length_map _
      generalize ds.map valI = ns at *
      subst exs
      have ha1 := e1 _ _ ha
      refine s_ret (v := .bl (decide (0 < ds.length) && decide (ns.Pairwise (· < ·)))) (ev_andV (a := decide (0 < ds.length)) ?_ fun _ => ?_) fun H2 e2 => k H2 (e1.trans e2)
      · have z := ev_op (r := rI0 fun i j => .bl (decide (j < i))) (ev_lenT (K := K) (ta := tVar 0) (σ := start nIAT [.ref a]) (H := H1) v0 (st_of ha1)) (ev_c (v := .int 0)) rv_I0
        rw [hxl] at z
        have e : decide ((0 : Int) < ((ds.length : Nat) : Int)) = decide (0 < ds.length) := decide_eq_decide.mpr (by omega)
        rw [e] at z
        exact z
      · intro H3 e3 Q3 q3
        have ha3 := e3 _ _ ha1
        refine ⟨.ref a, rfl, a, _, rfl, .inr (st_of ha3), fun c hc => ?_⟩
        have ec := Ex.new (o := .lst (ns.map V.int)) hc
        refine el_sortSetU (K := K) (w := w) (ns := ns) (a := a) v0 (ec _ _ ha3) (by omega) fun ms p H4 hpw hm hp e4 hp4 => ?_
        refine ⟨.list (ns.map PyData.int), .list (ms.map PyData.int), Dq.dp (SeqAt.canLay_of_shaped (shaped_li ns)) (.lst (e4 _ _ upd_same) (DqA.ints _)), Dq.dp (SeqAt.canLay_of_shaped (shaped_li ms)) (.lst hp4 (DqA.ints _)), shaped_li _, shaped_li _, ?_⟩
        have e5 : PyData.eqv (.list (ns.map PyData.int)) (.list (ms.map PyData.int)) = decide (ns.Pairwise (· < ·)) := by
          show PyData.eqvAll _ _ = _
          rw [eqv_ints, decide_eq_decide]
          exact asc_iff hpw hm
        rw [e5]
        exact q3 _ (ec.trans e4)
/-! refuse_wrong_areas -/
def firstA : Nat → List PyData → Option Int
  | _, [] => none
  | i, d :: ds => if isAr d = true then firstA (i + 1) ds else some (i : Int)
def faultA (n : Nat) (d : PyData) : Option Int := if (isTu d && decide (V.int ((itemsT d).length : Int) = V.int (n : Int))) = true then firstA 0 (itemsT d) else some (-1)
def spRWA (CA : Addr) : Sp := fun vs H Q E => ∃ (n : Nat) (v : V) (d : PyData), vs = [.int (n : Int), v] ∧ Dq H v d ∧ (itemsT d).length ≤ 60 ∧ (∀ x ∈ itemsT d, (itemsT x).length ≤ 60) ∧ (faultA n d = none → ∀ H', Ex H H' → Q .non H') ∧
  ∀ i, faultA n d = some i → ∀ dx H', H dx = none → Ex H H' → H' dx = some (.xd [("router", .int i)]) → E (.ref CA) (some dx) H'
abbrev sRWA : Stmt := top 24
abbrev nRWA : List Str := ["size", "areas", "router", "item"]
theorem scRWA : FnScope nRWA ["size", "areas"] (defScope sRWA) := ⟨rfl, rfl, rfl, by decide +kernel, rfl, by decide +kernel, by decide +kernel⟩
theorem ok_rwa (B : Bl mg) (T : ErrF P w K mg base "BadAreas" CA "router") (CT : Cal P w K mg base "is_tuple_of" ["many", "thing"] 1 spTupOf2) (CI : Cal P w K mg base "is_area_tuple" ["thing"] 3 spIAT) (F : FnP K "refuse_wrong_areas" sRWA f fd) : FnOk P w K mg base (L2.CX P w) 4 f fd ["size", "areas"] (spRWA CA) := by
  refine F.ok scRWA (fun vs H Q E h => ?_) (fun cdv A outer s H vs Q E hr h => ?_)
  · obtain ⟨n, v, d, rfl, _⟩ := h
    rfl
  · obtain ⟨n, v, d, rfl, hd, hl, hls, kQ, kE⟩ := h
    have hr2 : Room 2 _ := hr.mono (by decide)
    refine ⟨_, pss_cons (ps_if (pt_not (pt_val (pe_cal CT hr (by rfl) (pa_cons (pv 0) (pa_cons (pv 1) pa_nil))))) (pss_one (ps_raise rfl (takes_of rfl rfl rfl rfl) (pmk_errF T hr2 (by rfl) (pa_cons (pe_un un_neg pe_int) pa_nil)))) pss_nil)
      (pss_one (ps_for (passes_of rfl) rfl (pi_enumT (by rfl) B.enum (pa_cons (pv 1) pa_nil)) (pg_tup rfl (pgs_cons (pg_name (i := 2) scRWA.nd rfl (.inl rfl)) (pgs_cons (pg_name (i := 3) scRWA.nd rfl (.inl rfl)) pgs_nil)))
        (pss_one (ps_if (pt_not (pt_val (pe_cal CI hr (by rfl) (pa_cons (pv 3) pa_nil)))) (pss_one (ps_raise rfl (takes_of rfl rfl rfl rfl) (pmk_errF T hr2 (by rfl) (pa_cons (pv 2) pa_nil)))) pss_nil)))), ?_⟩
    have c1 : Ev (tCall spTupOf2 [] E0 (tCons (tVar 0) (tCons (tVar 1) tNil))) (start nRWA [.int (n : Int), v]) H (.bl (isTu d && decide (V.int ((itemsT d).length : Int) = V.int (n : Int)))) := ev_call (ea_cons (ev_var rfl) (ea_cons (ev_var rfl) ea_nil)) (spP_v fun H1 e => ⟨(n : Int), v, d, rfl, hd.mono e, rfl⟩)
    cases hz : isTu d && decide (V.int ((itemsT d).length : Int) = V.int (n : Int)) with
    | false =>
      rw [hz] at c1
      exact q_when (b := !false) (et_not (et_B c1)) (fun _ H1 e1 => mk_errF (ev_un ev_c ru_neg) fun dx H' h0 e' hx => kE (-1) (by unfold faultA; rw [hz]; rfl) dx H' (fresh_back e1 h0) (e1.trans e') hx) fun z => by cases z
    | true =>
      rw [hz] at c1
      have hf : faultA n d = firstA 0 (itemsT d) := by unfold faultA; rw [hz]; rfl
      obtain ⟨a, xs, ds, rfl, rfl, ha, hxs⟩ := tu_inv hd (Bool.and_eq_true_iff.mp hz).1
      have hf : faultA n (.tuple ds) = firstA 0 ds := hf
      have hls : ∀ x ∈ ds, (itemsT x).length ≤ 60 := hls
      refine q_when (b := !true) (et_not (et_B c1)) (fun z => by cases z) fun _ H1 e1 => ?_
      refine s_forEn (K := K) (a := a) (xs := xs) (ev_var rfl) (st_of (e1 _ _ ha)) (fun i σ' H' => ∃ o1 o2, σ' = [some (.int (n : Int)), some (.ref a), o1, o2] ∧ Ex H H' ∧ firstA 0 ds = firstA i (ds.drop i)) (fun H2 e2 => ⟨_, _, rfl, e1.trans e2, by rw [List.drop_zero]⟩) (fun i σ' H' _ ⟨_, _, _, e2, _⟩ => st_of (e2 _ _ ha)) (fun i y T0 σ' H' hy hp hT0 => ?_) (fun σ' H' hp => ?_)
      · obtain ⟨o1, o2, rfl, e2, hfi⟩ := hp
        have eT := Ex.new (o := .tup [.int (i : Nat), y]) hT0
        have hTT : (upd H' T0 (.tup [.int (i : Nat), y])) T0 = some (.tup [.int (i : Nat), y]) := upd_same
        generalize upd H' T0 (.tup [.int (i : Nat), y]) = H4 at *
        have e4 := e2.trans eT
        obtain ⟨dy, hdy, hvy⟩ := hxs.get hy
        have hil : i < ds.length := (List.getElem?_eq_some_iff.mp hdy).1
        rw [List.drop_eq_getElem_cons hil, Option.some.inj ((List.getElem?_eq_getElem hil).symm.trans hdy)] at hfi
        refine ⟨T0, _, rfl, st_of hTT, rfl, g_two ?_⟩
        change tIfS _ _ _ _ [some (.int (n : Int)), some (.ref a), some (.int (i : Nat)), some y] H4
        have c2 : Ev (tCall spIAT [] E0 (tCons (tVar 3) tNil)) [some (.int (n : Int)), some (.ref a), some (.int (i : Nat)), some y] H4 (.bl (isAr dy)) := ev_call (ea_cons (ev_var rfl) ea_nil) (spP_v fun H5 e5 => ⟨y, dy, rfl, hvy.mono (e4.trans e5), hls dy (List.mem_of_getElem? hdy), rfl⟩)
        refine s_when (b := !isAr dy) (et_not (et_B c2)) (fun hb H5 e5 => ?_) fun hb H5 e5 => ?_
        · have hb' : isAr dy = false := by simpa using hb
          exact mk_errF (ev_var rfl) fun dx H' h0 e' hx => kE (i : Int) (by rw [hf, hfi]; unfold firstA; rw [hb']; rfl) dx H' (fresh_back (e4.trans e5) h0) ((e4.trans e5).trans e') hx
        · have hb' : isAr dy = true := by simpa using hb
          refine ⟨_, _, rfl, e4.trans e5, ?_⟩
          rw [hfi]
          conv => lhs; unfold firstA
          rw [hb', if_pos rfl]
      · obtain ⟨_, _, rfl, e2, hfi⟩ := hp
        rw [List.drop_of_length_le (by have := hxs.length; omega)] at hfi
        exact kQ (by rw [hf, hfi]; rfl) H' e2
end
end Wk

set_option Elab.async false
set_option linter.all false
set_option maxRecDepth 100000
set_option maxHeartbeats 4000000
namespace Wk
open PySem PySem.Spec PyProof.Rows L2 Evl
/-! rows of areas as data -/
def nD (i : Nat) : PyData := .int (i : Int)
def aD (r : List Nat) : PyData := .tuple (r.map nD)
def dR (rs : List (List Nat)) : PyData := .tuple (rs.map aD)
def ArOk (r : List Nat) : Prop := r ≠ [] ∧ (∀ i ∈ r, i ≤ 5) ∧ r.Pairwise (· < ·)
theorem asc6_len : ∀ {r : List Nat} {a : Nat}, r.Pairwise (· < ·) → (∀ i ∈ r, a ≤ i ∧ i ≤ 5) → r.length + a ≤ 6 ∨ r = []
  | [], _, _, _ => .inr rfl
  | x :: r, a, h, hb => by
    obtain ⟨h1, h2⟩ := List.pairwise_cons.mp h
    have hx := hb x List.mem_cons_self
    rcases asc6_len (a := x + 1) h2 (fun i hi => ⟨h1 i hi, (hb i (List.mem_cons_of_mem _ hi)).2⟩) with z | z
    · exact .inl (by simp only [List.length_cons]; omega)
    · rw [z]
      exact .inl (by simp only [List.length_cons, List.length_nil]; omega)
theorem ArOk.len {r : List Nat} (h : ArOk r) : r.length ≤ 6 := by
  rcases asc6_len (a := 0) h.2.2 (fun i hi => ⟨Nat.zero_le _, h.2.1 i hi⟩) with z | z
  · omega
  · rw [z]; exact Nat.zero_le _
theorem isTu_inv {d : PyData} (h : isTu d = true) : ∃ ds, d = .tuple ds := by
  cases d <;> first | (cases h; done) | exact ⟨_, rfl⟩
theorem dqa_aV {H : Hp} : ∀ {r : List Nat}, DqA H (aV r) (r.map nD)
  | [] => .nil
  | i :: r => .cons (.int _) (dqa_aV (r := r))
theorem dqa_nD {H : Hp} : ∀ {r : List Nat} {us : List V}, DqA H us (r.map nD) → us = aV r
  | [], _, .nil => rfl
  | i :: r, _, .cons h t => by
    cases h
    rw [dqa_nD t]
    rfl
theorem vals_nD (r : List Nat) : (r.map nD).map valI = r.map fun i : Nat => (i : Int) := by
  rw [List.map_map]
  rfl
theorem pw_nat {r : List Nat} : (r.map fun i : Nat => (i : Int)).Pairwise (· < ·) ↔ r.Pairwise (· < ·) := by
  rw [List.pairwise_map]
  constructor <;> intro h <;> exact h.imp fun z => by omega
theorem isAr_inv {d : PyData} (h : isAr d = true) : ∃ r : List Nat, d = aD r ∧ ArOk r := by
  obtain ⟨h1, h⟩ := Bool.and_eq_true_iff.mp h
  obtain ⟨h2, h⟩ := Bool.and_eq_true_iff.mp h
  obtain ⟨h3, h4⟩ := Bool.and_eq_true_iff.mp h
  obtain ⟨ds, rfl⟩ := isTu_inv h1
  have h2 : ds.all isA = true := h2
  have h3 : 0 < ds.length := of_decide_eq_true h3
  have h4 : (ds.map valI).Pairwise (· < ·) := of_decide_eq_true h4
  have e : ds = (ds.map fun d => (valI d).toNat).map nD := by
    rw [List.map_map]
    conv => lhs; rw [← List.map_id ds]
    refine List.map_congr_left fun d hd => ?_
    obtain ⟨g1, g2⟩ := Bool.and_eq_true_iff.mp (List.all_eq_true.mp h2 d hd)
    obtain ⟨g2, g3⟩ := Bool.and_eq_true_iff.mp g2
    have g2 := of_decide_eq_true g2
    show d = PyData.int (((valI d).toNat : Nat) : Int)
    rw [Int.toNat_of_nonneg g2]
    exact isI_eq g1
  refine ⟨ds.map fun d => (valI d).toNat, congrArg PyData.tuple e, fun z => ?_, fun i hi => ?_, ?_⟩
  · have := congrArg List.length z
    simp at this
    rw [this] at h3
    simp at h3
  · obtain ⟨d, hd, rfl⟩ := List.mem_map.mp hi
    obtain ⟨_, g2⟩ := Bool.and_eq_true_iff.mp (List.all_eq_true.mp h2 d hd)
    have := of_decide_eq_true (Bool.and_eq_true_iff.mp g2).2
    omega
  · rw [e, vals_nD] at h4
    exact pw_nat.mp h4
theorem isAr_aD {r : List Nat} (h : ArOk r) : isAr (aD r) = true := by
  obtain ⟨h1, h2, h3⟩ := h
  unfold isAr
  refine Bool.and_eq_true_iff.mpr ⟨rfl, Bool.and_eq_true_iff.mpr ⟨?_, Bool.and_eq_true_iff.mpr ⟨?_, ?_⟩⟩⟩
  · show (r.map nD).all isA = true
    rw [List.all_map, List.all_eq_true]
    intro i hi
    have := h2 i hi
    show (true && (decide ((0 : Int) ≤ (i : Int)) && decide ((i : Int) ≤ 5))) = true
    rw [decide_eq_true (by omega), decide_eq_true (by omega)]
    rfl
  · show decide (0 < (r.map nD).length) = true
    rw [List.length_map]
    cases r with
    | nil => exact absurd rfl h1
    | cons a b => exact decide_eq_true (by simp)
  · show decide (((r.map nD).map valI).Pairwise (· < ·)) = true
    rw [vals_nD]
    exact decide_eq_true (pw_nat.mpr h3)
theorem first_none : ∀ {ds : List PyData} {i : Nat}, firstA i ds = none ↔ ∀ d ∈ ds, isAr d = true
  | [], _ => ⟨fun _ d h => (by cases h), fun _ => rfl⟩
  | d :: ds, i => by
    unfold firstA
    by_cases h : isAr d = true
    · rw [if_pos h, first_none (ds := ds)]
      constructor
      · intro g x hx
        rcases List.mem_cons.mp hx with z | z
        · rw [z]; exact h
        · exact g x z
      · intro g x hx
        exact g x (List.mem_cons_of_mem _ hx)
    · rw [if_neg h]
      constructor
      · intro z
        cases z
      · intro g
        exact absurd (g d List.mem_cons_self) h
theorem rows_inv : ∀ {ds : List PyData}, (∀ d ∈ ds, isAr d = true) → ∃ rs : List (List Nat), ds = rs.map aD ∧ ∀ r ∈ rs, ArOk r
  | [], _ => ⟨[], rfl, fun r h => (by cases h)⟩
  | d :: ds, h => by
    obtain ⟨r, e, hr⟩ := isAr_inv (h d List.mem_cons_self)
    obtain ⟨rs, e2, hrs⟩ := rows_inv fun x hx => h x (List.mem_cons_of_mem _ hx)
    refine ⟨r :: rs, by rw [e, e2]; rfl, fun x hx => ?_⟩
    rcases List.mem_cons.mp hx with z | z
    · rw [z]; exact hr
    · exact hrs x z
theorem fault_none {n : Nat} {d : PyData} (h : faultA n d = none) : ∃ rs, d = dR rs ∧ rs.length = n ∧ ∀ r ∈ rs, ArOk r := by
  unfold faultA at h
  by_cases c : (isTu d && decide (V.int ((itemsT d).length : Int) = V.int (n : Int))) = true
  · rw [if_pos c] at h
    obtain ⟨c1, c2⟩ := Bool.and_eq_true_iff.mp c
    have c2 := of_decide_eq_true c2
    obtain ⟨ds, rfl⟩ := isTu_inv c1
    obtain ⟨rs, e, hrs⟩ := rows_inv (first_none.mp h)
    have e : ds = rs.map aD := e
    injection c2 with c2
    have c2 : (ds.length : Int) = (n : Int) := c2
    rw [e, List.length_map] at c2
    exact ⟨rs, by rw [e]; rfl, by omega, hrs⟩
  · rw [if_neg c] at h
    cases h
theorem fault_dR {n : Nat} {rs : List (List Nat)} (h1 : rs.length = n) (h2 : ∀ r ∈ rs, ArOk r) : faultA n (dR rs) = none := by
  unfold faultA
  have e : (isTu (dR rs) && decide (V.int ((itemsT (dR rs)).length : Int) = V.int (n : Int))) = true := by
    show (true && decide (V.int ((rs.map aD).length : Int) = V.int (n : Int))) = true
    rw [List.length_map, h1, decide_eq_true rfl]
    rfl
  rw [if_pos e]
  refine first_none.mpr fun d hd => ?_
  obtain ⟨r, hr, rfl⟩ := List.mem_map.mp (show d ∈ rs.map aD from hd)
  exact isAr_aD (h2 r hr)
/-- rows in the heap -/
def RwA (H : Hp) (us : List V) (rs : List (List Nat)) : Prop := us.length = rs.length ∧ ∀ (i : Nat) (v : V), us[i]? = some v → ∃ b, v = .ref b ∧ H b = some (.tup (aV (rs.getD i [])))
theorem RwA.mono {H H' : Hp} {us : List V} {rs : List (List Nat)} (e : Ex H H') (h : RwA H us rs) : RwA H' us rs := ⟨h.1, fun i v hv => by
  obtain ⟨b, h1, h2⟩ := h.2 i v hv
  exact ⟨b, h1, e _ _ h2⟩⟩
theorem RwA.of1 {x : Addr} {H H' : Hp} {us : List V} {rs : List (List Nat)} (o : Of1 x H H') {z : HO} (hx : H x = some z) (nz : ∀ xs, z ≠ .tup xs) (h : RwA H us rs) : RwA H' us rs := ⟨h.1, fun i v hv => by
  obtain ⟨b, h1, h2⟩ := h.2 i v hv
  exact ⟨b, h1, o _ _ (fun q => by rw [q, hx] at h2; injection h2 with h2; exact nz _ h2) h2⟩⟩
theorem rwa_at {H : Hp} {us : List V} {rs : List (List Nat)} (h : RwA H us rs) {i : Nat} (hi : i < rs.length) : ∃ b, us[i]? = some (.ref b) ∧ H b = some (.tup (aV (rs.getD i []))) := by
  have hiu : i < us.length := by rw [h.1]; exact hi
  have hu : us[i]? = some us[i] := List.getElem?_eq_getElem hiu
  obtain ⟨b, h1, h2⟩ := h.2 i _ hu
  exact ⟨b, by rw [hu, h1], h2⟩
theorem dq_rwa {H : Hp} {us : List V} : ∀ {rs : List (List Nat)}, DqA H us (rs.map aD) → RwA H us rs := fun {rs} h => by
  refine ⟨by rw [h.length, List.length_map], fun i v hv => ?_⟩
  obtain ⟨d, h1, h2⟩ := h.get hv
  rw [List.getElem?_map] at h1
  cases hr : rs[i]? with
  | none => rw [hr] at h1; cases h1
  | some r =>
    rw [hr] at h1
    cases h1
    have e : rs.getD i [] = r := by rw [List.getD_eq_getElem?_getD, hr]; rfl
    rw [e]
    obtain ⟨a, xs, ds, rfl, g1, g2, g3⟩ := tu_inv h2 rfl
    injection g1 with g1
    subst g1
    exact ⟨a, rfl, by rw [g2, dqa_nD g3]⟩
theorem RwA.dq {H : Hp} {us : List V} {rs : List (List Nat)} (h : RwA H us rs) : DqA H us (rs.map aD) := by
  induction rs generalizing us with
  | nil =>
    have : us = [] := List.length_eq_zero_iff.mp h.1
    subst this
    exact .nil
  | cons r rs ih =>
    cases us with
    | nil => cases h.1
    | cons u us =>
      obtain ⟨b, h1, h2⟩ := h.2 0 u rfl
      refine .cons (by rw [h1]; exact .tup h2 dqa_aV) (ih ⟨by have := h.1; simpa using this, fun i v hv => h.2 (i + 1) v hv⟩)
/-- the first line that is not in one area -/
def firstL (rs : List (List Nat)) : List (Nat × Nat × Nat) → Option (Nat × Nat)
  | [] => none
  | l :: ls => if (cmn (rs.getD l.1 []) (rs.getD l.2.1 [])).length = 1 then firstL rs ls else some (l.1, l.2.1)
structure CXa (K : PySem.W.Frag) (CR : Addr) : Prop where
  cl : Cls K CR
  nC : NoAttr K CR "costs"
  nP : NoAttr K CR "_places"
/-- an Areas object -/
def Art (CR CC : Addr) (H : Hp) (y x : Addr) (n : Nat) (kvs : List (List L2.Key × V)) (rs : List (List Nat)) : Prop := ∃ dy fs t us, H y = some (.ins CR dy fs) ∧ fs.lookup ("costs" : Str) = some (.ref x) ∧ fs.lookup ("_places" : Str) = some (.ref t) ∧ fs.lookup ("areas" : Str) = none ∧ H t = some (.tup us) ∧ RwA H us rs ∧ rs.length = n ∧ Cst CC H x n kvs
theorem Art.mono {CR CC : Addr} {H H' : Hp} {y x : Addr} {n : Nat} {kvs : List (List L2.Key × V)} {rs : List (List Nat)} (e : Ex H H') (h : Art CR CC H y x n kvs rs) : Art CR CC H' y x n kvs rs := by
  obtain ⟨dy, fs, t, us, h1, h2, h3, h4, h5, h6, h7, h8⟩ := h
  exact ⟨dy, fs, t, us, e _ _ h1, h2, h3, h4, e _ _ h5, h6.mono e, h7, h8.mono e⟩
theorem Cst.of1 {CC : Addr} {H H' : Hp} {x y : Addr} {n : Nat} {kvs : List (List L2.Key × V)} {C D : Addr} {fs : List (Str × V)} (o : Of1 y H H') (hy : H y = some (.ins C D fs)) (hne : y ≠ x) (h : Cst CC H x n kvs) : Cst CC H' x n kvs := by
  obtain ⟨dx, fs', D', h1, h2, h3, h4, h5⟩ := h
  exact ⟨dx, fs', D', o _ _ (Ne.symm hne) h1, h2, h3, h4, o _ _ (fun q => by rw [q, hy] at h5; cases h5) h5⟩
section
variable {P : Program} {w : World} {K : PySem.W.Frag} {mg : Str → Option Value} {base : Heap} {f : Addr} {fd : FuncData} {CC CR CA CL CN : Addr}
/-- for x in a list that is made on the way -/
theorem s_forM {tl : TE} {g : TG} {tu : TS} {D : Ends} {σ : L2.St} {H : Hp} {tz : TS} (C : Addr → List V → Hp → Prop) (h : ∀ Q : VK, (∀ l xs H1, C l xs H1 → Q (.ref l) H1) → tl σ H Q)
    (hC : ∀ l xs H1, C l xs H1 → SqL K H1 l xs ∧ ∃ Pv : Nat → L2.St → Hp → Prop, Pv 0 σ H1 ∧ (∀ i σ' H', i ≤ xs.length → Pv i σ' H' → SqL K H' l xs) ∧ (∀ i x σ' H', xs[i]? = some x → Pv i σ' H' → g x σ' H' fun σ2 H2 => tu { D with nx := Pv (i + 1), ct := Pv (i + 1), bk := tz D } σ2 H2) ∧ (∀ σ' H', Pv xs.length σ' H' → tz D σ' H')) : tSeq (tFor (iList K tl) g tu) tz D σ H :=
  h _ fun l xs H1 c => by
    obtain ⟨hs, Pv, h0, hl, ht, hd⟩ := hC l xs H1 c
    exact ⟨l, rfl, ⟨xs, hs⟩, for_list Pv h0 hl ht hd⟩
/-! Areas.__init__ -/
def spAIn (CR CC CA CL : Addr) : Sp := fun vs H Q E => ∃ (y dy x : Addr) (n : Nat) (v : V) (d : PyData) (kvs : List (List L2.Key × V)), vs = [.ref y, .ref x, v] ∧ H y = some (.ins CR dy []) ∧ y ≠ x ∧ Cst CC H x n kvs ∧ n ≤ 8 ∧ LnOk n kvs ∧ Dq H v d ∧ (itemsT d).length ≤ 60 ∧ (∀ x ∈ itemsT d, (itemsT x).length ≤ 60) ∧
  (∀ i, faultA n d = some i → ∀ dx H', H dx = none → Ex H H' → H' dx = some (.xd [("router", .int i)]) → E (.ref CA) (some dx) H') ∧
  (∀ rs, d = dR rs → rs.length = n → (∀ r ∈ rs, ArOk r) →
    (∀ a b, firstL rs (linesL n kvs) = some (a, b) → ∀ dx H', H dx = none → Ex H H' → H' dx = some (.xd [("b", .int (b : Int)), ("a", .int (a : Int))]) → E (.ref CL) (some dx) H') ∧
    (firstL rs (linesL n kvs) = none → ∀ H', Of1 y H H' → Art CR CC H' y x n kvs rs → Q .non H'))
abbrev sAIn : Stmt := inClass (top 23) 0
abbrev nAIn : List Str := ["self", "costs", "areas", "a", "b", "_"]
theorem scAIn : FnScope nAIn ["self", "costs", "areas"] (defScope sAIn) := ⟨rfl, rfl, rfl, by decide +kernel, rfl, by decide +kernel, by decide +kernel⟩
theorem ok_aIn (B : Bl mg) (X : CXc K CC) (Y : CXa K CR) (TL : ErrL P w K mg base "BadLine" CL) (CW : CalX P w K mg base "refuse_wrong_areas" ["size", "areas"] 4 (spRWA CA)) (CLn : Cal P w K mg base "lines_with_costs" ["costs"] 6 (spLwc CC)) (CM : Cal P w K mg base "common" ["one", "other"] 1 spCmn)
    (F : FnM K "__init__" "Areas.__init__" sAIn f fd) : FnOk P w K mg base (L2.CX P w) 7 f fd ["self", "costs", "areas"] (spAIn CR CC CA CL) := by
  obtain ⟨fR, fdR, FR, gR, kR, bR⟩ := CW.ex
  refine F.ok scAIn (fun vs H Q E h => ?_) (fun cdv A outer s H vs Q E hr h => ?_)
  · obtain ⟨y, dy, x, n, v, d, kvs, rfl, _⟩ := h
    rfl
  · obtain ⟨y, dy, x, n, v, d, kvs, rfl, hy, hyx, hC, hn, hok, hd, hl, hls, kE, kQ⟩ := h
    have r4 : Room 4 _ := hr.mono (by decide)
    have hr2 : Room 2 _ := hr.mono (by decide)
    refine ⟨_, pss_cons (ps_expr (pe_call FR r4 (by rfl) gR kR bR .nil (passes_call (takes_of rfl rfl rfl rfl) (fun _ _ _ _ h => h)) (pa_cons (pe_fld (pv 1) rfl) (pa_cons (pv 2) pa_nil))))
      (pss_cons (ps_for (passes_of rfl) rfl (pi_list (pe_cal CLn hr (by rfl) (pa_cons (pv 1) pa_nil))) (pg_tup rfl (pgs_cons (pg_name (i := 3) scAIn.nd rfl (.inl rfl)) (pgs_cons (pg_name (i := 4) scAIn.nd rfl (.inl rfl)) (pgs_cons (pg_name (i := 5) scAIn.nd rfl (.inl rfl)) pgs_nil))))
        (pss_one (ps_if (pt_cmpR op_ne (pe_callB call_len_seq (by rfl) B.len PySem.boot_len (pa_cons (pe_cal CM hr (by rfl) (pa_cons (pe_ix (ix_tupK (K := K) rfl) (pv 2) (pv 3) (fun _ _ => rfl)) (pa_cons (pe_ix (ix_tupK (K := K) rfl) (pv 2) (pv 4) (fun _ _ => rfl)) pa_nil))) pa_nil)) pe_int (nomark _)) (pss_one (ps_raise rfl (takes_of rfl rfl rfl rfl) (pmk_errL TL hr2 (by rfl) (pa_cons (pv 3) (pa_cons (pv 4) pa_nil))))) pss_nil)))
      (pss_cons (ps_fld (pv 0) (pv 1) rfl) (pss_one (ps_fld (pv 0) (pv 2) rfl)))), ?_⟩
    obtain ⟨dx, fs, DL, h1, h2, h3, h4, h5⟩ := id hC
    refine ⟨.ref x, rfl, x, CC, dx, fs, _, rfl, h1, X.cl, X.nS, h2, v, rfl, n, v, d, rfl, hd, hl, hls, fun hf H1 e1 => ?_, fun i hi dz H' h0 e' hz => kE i hi dz H' h0 e' hz⟩
    obtain ⟨rs, rfl, hrl, hrs⟩ := fault_none hf
    obtain ⟨k1, k2⟩ := kQ rs rfl hrl hrs
    obtain ⟨ta, us, ds, rfl, g1, g2, g3⟩ := tu_inv hd rfl
    injection g1 with g1
    subst g1
    have hR := dq_rwa g3
    refine s_forM (K := K) (tl := tCall (spLwc CC) [] E0 (tCons (tVar 1) tNil)) (C := fun l xs H2 => Ex H1 H2 ∧ H2 l = some (.lst xs) ∧ LsT n H2 xs (linesL n kvs)) (fun Q' q' => ⟨.ref x, rfl, x, n, kvs, rfl, hC.mono e1, hn, hok, fun H2 D ls' ls nD e2 hD hls _ _ hll => q' D ls' H2 ⟨e2, hD, by rw [← hll]; exact hls⟩⟩) fun l xs H2 ⟨e2, hl2, hT⟩ => ⟨sq_of hl2, ?_⟩
    have e02 := e1.trans e2
    refine ⟨fun i σ' H' => ∃ o3 o4 o5, σ' = [some (.ref y), some (.ref x), some (.ref ta), o3, o4, o5] ∧ Ex H2 H' ∧ firstL rs (linesL n kvs) = firstL rs ((linesL n kvs).drop i), ⟨_, _, _, rfl, Ex.refl _, by rw [List.drop_zero]⟩, fun i σ' H' _ ⟨_, _, _, _, e3, _⟩ => sq_of (e3 _ _ hl2), fun i z σ' H' hz ⟨o3, o4, o5, hσ, e3, hfi⟩ => ?_, fun σ' H' ⟨o3, o4, o5, hσ, e3, hfi⟩ => ?_⟩
    · subst hσ
      obtain ⟨t, li, hli, hla, hlb, rfl, ht⟩ := hT.2 i z hz
      have hil : i < (linesL n kvs).length := (List.getElem?_eq_some_iff.mp hli).1
      rw [List.drop_eq_getElem_cons hil, Option.some.inj ((List.getElem?_eq_getElem hil).symm.trans hli)] at hfi
      refine ⟨t, _, rfl, st_of (e3 _ _ ht), rfl, g_three ?_⟩
      change tIfS _ _ _ _ [some (.ref y), some (.ref x), some (.ref ta), some (.int (li.1 : Int)), some (.int (li.2.1 : Int)), some (.int (li.2.2 : Int))] H'
      have e03 := e02.trans e3
      obtain ⟨ba, hua, hba⟩ := rwa_at hR (i := li.1) (by omega)
      obtain ⟨bb, hub, hbb⟩ := rwa_at hR (i := li.2.1) (by omega)
      have hra : (rs.getD li.1 []).length ≤ 100 := by
        have : rs.getD li.1 [] ∈ rs := by
          rw [List.getD_eq_getElem?_getD, List.getElem?_eq_getElem (show li.1 < rs.length by omega)]
          exact List.getElem_mem _
        have := (hrs _ this).len
        omega
      have cC : EvL (tCall spCmn [] E0 (tCons (tOp (rIxT K) (tVar 2) (tVar 3)) (tCons (tOp (rIxT K) (tVar 2) (tVar 4)) tNil))) [some (.ref y), some (.ref x), some (.ref ta), some (.int (li.1 : Int)), some (.int (li.2.1 : Int)), some (.int (li.2.2 : Int))] H' (aV (cmn (rs.getD li.1 []) (rs.getD li.2.1 []))) := fun H4 e4 Q4 q4 => by
        have i3 : Ev (tOp (rIxT K) (tVar 2) (tVar 3)) [some (.ref y), some (.ref x), some (.ref ta), some (.int (li.1 : Int)), some (.int (li.2.1 : Int)), some (.int (li.2.2 : Int))] H4 (.ref ba) := ev_op (ev_var rfl) (ev_var rfl) (rv_ixT (st_of ((e03.trans e4) _ _ g2)) (atI_nat hua))
        have i4 : Ev (tOp (rIxT K) (tVar 2) (tVar 4)) [some (.ref y), some (.ref x), some (.ref ta), some (.int (li.1 : Int)), some (.int (li.2.1 : Int)), some (.int (li.2.2 : Int))] H4 (.ref bb) := ev_op (ev_var rfl) (ev_var rfl) (rv_ixT (st_of ((e03.trans e4) _ _ g2)) (atI_nat hub))
        refine (ea_cons i3 (ea_cons i4 ea_nil)) H4 (Ex.refl _) _ fun H5 e5 => ?_
        exact ⟨ba, bb, _, _, rfl, (e03.trans (e4.trans e5)) _ _ hba, (e03.trans (e4.trans e5)) _ _ hbb, hra, fun H6 l6 nl6 e6 hl6 => q4 l6 H6 (fresh_back e5 nl6) (e5.trans e6) hl6⟩
      have c1 : Ev (tCB (rLenS K) (tCons (tCall spCmn [] E0 (tCons (tOp (rIxT K) (tVar 2) (tVar 3)) (tCons (tOp (rIxT K) (tVar 2) (tVar 4)) tNil))) tNil)) [some (.ref y), some (.ref x), some (.ref ta), some (.int (li.1 : Int)), some (.int (li.2.1 : Int)), some (.int (li.2.2 : Int))] H' (.int ((cmn (rs.getD li.1 []) (rs.getD li.2.1 [])).length : Int)) := fun H4 e4 Q4 q4 => cC H4 e4 _ fun l6 H6 nl6 e6 hl6 => by
        refine ⟨l6, _, rfl, .inl (sq_of hl6), ?_⟩
        rw [aV_len]
        exact q4 H6 e6
      refine s_when (b := !decide (V.int ((cmn (rs.getD li.1 []) (rs.getD li.2.1 [])).length : Int) = V.int 1)) (et_test (ev_op (r := rNe) c1 ev_c (rv_ne rfl))) (fun hb H4 e4 => ?_) fun hb H4 e4 => ?_
      · have hb' : (cmn (rs.getD li.1 []) (rs.getD li.2.1 [])).length ≠ 1 := fun z => by
          rw [z] at hb
          exact absurd hb (by decide)
        refine mk_errL (ev_var rfl) (ev_var rfl) fun dz H5 h0 e5 hz => k1 li.1 li.2.1 ?_ dz H5 (fresh_back (e03.trans e4) h0) ((e03.trans e4).trans e5) hz
        rw [hfi]
        unfold firstL
        rw [if_neg hb']
      · have hb' : (cmn (rs.getD li.1 []) (rs.getD li.2.1 [])).length = 1 := by
          have hb2 : decide (V.int ((cmn (rs.getD li.1 []) (rs.getD li.2.1 [])).length : Int) = V.int 1) = true := by
            cases hq : decide (V.int ((cmn (rs.getD li.1 []) (rs.getD li.2.1 [])).length : Int) = V.int 1) with
            | true => rfl
            | false => rw [hq] at hb; cases hb
          have := of_decide_eq_true hb2
          injection this with this
          omega
        refine ⟨_, _, _, rfl, e3.trans e4, ?_⟩
        rw [hfi]
        conv => lhs; unfold firstL
        rw [if_pos hb']
    · subst hσ
      rw [List.drop_of_length_le (by have := hT.1; omega)] at hfi
      have k := k2 hfi
      have e03 := e02.trans e3
      have hy3 := e03 _ _ hy
      refine ⟨.ref x, rfl, .ref y, rfl, y, CR, dy, [], rfl, hy3, Y.cl, Y.nC, by decide, ?_⟩
      have ln1 : (putF "costs" (.ref x) ([] : List (Str × V))).length ≤ 1 := len_putF _ _ _
      have lkE : (putF "costs" (.ref x) ([] : List (Str × V))).lookup ("costs" : Str) = some (.ref x) := lk_putS
      have lkO : (putF "costs" (.ref x) ([] : List (Str × V))).lookup ("areas" : Str) = none := by rw [lk_putF (by decide +kernel)]; rfl
      generalize putF "costs" (.ref x) ([] : List (Str × V)) = fs1 at *
      have o4 := Of1.upd y H' (.ins CR dy fs1)
      have hy4 : (upd H' y (.ins CR dy fs1)) y = some (.ins CR dy fs1) := upd_same
      have o04 : Of1 y H (upd H' y (.ins CR dy fs1)) := (Of1.ex e03).trans o4
      generalize upd H' y (.ins CR dy fs1) = H4 at *
      refine ⟨.ref ta, rfl, .ref y, rfl, y, CR, dy, fs1, rfl, hy4, Y.cl, Y.nP, Nat.lt_of_le_of_lt ln1 (by decide), ?_⟩
      have o5 := Of1.upd y H4 (.ins CR dy (putF "_places" (.ref ta) fs1))
      have o05 := o04.trans o5
      refine k _ o05 ⟨dy, _, ta, us, upd_same, ?_, lk_putS, ?_, o05 _ _ (fun z => by rw [z, hy] at g2; cases g2) g2, hR.of1 o05 hy (fun xs z => by cases z), hrl, hC.of1 o05 hy hyx⟩
      · rw [lk_putF (by decide +kernel)]; exact lkE
      · rw [lk_putF (by decide +kernel)]; exact lkO
/-! Areas.areas -/
def spArs (CR CC CN : Addr) : Sp := fun vs H Q E => ∃ (y x : Addr) (n : Nat) (v : V) (d : PyData) (kvs : List (List L2.Key × V)) (rs : List (List Nat)), vs = [.ref y, v] ∧ Art CR CC H y x n kvs rs ∧ Dq H v d ∧
  (∀ i : Nat, i < n → v = .int (i : Int) → ∀ H' b, Ex H H' → H' b = some (.tup (aV (rs.getD i []))) → Q (.ref b) H') ∧ (isR (n : Int) d = false → ∀ dx H', H dx = none → Ex H H' → H' dx = some (.xd [("router", v)]) → E (.ref CN) (some dx) H')
abbrev sArs : Stmt := inClass (top 23) 1
theorem scArs : FnScope ["self", "router"] ["self", "router"] (defScope sArs) := ⟨rfl, rfl, rfl, by decide +kernel, rfl, by decide +kernel, by decide +kernel⟩
theorem ok_ars (X : CXc K CC) (Y : CXa K CR) (CRn : CalX P w K mg base "refuse_no_router" ["size", "thing"] 4 (spNoRt CN)) (F : FnM K "areas" "Areas.areas" sArs f fd) : FnOk P w K mg base (L2.CX P w) 5 f fd ["self", "router"] (spArs CR CC CN) := by
  obtain ⟨fR, fdR, FR, gR, kR, bR⟩ := CRn.ex
  refine F.ok scArs (fun vs H Q E h => ?_) (fun cdv A outer s H vs Q E hr h => ?_)
  · obtain ⟨y, x, n, v, d, kvs, rs, rfl, _⟩ := h
    rfl
  · obtain ⟨y, x, n, v, d, kvs, rs, rfl, hA, hd, kQ, kE⟩ := h
    have r4 : Room 4 _ := hr.mono (by decide)
    refine ⟨_, pss_cons (ps_expr (pe_call FR r4 (by rfl) gR kR bR .nil (passes_call (takes_of rfl rfl rfl rfl) (fun _ _ _ _ h => h)) (pa_cons (pe_fld (pe_fld (pv 0) rfl) rfl) (pa_cons (pv 1) pa_nil))))
      (pss_one (ps_ret (pe_ix (ix_tupK (K := K) rfl) (pe_fld (pv 0) rfl) (pv 1) (fun _ _ => rfl)))), ?_⟩
    obtain ⟨dy, fy, t, us, a1, a2, a3, a4, a5, a6, a7, a8⟩ := hA
    obtain ⟨dx, fs, DL, h1, h2, h3, h4, h5⟩ := a8
    refine ⟨.ref y, rfl, y, CR, dy, fy, _, rfl, a1, Y.cl, Y.nC, a2, x, CC, dx, fs, _, rfl, h1, X.cl, X.nS, h2, v, rfl, (n : Int), v, d, rfl, hd, fun hb H1 e1 => ?_, fun hb dz H' h0 e' hz => kE hb dz H' h0 e' hz⟩
    obtain ⟨b1, b2⟩ := Bool.and_eq_true_iff.mp (show (isI d && (decide (0 ≤ valI d) && decide (valI d ≤ (n : Int) - 1))) = true from hb)
    obtain ⟨b2, b3⟩ := Bool.and_eq_true_iff.mp b2
    have b2 := of_decide_eq_true b2
    have b3 := of_decide_eq_true b3
    have ed := isI_eq b1
    rw [ed] at hd
    obtain ⟨i, hi⟩ : ∃ i : Nat, valI d = (i : Int) := ⟨(valI d).toNat, by omega⟩
    rw [hi] at hd
    cases hd
    have hin : i < n := by omega
    obtain ⟨b, hu, hb2⟩ := rwa_at a6 (i := i) (by omega)
    refine ⟨.ref y, rfl, y, CR, dy, fy, _, rfl, e1 _ _ a1, Y.cl, Y.nP, a3, .int (i : Int), rfl, ?_⟩
    exact rv_ixT (K := K) (st_of (e1 _ _ a5)) (atI_nat hu) H1 (Ex.refl _) _ (fun H2 e2 => kQ i hin rfl H2 b (e1.trans e2) ((e1.trans e2) _ _ hb2))
end
end Wk

set_option Elab.async false
set_option linter.all false
set_option maxRecDepth 100000
set_option maxHeartbeats 2000000
namespace Wk
open PySem PySem.Spec PyProof.Rows L2 Evl
/-! what stays grows by new things only -/
structure Gr (p q : Addr) (G H G' H' : Hp) : Prop where
  ex : Ex G G'
  nw : ∀ b, G b = none → H b ≠ none → G' b = none
  off : Of1 p H H'
  pl : Pm G' H' p q
theorem Gr.refl {p q : Addr} {G H : Hp} (h : Pm G H p q) : Gr p q G H G H := ⟨Ex.refl _, fun _ h _ => h, Of1.refl _ _, h⟩
theorem Gr.trans {p q : Addr} {G H G1 H1 G2 H2 : Hp} (a : Gr p q G H G1 H1) (b : Gr p q G1 H1 G2 H2) : Gr p q G H G2 H2 := by
  refine ⟨a.ex.trans b.ex, fun c hc hh => ?_, a.off.trans b.off, b.pl⟩
  by_cases cp : c = p
  · rw [cp]; exact b.pl.gp
  refine b.nw c (a.nw c hc hh) ?_
  cases hx : H c with
  | none => exact absurd hx hh
  | some o => rw [a.off c o cp hx]; simp
theorem Gr.new {p q t : Addr} {G H : Hp} {o : HO} (h : Pm G H p q) (ht : H t = none) : Gr p q G H (upd G t o) (upd H t o) := by
  refine ⟨Ex.new (fresh_back h.ex ht), fun b hb hh => ?_, Of1.ex (Ex.new ht), h.new ht⟩
  have nb : b ≠ t := fun z => hh (by rw [z]; exact ht)
  rw [upd_ne nb]
  exact hb
theorem Gr.ext {p q : Addr} {G H H' : Hp} (h : Pm G H p q) (e : Ex H H') : Gr p q G H G H' := ⟨Ex.refl _, fun _ h _ => h, Of1.ex e, h.ext e⟩
theorem Gr.draw {p q : Addr} {G H H' : Hp} (h : Pm G H p q) (h' : Pm (Hd1 H p) H' p q) : Gr p q G H G H' := ⟨Ex.refl _, fun _ h _ => h, h'.off, h.back h'⟩
/-! displays -/
def EvDt (p q : Addr) (te : TE) (σ : L2.St) (d : PyData) : Prop := ∀ G H, Pm G H p q → ∀ Q : VK, (∀ G' H' v, Gr p q G H G' H' → Dq G' v d → Q v H') → te σ H Q
def EvDA (p q : Addr) (ta : TA) (σ : L2.St) (ds : List PyData) : Prop := ∀ G H, Pm G H p q → ∀ Q : List V → Hp → Prop, (∀ G' H' vs, Gr p q G H G' H' → DqA G' vs ds → Q vs H') → ta σ H Q
section
variable {p q : Addr} {σ : L2.St} {te tb : TE} {ta : TA} {d : PyData} {ds es : List PyData}
theorem ed_c {v : V} (h : ∀ G, Dq G v d) : EvDt p q (tC v) σ d := fun G H hP Q k => k G H v (Gr.refl hP) (h G)
theorem ed_int {i : Nat} {x : Int} (h : σ[i]? = some (some (.int x))) : EvDt p q (tVar i) σ (.int x) := fun G H hP Q k => ⟨.int x, h, k G H _ (Gr.refl hP) (.int x)⟩
theorem ed_nil : EvDA p q tNil σ [] := fun G H hP Q k => k G H [] (Gr.refl hP) .nil
theorem ed_cons (h : EvDt p q te σ d) (hr : EvDA p q ta σ ds) : EvDA p q (tCons te ta) σ (d :: ds) := fun G H hP Q k =>
  h G H hP _ fun G1 H1 v g1 hv => hr G1 H1 g1.pl _ fun G2 H2 vs g2 hvs => k G2 H2 (v :: vs) (g1.trans g2) (.cons (hv.mono g2.ex) hvs)
theorem ed_tup (h : EvDA p q ta σ ds) (hl : ds.length ≤ 1000) : EvDt p q (tTup ta) σ (.tuple ds) := fun G H hP Q k =>
  h G H hP _ fun G1 H1 vs g1 hvs => ⟨by have := hvs.length; rw [sizeLine_eq]; omega, fun t ht => k (upd G1 t (.tup vs)) _ (.ref t) (g1.trans (Gr.new g1.pl ht)) (.tup upd_same (hvs.mono (Gr.new (o := .tup vs) g1.pl ht).ex))⟩
theorem ed_lst (h : EvDA p q ta σ ds) (hl : ds.length ≤ 1000) : EvDt p q (tLst ta) σ (.list ds) := fun G H hP Q k =>
  h G H hP _ fun G1 H1 vs g1 hvs => ⟨by have := hvs.length; rw [sizeLine_eq]; omega, fun t ht => k (upd G1 t (.lst vs)) _ (.ref t) (g1.trans (Gr.new g1.pl ht)) (.lst upd_same (hvs.mono (Gr.new (o := .lst vs) g1.pl ht).ex))⟩
theorem ed_dict : EvDt p q tDNewK σ (.dict []) := fun G H hP Q k t ht => k (upd G t (.dK [])) _ (.ref t) (Gr.new hP ht) (.dic upd_same)
/-- things + [..] -/
theorem ed_cat (G0 : Hp) {v : V} {i : Nat} (hv : σ[i]? = some (some v)) (h0 : Dq G0 v (.list ds)) (hb : EvDt p q tb σ (.list es)) (hl : ds.length + es.length ≤ 1000) {H : Hp} (hP : Pm G0 H p q) {Q : VK} (k : ∀ G' H' v, Gr p q G0 H G' H' → Dq G' v (.list (ds ++ es)) → Q v H') : tOp rCat (tVar i) tb σ H Q := by
  refine ⟨v, hv, hb G0 H hP _ fun G1 H1 u g1 hu => ?_⟩
  have h1 := h0.mono g1.ex
  cases h1 with
  | lst a1 a2 =>
    cases hu with
    | lst b1 b2 =>
      rename_i aa xs ab ys
      have l1 := a2.length
      have l2 := b2.length
      refine ⟨aa, ab, xs, ys, rfl, rfl, g1.pl.ex _ _ a1, g1.pl.ex _ _ b1, by rw [sizeLine_eq]; omega, fun t ht => ?_⟩
      have gn := Gr.new (o := .lst (xs ++ ys)) g1.pl ht
      exact k _ _ (.ref t) (g1.trans gn) (.lst upd_same ((a2.append b2).mono gn.ex))
end
theorem q_asgD {p q : Addr} {i : Nat} {te : TE} {tz : TS} {D : Ends} {σ : L2.St} {G H : Hp} {d : PyData} (h : EvDt p q te σ d) (hP : Pm G H p q) (k : ∀ G' H' v, Gr p q G H G' H' → Dq G' v d → tz D (σ.set i (some v)) H') : tSeq (tAsg te (gName i)) tz D σ H := h G H hP _ k
theorem q_catD {p q : Addr} {i j : Nat} {tb : TE} {tz : TS} {D : Ends} {σ : L2.St} {H : Hp} {ds es : List PyData} (G0 : Hp) {v : V} (hv : σ[i]? = some (some v)) (h0 : Dq G0 v (.list ds)) (hb : EvDt p q tb σ (.list es)) (hl : ds.length + es.length ≤ 1000) (hP : Pm G0 H p q) (k : ∀ G' H' v, Gr p q G0 H G' H' → Dq G' v (.list (ds ++ es)) → tz D (σ.set j (some v)) H') : tSeq (tAsg (tOp rCat (tVar i) tb) (gName j)) tz D σ H := ed_cat G0 hv h0 hb hl hP k
end Wk

set_option Elab.async false
set_option linter.all false
set_option maxRecDepth 100000
set_option maxHeartbeats 4000000
namespace Wk
open PySem PySem.Spec PyProof.Rows L2 Evl
theorem el_sortSetV {K : PySem.W.Frag} {w : World} {σ : L2.St} {H : Hp} {ta : TE} {ns : List Int} {a : Addr} {Q : VK} (h : Ev ta σ H (.ref a)) (hT : H a = some (.lst (ns.map V.int))) (hl : ns.length < 64) (k : ∀ (ms : List Int) (p : Addr) H', ms.Pairwise (· < ·) → (∀ x, x ∈ ms ↔ x ∈ ns) → H p = none → Ex H H' → H' p = some (.lst (ms.map V.int)) → Q (.ref p) H') :
    tCB (rSortedSet w) (tCons (tCB (rSetOfI K w) (tCons ta tNil)) tNil) σ H Q := h H (Ex.refl _) _ fun H1 e1 => by
  refine ⟨a, ns, rfl, sq_of (e1 _ _ hT), hl, fun p c hp hc => ⟨p, _, c, rfl, upd_same, by omega, fun ms r pw hm _ hr => ?_⟩⟩
  have e2 := Ex.new (o := SetO w p (fun j => decide (j ∈ ns)) c) hp
  exact k ms r _ pw (fun x => by rw [hm x, decide_eq_true_eq]) (fresh_back (e1.trans e2) hr) ((e1.trans e2).trans (Ex.new hr)) upd_same
theorem Of1.mutN {p b : Addr} {H H' : Hp} {o : HO} (h : Of1 p H H') (hb : H b = none) : Of1 p H (L2.upd H' b o) := fun c u nc hc => by
  rw [upd_ne (fun z => by rw [z, hb] at hc; cases hc)]
  exact h c u nc hc
theorem Gr.of {p q b : Addr} {G H H' : Hp} {u : HO} (hP : Pm G H p q) (o : Of1 p H H') (hP' : Pm G H' p q) (hb : H' b = some u) (nb : H b = none) : Gr p q G H (upd G b u) H' := by
  have np := hP.np nb
  have gb := fresh_back hP.ex nb
  refine ⟨Ex.new gb, fun c hc hh => ?_, o, hP'.hold hb np gb⟩
  rw [upd_ne (fun z => hh (by rw [z]; exact nb))]
  exact hc
theorem aV_ms {ms : List Int} (h : ∀ x ∈ ms, 0 ≤ x) : ms.map V.int = aV (ms.map Int.toNat) := by
  unfold aV
  rw [List.map_map]
  refine List.map_congr_left fun x hx => ?_
  show V.int x = V.int ((x.toNat : Nat) : Int)
  rw [Int.toNat_of_nonneg (h x hx)]
section
variable {P : Program} {w : World} {K : PySem.W.Frag} {mg : Str → Option Value} {base : Heap} {f : Addr} {fd : FuncData}
/-! _law_row -/
def spRow : Sp := fun vs H Q _ => ∃ (G : Hp) (p q : Addr), vs = [.ref p] ∧ Pm G H p q ∧ ∀ H' b r, Pm G H' p q → Of1 p H H' → H b = none → H' b = some (.tup (aV r)) → ArOk r → Q (.ref b) H'
abbrev sRow : Stmt := top 33
abbrev nRow : List Str := ["_law_pool_here", "_law_areas", "_law_k"]
theorem scRow : FnScope nRow ["_law_pool_here"] (defScope sRow) := ⟨rfl, rfl, rfl, by decide +kernel, rfl, by decide +kernel, by decide +kernel⟩
theorem ok_row (B : Bl mg) (hso : mg "sorted" = none) (C : Cal P w K mg base "_law_draw" ["_law_pool_here", "_law_limit"] 2 spDraw) (F : FnP K "_law_row" sRow f fd) : FnOk P w K mg base CX0 3 f fd ["_law_pool_here"] spRow := by
  refine F.ok scRow (fun vs H Q E h => ?_) (fun cdv A outer s H vs Q E hr h => ?_)
  · obtain ⟨G, p, q, rfl, _⟩ := h
    rfl
  · obtain ⟨G, p, q, rfl, hP, k⟩ := h
    refine ⟨_, pss_cons (ps_set (i := 1) scRow.nd rfl (Or.inl rfl) (pe_lst (pa_cons (pe_cal C hr (by rfl) (pa_cons (pv 0) (pa_cons pe_int pa_nil))) pa_nil)))
      (pss_cons (ps_for (passes_of rfl) rfl (pi_range1 (by rfl) B.range (pa_cons (pe_cal C hr (by rfl) (pa_cons (pv 0) (pa_cons pe_int pa_nil))) pa_nil)) (pg_name (i := 2) scRow.nd rfl (Or.inl rfl))
        (pss_one (ps_expr (pe_bm PySem.F.plainAttrs_list PySem.F.slot_list_append PySem.F.type_list_append mt_append (pv 1) (pa_cons
          (pe_ix (ix_listK (K := K) rfl) (pe_lst (pa_cons pe_int (pa_cons (pe_cal C hr (by rfl) (pa_cons (pv 0) (pa_cons pe_int pa_nil))) pa_nil))) (pe_cal C hr (by rfl) (pa_cons (pv 0) (pa_cons pe_int pa_nil))) (fun _ _ => rfl)) pa_nil)))))
      (pss_one (ps_ret (pe_callTy (call_tupleK (K := K) rfl) (by rfl) B.tuple PyProof.Rows.boot_tuple (pa_cons (pe_callB (cr_sortedSet rfl) (by rfl) hso PyProof.Rows.boot_sorted (pa_cons (pe_callTy (cr_setOfI rfl) (by rfl) B.set PyProof.Rows.boot_set (pa_cons (pv 1) pa_nil)) pa_nil)) pa_nil))))), ?_⟩
    refine ⟨.ref p, rfl, ⟨_, p, q, 6, rfl, hP.hd, by decide, by decide, fun H1 a0 hP10 ha0 ha1 => ?_⟩⟩
    have hP1 := hP.back hP10
    have o1 := hP10.off
    refine ⟨by show 1 ≤ sizeLine; decide, fun L nL => ?_⟩
    refine g_name ?_
    dsimp only
    have e2 := Ex.new (o := .lst [V.int a0]) nL
    have hP2 := hP1.ext e2
    have hL2 : (upd H1 L (.lst [V.int a0])) L = some (.lst [V.int a0]) := upd_same
    have nL0 : H L = none := by
      cases h : H L with
      | none => rfl
      | some u => rw [o1 L u (hP1.np nL) h] at nL; cases nL
    have gL := fresh_back hP.ex nL0
    have npL := hP.np nL0
    have o2 := o1.trans (Of1.ex e2)
    change tSeq (tFor _ _ _) _ _ [some (.ref p), some (.ref L), none] _
    generalize upd H1 L (.lst [V.int a0]) = H2 at *
    refine ⟨.ref p, rfl, ⟨_, p, q, 3, rfl, hP2.hd, by decide, by decide, fun H3 cnt hP30 hc0 hc1 => ?_⟩⟩
    have hP3 := hP2.back hP30
    have hL3 := hP30.off _ _ npL hL2
    have o3 := o2.trans hP30.off
    refine ⟨cnt, rfl, by omega, by omega, for_range (lo := 0) (n := cnt.toNat) (fun i σ' H' => ∃ (ns : List Int) (o2 : Option V), σ' = [some (.ref p), some (.ref L), o2] ∧ Pm G H' p q ∧ Of1 p H H' ∧ H' L = some (.lst (ns.map V.int)) ∧ ns.length = i + 1 ∧ ∀ x ∈ ns, 0 ≤ x ∧ x ≤ 5) ⟨[a0], none, rfl, hP3, o3, hL3, rfl, fun x hx => by rw [List.mem_singleton.mp hx]; omega⟩ ?_ ?_⟩
    · rintro i σ' H4 hi ⟨ns, oz, rfl, hP4, o4, hL4, hnl, hns⟩
      refine g_name ?_
      dsimp only
      refine ⟨.ref L, rfl, .inl ⟨rfl, _, sq_of hL4⟩, ?_⟩
      refine ⟨.ref p, rfl, ⟨_, p, q, 6, rfl, hP4.hd, by decide, by decide, fun H5 a hP50 hb0 hb1 => ?_⟩⟩
      have hP5 := hP4.back hP50
      have hL5 := hP50.off _ _ npL hL4
      refine ⟨by show 2 ≤ sizeLine; decide, fun T nT => ?_⟩
      have e6 := Ex.new (o := .lst [V.int 0, .int a]) nT
      have hP6 := hP5.ext e6
      have hL6 := e6 _ _ hL5
      have hT6 : (upd H5 T (.lst [V.int 0, .int a])) T = some (.lst [V.int 0, .int a]) := upd_same
      have npT := hP5.np nT
      have o6 := (o4.trans hP50.off).trans (Of1.ex e6)
      generalize upd H5 T (.lst [V.int 0, .int a]) = H6 at *
      refine ⟨.ref p, rfl, ⟨_, p, q, 2, rfl, hP6.hd, by decide, by decide, fun H7 j hP70 hj0 hj1 => ?_⟩⟩
      have hP7 := hP6.back hP70
      have hL7 := hP70.off _ _ npL hL6
      have hT7 := hP70.off _ _ npT hT6
      obtain ⟨m, hm, hm0, hm5⟩ : ∃ m : Int, atI [V.int 0, .int a] j = some (.int m) ∧ 0 ≤ m ∧ m ≤ 5 := by
        have : j = 0 ∨ j = 1 := by omega
        rcases this with rfl | rfl
        · exact ⟨0, atI_nat (j := 0) rfl, by decide, by decide⟩
        · exact ⟨a, atI_nat (j := 1) rfl, hb0, by omega⟩
      refine ⟨T, _, j, .int m, rfl, rfl, sq_of hT7, hm, ?_⟩
      refine ⟨L, _, .int m, rfl, rfl, hL7, by rw [List.length_map, sizeLine_eq]; omega, ?_⟩
      refine ⟨ns ++ [m], _, rfl, hP7.mut gL npL, (o6.trans hP70.off).mutN nL0, by rw [upd_same, List.map_append]; rfl, by simp [hnl], fun x hx => ?_⟩
      rcases List.mem_append.mp hx with z | z
      · exact hns x z
      · rw [List.mem_singleton.mp z]; exact ⟨hm0, hm5⟩
    · rintro σ' H4 ⟨ns, oz, rfl, hP4, o4, hL4, hnl, hns⟩
      dsimp only
      refine ret_cb ?_
      refine el_sortSetV (K := K) (w := w) (ns := ns) (a := L) (ev_var rfl) hL4 (by omega) fun ms p' H5 hpw hm hp e5 hp5 => ?_
      refine ⟨p', _, rfl, .inl ⟨sq_of hp5, fun t ht => ?_⟩⟩
      have hms : ∀ x ∈ ms, 0 ≤ x ∧ x ≤ 5 := fun x hx => hns x ((hm x).mp hx)
      rw [aV_ms fun x hx => (hms x hx).1]
      have e6 := Ex.new (o := .tup (aV (ms.map Int.toNat))) ht
      have nt : H t = none := by
        cases h : H t with
        | none => rfl
        | some u => rw [e5 _ _ (o4 t u ((hP4.ext e5).np ht) h)] at ht; cases ht
      refine k _ t (ms.map Int.toNat) ((hP4.ext e5).ext e6) (o4.trans (Of1.ex (e5.trans e6))) nt upd_same ⟨fun z => ?_, fun i hi => ?_, ?_⟩
      · have hl := congrArg List.length z
        rw [List.length_map] at hl
        cases hq : ns with
        | nil => rw [hq] at hnl; cases hnl
        | cons x r =>
          have : x ∈ ms := (hm x).mpr (by rw [hq]; exact List.mem_cons_self)
          have := List.length_pos_of_mem this
          simp at hl
          rw [hl] at this
          simp at this
      · obtain ⟨x, hx, rfl⟩ := List.mem_map.mp hi
        have := hms x hx
        omega
      · rw [List.pairwise_map]
        refine List.Pairwise.imp_of_mem (fun {a b} ha hb hab => ?_) hpw
        have := hms a ha
        have := hms b hb
        omega
/-! _law_shared -/
def spShr : Sp := fun vs H Q _ => ∃ (R t : Addr) (us : List V) (rs : List (List Nat)) (a b : Nat), vs = [.ref R, .ref t] ∧ H R = some (.tup us) ∧ RwA H us rs ∧ H t = some (.tup [.int (a : Int), .int (b : Int)]) ∧ a < rs.length ∧ b < rs.length ∧ (∀ r ∈ rs, ArOk r) ∧ ∀ H', Ex H H' → Q (.int ((cmn (rs.getD a []) (rs.getD b [])).length : Int)) H'
abbrev sShr : Stmt := top 36
abbrev nShr : List Str := ["_law_rows", "_law_pair", "_law_area"]
theorem scShr : FnScope nShr ["_law_rows", "_law_pair"] (defScope sShr) := ⟨rfl, rfl, rfl, by decide +kernel, rfl, by decide +kernel, by decide +kernel⟩
theorem ok_shr (B : Bl mg) (F : FnP K "_law_shared" sShr f fd) : FnOk P w K mg base CX0 1 f fd ["_law_rows", "_law_pair"] spShr := by
  refine F.ok scShr (fun vs H Q E h => ?_) (fun cdv A outer s H vs Q E hr h => ?_)
  · obtain ⟨R, t, us, rs, a, b, rfl, _⟩ := h
    rfl
  · obtain ⟨R, t, us, rs, a, b, rfl, hR, hA, ht, ha, hb, hok, k⟩ := h
    refine ⟨_, pss_one (ps_ret (pe_callB call_len_seq (by rfl) B.len PySem.boot_len (pa_cons (pe_lc (own := [("_law_area", 2)]) (g := gName 2) (tt := tTest (tOp (rIn K false) (tVar 2) (tOp (rIxT K) (tVar 0) (tOp (rIxT K) (tVar 1) (tC (.int 1)))))) rfl scShr.nd (pi_tup (pe_ix (ix_tupK (K := K) rfl) (pv 0) (pe_ix (ix_tupK (K := K) rfl) (pv 1) pe_int (fun _ _ => rfl)) (fun _ _ => rfl))) (blkOk_by (N := nShr) (sc := defScope sShr) (by decide +kernel))
      (fun _ _ _ _ _ => pg_name (i := 2) scShr.nd rfl (.inl rfl)) (fun _ _ _ _ _ => pts_one (pt_cmpR (op_in_seqK (K := K) rfl) (pv 2) (pe_ix (ix_tupK (K := K) rfl) (pv 0) (pe_ix (ix_tupK (K := K) rfl) (pv 1) pe_int (fun _ _ => rfl)) (fun _ _ => rfl)) rfl)) (fun _ _ _ _ _ => pv 2)) pa_nil))), ?_⟩
    obtain ⟨ba, hua, hba⟩ := rwa_at hA ha
    obtain ⟨bb, hub, hbb⟩ := rwa_at hA hb
    have hla : (rs.getD a []).length ≤ 6 := by
      have : rs.getD a [] ∈ rs := by
        rw [List.getD_eq_getElem?_getD, List.getElem?_eq_getElem ha]
        exact List.getElem_mem _
      exact (hok _ this).len
    have i0 : ∀ {σ : L2.St} {H1 : Hp}, Ex H H1 → σ[0]? = some (some (.ref R)) → σ[1]? = some (some (.ref t)) → Ev (tOp (rIxT K) (tVar 0) (tOp (rIxT K) (tVar 1) (tC (.int 0)))) σ H1 (.ref ba) := fun e h0 h1 => ev_op (ev_var h0) (ev_op (ev_var h1) ev_c (rv_ixT (st_of (e _ _ ht)) (atI_nat (j := 0) rfl))) (rv_ixT (st_of (e _ _ hR)) (atI_nat hua))
    have i1 : ∀ {σ : L2.St} {H1 : Hp}, Ex H H1 → σ[0]? = some (some (.ref R)) → σ[1]? = some (some (.ref t)) → Ev (tOp (rIxT K) (tVar 0) (tOp (rIxT K) (tVar 1) (tC (.int 1)))) σ H1 (.ref bb) := fun e h0 h1 => ev_op (ev_var h0) (ev_op (ev_var h1) ev_c (rv_ixT (st_of (e _ _ ht)) (atI_nat (j := 1) rfl))) (rv_ixT (st_of (e _ _ hR)) (atI_nat hub))
    refine ret_cb ?_
    refine el_lcT (K := K) (a := ba) (xs := aV (rs.getD a [])) (tl := tOp (rIxT K) (tVar 0) (tOp (rIxT K) (tVar 1) (tC (.int 0)))) (j := 2) (vs := [2]) (σ := start nShr [.ref R, .ref t]) (H := H) (fun i => decide ((rs.getD a []).getD i 0 ∈ rs.getD b [])) (fun i => .int (((rs.getD a []).getD i 0 : Nat) : Int)) (i0 (Ex.refl _) rfl rfl) (st_of hba) (by rw [aV_len]; omega) (fun _ => rfl) (fun i x H1 e1 hx => ?_) (fun i x H1 e1 hx _ => ?_) H (Ex.refl _) _ fun l H1 nl e1 hl1 => ?_
    · rw [aV_at hx]
      refine et_test fun H2 e2 Q2 q2 => ⟨_, rfl, ?_⟩
      refine i1 (e1.trans e2) rfl rfl H2 (Ex.refl _) _ fun H3 e3 => ⟨bb, aV (rs.getD b []), rfl, .inr (st_of (((e1.trans e2).trans e3) _ _ hbb)), rfl, aV_flat _, ?_⟩
      rw [inV_vI]
      exact q2 H3 e3
    · rw [aV_at hx]
      exact ev_var rfl
    · rw [aV_len, given_fil (rs.getD a []) (fun i => decide (i ∈ rs.getD b [])) (rs.getD a []).length (Nat.le_refl _), List.take_length] at hl1
      refine ⟨l, _, rfl, .inl (sq_of hl1), ?_⟩
      rw [aV_len]
      exact k H1 e1
end
end Wk

set_option Elab.async false
set_option linter.all false
set_option maxRecDepth 100000
set_option maxHeartbeats 4000000
namespace Wk
open PySem PySem.Spec PyProof.Rows L2 Evl
section
variable {p q : Addr} {σ : L2.St} {te : TE} {d : PyData} {v : V}
theorem ed_ev (h : ∀ H, Ev te σ H v) (hd : ∀ G, Dq G v d) : EvDt p q te σ d := fun G H hP Q k => h H H (Ex.refl _) _ fun H1 e => k G H1 v (Gr.ext hP e) (hd G)
theorem ed_pow20 : EvDt p q (tOp (rI CPow fun i j => .int (i ^ j.toNat)) (tC (.int 10)) (tC (.int 20))) σ (.int ((10 : Int) ^ (20 : Int).toNat)) :=
  ed_ev (fun H H1 e Q q => ⟨10, 20, rfl, rfl, ⟨by decide, by decide, by decide⟩, q H1 (Ex.refl _)⟩) fun _ => .int _
theorem ed_neg : EvDt p q (tUn (rU fun i => .int (-i)) (tC (.int 1))) σ (.int (-1)) := ed_ev (fun H => ev_un (r := rU fun i => .int (-i)) (ev_c (v := .int 1)) (fun H1 _ Q q => ⟨1, rfl, q H1 (Ex.refl H1)⟩)) fun _ => .int _
theorem ed_inc {i : Nat} {a : Int} (h : σ[i]? = some (some (.int a))) : EvDt p q (tOp (rI0 fun i j => .int (i + j)) (tVar i) (tC (.int 1))) σ (.int (a + 1)) :=
  ed_ev (fun H => ev_op (ev_var h) ev_c rv_I0) fun _ => .int _
end
def nr0 (a : Int) : List PyData := [.tuple [], .list [.int a], .tuple [.int a, .int a], .tuple [.int (a + 1), .int a], .tuple [.int 6], .tuple [.int (-1)], .tuple [.bool true], .tuple [.bool false, .int (a + 1)], .tuple [.str "0"], .none, .int a]
def nr1 (a : Int) : List PyData := [.tuple [.int a, .none], .tuple [.int a, .int 6], .tuple [.int (-1), .int a], .str "0", .dict [], .tuple [.int a, .int ((10 : Int) ^ (20 : Int).toNat)], .tuple [.tuple [.int a]]]
theorem nr_no {a : Int} : ∀ d ∈ nr0 a ++ nr1 a, isAr d = false ∧ (itemsT d).length ≤ 60 := by
  intro d hd
  unfold nr0 nr1 at hd
  simp only [List.mem_append, List.mem_cons, List.not_mem_nil, or_false] at hd
  rcases hd with (rfl | rfl | rfl | rfl | rfl | rfl | rfl | rfl | rfl | rfl | rfl) | (rfl | rfl | rfl | rfl | rfl | rfl | rfl) <;> refine ⟨?_, by simp [itemsT]⟩ <;> first | rfl | (simp [isAr, isA, isI, valI, isTu, itemsT]; done) | (simp [isAr, isA, isI, valI, isTu, itemsT]; omega)
section
variable {P : Program} {w : World} {K : PySem.W.Frag} {mg : Str → Option Value} {base : Heap} {f : Addr} {fd : FuncData}
/-! _law_no_row -/
def spNoRw : Sp := fun vs H Q _ => ∃ (G : Hp) (p q : Addr), vs = [.ref p] ∧ Pm G H p q ∧ ∀ G' H' v d, Gr p q G H G' H' → Dq G' v d → isAr d = false → (itemsT d).length ≤ 60 → Q v H'
abbrev sNoRw : Stmt := top 34
abbrev nNoRw : List Str := ["_law_pool_here", "_law_area", "_law_things"]
theorem scNoRw : FnScope nNoRw ["_law_pool_here"] (defScope sNoRw) := ⟨rfl, rfl, rfl, by decide +kernel, rfl, by decide +kernel, by decide +kernel⟩
theorem ok_noRw (B : Bl mg) (C : Cal P w K mg base "_law_draw" ["_law_pool_here", "_law_limit"] 2 spDraw) (F : FnP K "_law_no_row" sNoRw f fd) : FnOk P w K mg base CX0 3 f fd ["_law_pool_here"] spNoRw := by
  refine F.ok scNoRw (fun vs H Q E h => ?_) (fun cdv A outer s H vs Q E hr h => ?_)
  · obtain ⟨G, p, q, rfl, _⟩ := h
    rfl
  · obtain ⟨G, p, q, rfl, hP, k⟩ := h
    refine ⟨_, pss_cons (ps_set (i := 1) scNoRw.nd rfl (Or.inl rfl) (pe_cal C hr (by rfl) (pa_cons (pv 0) (pa_cons pe_int pa_nil))))
      (pss_cons (ps_set (i := 2) scNoRw.nd rfl (Or.inl rfl) (pe_lst (pa_cons (pe_tup pa_nil) (pa_cons (pe_lst (pa_cons (pv 1) pa_nil)) (pa_cons (pe_tup (pa_cons (pv 1) (pa_cons (pv 1) pa_nil))) (pa_cons (pe_tup (pa_cons (pe_op op_add (pv 1) pe_int) (pa_cons (pv 1) pa_nil))) (pa_cons (pe_tup (pa_cons pe_int pa_nil)) (pa_cons (pe_tup (pa_cons (pe_un un_neg pe_int) pa_nil)) (pa_cons (pe_tup (pa_cons pe_bl pa_nil)) (pa_cons (pe_tup (pa_cons pe_bl (pa_cons (pe_op op_add (pv 1) pe_int) pa_nil))) (pa_cons (pe_tup (pa_cons pe_str pa_nil)) (pa_cons pe_non (pa_cons (pv 1) pa_nil)))))))))))))
      (pss_cons (ps_set (i := 2) scNoRw.nd rfl (Or.inl rfl) (pe_op op_cat (pv 2) (pe_lst (pa_cons (pe_tup (pa_cons (pv 1) (pa_cons pe_non pa_nil))) (pa_cons (pe_tup (pa_cons (pv 1) (pa_cons pe_int pa_nil))) (pa_cons (pe_tup (pa_cons (pe_un un_neg pe_int) (pa_cons (pv 1) pa_nil))) (pa_cons pe_str (pa_cons pe_dnewK (pa_cons (pe_tup (pa_cons (pv 1) (pa_cons (pe_op op_pow pe_int pe_int) pa_nil))) (pa_cons (pe_tup (pa_cons (pe_tup (pa_cons (pv 1) pa_nil)) pa_nil)) pa_nil))))))))))
      (pss_one (ps_ret (pe_ix (ix_listK (K := K) rfl) (pv 2) (pe_cal C hr (by rfl) (pa_cons (pv 0) (pa_cons pe_int pa_nil))) (fun _ _ => rfl)))))), ?_⟩
    refine ⟨.ref p, rfl, ⟨_, p, q, 5, rfl, hP.hd, by decide, by decide, fun H1 a h1 ha0 ha1 => ?_⟩⟩
    have g1 := Gr.draw hP h1
    refine g_name ?_
    dsimp only
    change tSeq _ _ _ [some (.ref p), some (.int a), none] H1
    refine q_asgD (p := p) (q := q) (d := .list (nr0 a)) (ed_lst (ed_cons (ed_tup ed_nil (by simp)) (ed_cons (ed_lst (ed_cons (ed_int rfl) ed_nil) (by simp)) (ed_cons (ed_tup (ed_cons (ed_int rfl) (ed_cons (ed_int rfl) ed_nil)) (by simp)) (ed_cons (ed_tup (ed_cons (ed_inc rfl) (ed_cons (ed_int rfl) ed_nil)) (by simp)) (ed_cons (ed_tup (ed_cons (ed_c fun _ => .int _) ed_nil) (by simp)) (ed_cons (ed_tup (ed_cons ed_neg ed_nil) (by simp)) (ed_cons (ed_tup (ed_cons (ed_c fun _ => .bl _) ed_nil) (by simp)) (ed_cons (ed_tup (ed_cons (ed_c fun _ => .bl _) (ed_cons (ed_inc rfl) ed_nil)) (by simp)) (ed_cons (ed_tup (ed_cons (ed_c fun _ => .str _) ed_nil) (by simp)) (ed_cons (ed_c fun _ => .non) (ed_cons (ed_int rfl) ed_nil))))))))))) (by simp [nr0])) g1.pl fun G4 H4 v4 g4 hv4 => ?_
    change tSeq _ _ _ [some (.ref p), some (.int a), some v4] H4
    have f4 := g1.trans g4
    refine q_catD (p := p) (q := q) (es := nr1 a) G4 (v := v4) rfl hv4 (ed_lst (ed_cons (ed_tup (ed_cons (ed_int rfl) (ed_cons (ed_c fun _ => .non) ed_nil)) (by simp)) (ed_cons (ed_tup (ed_cons (ed_int rfl) (ed_cons (ed_c fun _ => .int _) ed_nil)) (by simp)) (ed_cons (ed_tup (ed_cons ed_neg (ed_cons (ed_int rfl) ed_nil)) (by simp)) (ed_cons (ed_c fun _ => .str _) (ed_cons ed_dict (ed_cons (ed_tup (ed_cons (ed_int rfl) (ed_cons ed_pow20 ed_nil)) (by simp)) (ed_cons (ed_tup (ed_cons (ed_tup (ed_cons (ed_int rfl) ed_nil) (by simp)) ed_nil) (by simp)) ed_nil))))))) (by simp [nr1])) (by simp [nr0, nr1]) f4.pl fun G5 H5 v5 g5 hv5 => ?_
    change tRet _ _ [some (.ref p), some (.int a), some v5] H5
    have f10 := f4.trans g5
    clear hv4
    have hno := nr_no (a := a)
    have hlen : (nr0 a ++ nr1 a).length = 18 := rfl
    generalize nr0 a ++ nr1 a = ds at *
    cases hv5 with
    | @lst A xs _ a1 a2 =>
      refine ⟨.ref A, rfl, .ref p, rfl, ⟨_, p, q, 18, rfl, f10.pl.hd, by decide, by decide, fun H11 j h11 hj0 hj1 => ?_⟩⟩
      have f11 := f10.trans (Gr.draw f10.pl h11)
      have l1 := a2.length
      obtain ⟨m, rfl⟩ : ∃ m : Nat, j = (m : Int) := ⟨j.toNat, by omega⟩
      have hm : m < ds.length := by omega
      obtain ⟨u, hu1, hu2⟩ := a2.at (List.getElem?_eq_getElem hm)
      obtain ⟨n1, n2⟩ := hno _ (List.getElem_mem hm)
      exact ⟨A, xs, (m : Int), u, rfl, rfl, sq_of (f11.pl.ex _ _ a1), atI_nat hu1, k _ H11 u _ f11 hu2 n1 n2⟩
end
end Wk

set_option Elab.async false
set_option linter.all false
set_option maxRecDepth 100000
set_option maxHeartbeats 4000000
namespace Wk
open PySem PySem.Spec PyProof.Rows L2 Evl
/-! displays of which an item may be an old thing -/
structure Gx (p q : Addr) (G H G' H' : Hp) : Prop where
  ex : Ex G G'
  off : Of1 p H H'
  pl : Pm G' H' p q
theorem Gx.trans {p q : Addr} {G H G1 H1 G2 H2 : Hp} (a : Gx p q G H G1 H1) (b : Gx p q G1 H1 G2 H2) : Gx p q G H G2 H2 := ⟨a.ex.trans b.ex, a.off.trans b.off, b.pl⟩
theorem Gr.gx {p q : Addr} {G H G' H' : Hp} (a : Gr p q G H G' H') : Gx p q G H G' H' := ⟨a.ex, a.off, a.pl⟩
def EvXD (p q : Addr) (G0 : Hp) (te : TE) (σ : L2.St) (d : PyData) : Prop := ∀ G H, Ex G0 G → Pm G H p q → ∀ Q : VK, (∀ G' H' v, Gx p q G H G' H' → Dq G' v d → Q v H') → te σ H Q
def EvXA (p q : Addr) (G0 : Hp) (ta : TA) (σ : L2.St) (ds : List PyData) : Prop := ∀ G H, Ex G0 G → Pm G H p q → ∀ Q : List V → Hp → Prop, (∀ G' H' vs, Gx p q G H G' H' → DqA G' vs ds → Q vs H') → ta σ H Q
theorem Pm.old {p q a : Addr} {G H : Hp} {xs : List V} (h : Pm G H p q) (ha : H a = some (.tup xs)) : Ex G (L2.upd G a (.tup xs)) ∧ Pm (L2.upd G a (.tup xs)) H p q := by
  have np : a ≠ p := fun z => by
    obtain ⟨_, _, _, h2, _⟩ := h.at_
    rw [z, h2] at ha
    cases ha
  have e : Ex G (L2.upd G a (.tup xs)) := fun b u hb => by
    by_cases c : b = a
    · rw [c, upd_same]
      rw [c] at hb
      have := h.ex _ _ hb
      rw [ha] at this
      exact this
    · rw [upd_ne c]
      exact hb
  obtain ⟨cs, h0, h1⟩ := h.gq
  refine ⟨e, fun b u hb => ?_, by rw [upd_ne (Ne.symm np)]; exact h.gp, ⟨cs, e _ _ h0, h1⟩, h.at_⟩
  by_cases c : b = a
  · rw [c, upd_same] at hb
    rw [c, ha]
    exact hb
  · rw [upd_ne c] at hb
    exact h.ex _ _ hb
section
variable {p q : Addr} {σ : L2.St} {te tb : TE} {ta : TA} {d : PyData} {ds es : List PyData} {G0 : Hp}
theorem x_of (h : EvDt p q te σ d) : EvXD p q G0 te σ d := fun G H _ hP Q k => h G H hP Q fun G' H' v g hv => k G' H' v g.gx hv
theorem x_nil : EvXA p q G0 tNil σ [] := fun G H _ hP Q k => k G H [] (Gr.refl hP).gx .nil
theorem x_cons (h : EvXD p q G0 te σ d) (hr : EvXA p q G0 ta σ ds) : EvXA p q G0 (tCons te ta) σ (d :: ds) := fun G H e hP Q k =>
  h G H e hP _ fun G1 H1 v g1 hv => hr G1 H1 (e.trans g1.ex) g1.pl _ fun G2 H2 vs g2 hvs => k G2 H2 (v :: vs) (g1.trans g2) (.cons (hv.mono g2.ex) hvs)
theorem x_lst (h : EvXA p q G0 ta σ ds) (hl : ds.length ≤ 1000) : EvXD p q G0 (tLst ta) σ (.list ds) := fun G H e hP Q k =>
  h G H e hP _ fun G1 H1 vs g1 hvs => ⟨by have := hvs.length; rw [sizeLine_eq]; omega, fun t ht => k (upd G1 t (.lst vs)) _ (.ref t) (g1.trans (Gr.new g1.pl ht).gx) (.lst upd_same (hvs.mono (Gr.new (o := .lst vs) g1.pl ht).ex))⟩
theorem x_es {xs : List V} (h : ∀ H, Ex G0 H → EvS te σ H xs) (hd : DqA G0 xs ds) : EvXD p q G0 te σ (.tuple ds) := fun G H e hP Q k =>
  h H (e.trans hP.ex) H (Ex.refl _) _ fun b H2 e2 hb => by
    obtain ⟨e3, hP3⟩ := (hP.ext e2).old hb
    exact k _ H2 (.ref b) ⟨e3, Of1.ex e2, hP3⟩ (.tup upd_same (hd.mono (e.trans e3)))
end
theorem q_asgX {p q : Addr} {G0 : Hp} {i : Nat} {te : TE} {tz : TS} {D : Ends} {σ : L2.St} {G H : Hp} {d : PyData} (h : EvXD p q G0 te σ d) (e : Ex G0 G) (hP : Pm G H p q) (k : ∀ G' H' v, Gx p q G H G' H' → Dq G' v d → tz D (σ.set i (some v)) H') : tSeq (tAsg te (gName i)) tz D σ H := h G H e hP _ k
theorem fault_no {n : Nat} {d : PyData} (h : isTu d = false ∨ (itemsT d).length ≠ n) : faultA n d = some (-1) := by
  unfold faultA
  refine if_neg fun z => ?_
  obtain ⟨z1, z2⟩ := Bool.and_eq_true_iff.mp z
  rcases h with h | h
  · rw [h] at z1; cases z1
  · have z2 := of_decide_eq_true z2
    injection z2 with z2
    omega
def ns0 (rs : List (List Nat)) (at_ : Nat) : List PyData := [.list (rs.map aD), .tuple ((rs.map aD).eraseIdx at_), .tuple (rs.map aD ++ [.tuple [.int 0]]), .tuple (List.replicate 9 (.int 0)), .none, .dict [], .str "0", .int 0, .bool true]
theorem ns0_no {rs : List (List Nat)} {at_ : Nat} (h8 : rs.length ≤ 8) (ha : at_ < rs.length) (hok : ∀ r ∈ rs, ArOk r) : ∀ d ∈ ns0 rs at_, faultA rs.length d = some (-1) ∧ (itemsT d).length ≤ 60 ∧ ∀ x ∈ itemsT d, (itemsT x).length ≤ 60 := by
  intro d hd
  unfold ns0 at hd
  simp only [List.mem_cons, List.not_mem_nil, or_false] at hd
  have hrow : ∀ x ∈ rs.map aD, (itemsT x).length ≤ 60 := fun x hx => by
    obtain ⟨r, hr, rfl⟩ := List.mem_map.mp hx
    have := (hok r hr).len
    show (r.map nD).length ≤ 60
    rw [List.length_map]
    omega
  rcases hd with rfl | rfl | rfl | rfl | rfl | rfl | rfl | rfl | rfl
  · exact ⟨fault_no (.inl rfl), Nat.zero_le _, fun x hx => by cases hx⟩
  · have hl : ((rs.map aD).eraseIdx at_).length = rs.length - 1 := by rw [List.length_eraseIdx, List.length_map, if_pos ha]
    refine ⟨fault_no (.inr ?_), ?_, fun x hx => hrow x (List.mem_of_mem_eraseIdx hx)⟩
    · show ((rs.map aD).eraseIdx at_).length ≠ _
      rw [hl]
      omega
    · show ((rs.map aD).eraseIdx at_).length ≤ 60
      rw [hl]
      omega
  · have hl : (rs.map aD ++ [PyData.tuple [.int 0]]).length = rs.length + 1 := by simp
    refine ⟨fault_no (.inr ?_), ?_, fun x hx => ?_⟩
    · show (rs.map aD ++ [PyData.tuple [.int 0]]).length ≠ _
      rw [hl]
      omega
    · show (rs.map aD ++ [PyData.tuple [.int 0]]).length ≤ 60
      rw [hl]
      omega
    · rcases List.mem_append.mp (show x ∈ rs.map aD ++ [PyData.tuple [.int 0]] from hx) with z | z
      · exact hrow x z
      · rw [List.mem_singleton.mp z]; decide
  · refine ⟨fault_no (.inr ?_), by decide, fun x hx => ?_⟩
    · show (List.replicate 9 (PyData.int 0)).length ≠ _
      rw [List.length_replicate]
      omega
    · rw [(List.mem_replicate.mp (show x ∈ List.replicate 9 (PyData.int 0) from hx)).2]
      decide
  all_goals exact ⟨fault_no (.inl rfl), Nat.zero_le _, fun x hx => by cases hx⟩
section
variable {P : Program} {w : World} {K : PySem.W.Frag} {mg : Str → Option Value} {base : Heap} {f : Addr} {fd : FuncData}
/-! _law_no_rows -/
def spNoRs : Sp := fun vs H Q _ => ∃ (G : Hp) (p q R : Addr) (us : List V) (rs : List (List Nat)), vs = [.ref p, .ref R] ∧ Pm G H p q ∧ G R = some (.tup us) ∧ RwA G us rs ∧ 1 ≤ rs.length ∧ rs.length ≤ 8 ∧ (∀ r ∈ rs, ArOk r) ∧
  ∀ H' v d, Pm G H' p q → Of1 p H H' → Dq H' v d → faultA rs.length d = some (-1) → (itemsT d).length ≤ 60 → (∀ x ∈ itemsT d, (itemsT x).length ≤ 60) → Q v H'
abbrev sNoRs : Stmt := top 35
abbrev nNoRs : List Str := ["_law_pool_here", "_law_rows", "_law_at", "_law_things"]
theorem scNoRs : FnScope nNoRs ["_law_pool_here", "_law_rows"] (defScope sNoRs) := ⟨rfl, rfl, rfl, by decide +kernel, rfl, by decide +kernel, by decide +kernel⟩
theorem ok_noRs (B : Bl mg) (C : Cal P w K mg base "_law_draw" ["_law_pool_here", "_law_limit"] 2 spDraw) (F : FnP K "_law_no_rows" sNoRs f fd) : FnOk P w K mg base CX0 3 f fd ["_law_pool_here", "_law_rows"] spNoRs := by
  refine F.ok scNoRs (fun vs H Q E h => ?_) (fun cdv A outer s H vs Q E hr h => ?_)
  · obtain ⟨G, p, q, R, us, rs, rfl, _⟩ := h
    rfl
  · obtain ⟨G, p, q, R, us, rs, rfl, hP, hR, hA, h1, h8, hok, k⟩ := h
    refine ⟨_, pss_cons (ps_set (i := 2) scNoRs.nd rfl (Or.inl rfl) (pe_cal C hr (by rfl) (pa_cons (pv 0) (pa_cons (pe_callB call_len_seq (by rfl) B.len PySem.boot_len (pa_cons (pv 1) pa_nil)) pa_nil))))
      (pss_cons (ps_set (i := 3) scNoRs.nd rfl (Or.inl rfl) (pe_lst (pa_cons (pe_callTy (call_listK2 (K := K) rfl) (by rfl) B.list PyProof.Rows.boot_list (pa_cons (pv 1) pa_nil))
        (pa_cons (pe_op op_catA (pe_slice sl_tupA (pv 1) po_none (po_some (pv 2))) (pe_slice sl_tupA (pv 1) (po_some (pe_op op_add (pv 2) pe_int)) po_none))
        (pa_cons (pe_op op_catA (pv 1) (pe_tup (pa_cons (pe_tup (pa_cons pe_int pa_nil)) pa_nil)))
        (pa_cons (pe_op op_repT (pe_tup (pa_cons pe_int pa_nil)) pe_int) (pa_cons pe_non (pa_cons pe_dnewK (pa_cons pe_str (pa_cons pe_int (pa_cons pe_bl pa_nil)))))))))))
      (pss_one (ps_ret (pe_ix (ix_listK (K := K) rfl) (pv 3) (pe_cal C hr (by rfl) (pa_cons (pv 0) (pa_cons pe_int pa_nil))) (fun _ _ => rfl))))), ?_⟩
    have hul := hA.1
    refine ⟨.ref p, rfl, .ref R, rfl, R, us, rfl, .inr (st_of (hP.ex _ _ hR)), ⟨_, p, q, (us.length : Int), rfl, hP.hd, by omega, by omega, fun H1 at_ h10 ha0 ha1 => ?_⟩⟩
    have hP1 := hP.back h10
    obtain ⟨at_, rfl⟩ : ∃ m : Nat, at_ = (m : Int) := ⟨at_.toNat, by omega⟩
    have hat : at_ < us.length := by omega
    refine g_name ?_
    dsimp only
    change tSeq _ _ _ [some (.ref p), some (.ref R), some (.int (at_ : Int)), none] H1
    have dqs := hA.dq
    have v1 : ∀ {H : Hp}, Ev (tVar 1) [some (.ref p), some (.ref R), some (.int (at_ : Int)), none] H (.ref R) := ev_var rfl
    have une : us ≠ [] := fun z => by rw [z] at hul; simp at hul; omega
    refine q_asgX (p := p) (q := q) (G0 := G) (d := .list (ns0 rs at_)) (x_lst (x_cons ?_ (x_cons ?_ (x_cons ?_ (x_cons ?_ (x_cons (x_of (ed_c fun _ => .non)) (x_cons (x_of ed_dict) (x_cons (x_of (ed_c fun _ => .str _)) (x_cons (x_of (ed_c fun _ => .int _)) (x_cons (x_of (ed_c fun _ => .bl _)) x_nil))))))))) (by simp [ns0])) (Ex.refl _) hP1 fun G4 H4 v4 g4 hv4 => ?_
    · intro G1 H2 e hP2 Q2 k2
      refine ⟨.ref R, rfl, R, us, rfl, .inr (st_of (hP2.ex _ _ (e _ _ hR))), fun L nL => ?_⟩
      have g := Gr.new (o := .lst us) hP2 nL
      exact k2 _ _ (.ref L) g.gx (.lst upd_same (dqs.mono (e.trans g.ex)))
    · refine x_es (xs := us.eraseIdx at_) (fun H2 e => ?_) (dqs.erase at_)
      have s1 := es_sl (K := K) (te := tVar 1) (σ := [some (.ref p), some (.ref R), some (.int (at_ : Int)), none]) (H := H2) (tl := tNoPart) (th := tPart (tVar 2)) v1 eo_none (eo_some (i := (at_ : Int)) (ev_var rfl)) (e _ _ hR)
      have s2 := es_sl (K := K) (te := tVar 1) (σ := [some (.ref p), some (.ref R), some (.int (at_ : Int)), none]) (H := H2) (tl := tPart (tOp (rI0 fun i j => .int (i + j)) (tVar 2) (tC (.int 1)))) (th := tNoPart) v1 (eo_some (i := (at_ : Int) + 1) (ev_op (ev_var rfl) ev_c rv_I0)) eo_none (e _ _ hR)
      rw [cut_to _ _ (by omega)] at s1
      rw [show (at_ : Int) + 1 = ((at_ + 1 : Nat) : Int) by omega, cut_from _ _ (by omega)] at s2
      have z := es_cat (K := K) s1 s2 (by rw [List.length_take, List.length_drop]; omega)
      rw [List.eraseIdx_eq_take_drop_succ]
      exact z
    · intro G1 H2 e hP2 Q2 k2
      refine ⟨.ref R, rfl, ⟨by show 1 ≤ sizeLine; decide, fun t0 n0 => ⟨by show 1 ≤ sizeLine; decide, fun t1 n1 => ?_⟩⟩⟩
      have g1 := Gr.new (o := .tup [V.int 0]) hP2 n0
      have g2 := Gr.new (o := .tup [V.ref t0]) g1.pl n1
      refine ⟨R, t1, us, [.ref t0], rfl, rfl, st_of (g2.pl.ex _ _ (g2.ex _ _ (g1.ex _ _ (e _ _ hR)))), st_of upd_same, by simp; rw [sizeLine_eq]; omega, fun hx => absurd hx une, fun _ hy => (by cases hy), fun _ _ r hr => ?_⟩
      have g3 := Gr.new (o := .tup (us ++ [V.ref t0])) g2.pl hr
      refine k2 _ _ (.ref r) ((g1.trans g2).trans g3).gx (.tup upd_same ((dqs.mono (e.trans ((g1.trans g2).trans g3).ex)).append (.cons (.tup (g3.ex _ _ (g2.ex _ _ upd_same)) (.cons (.int _) .nil)) .nil)))
    · intro G1 H2 e hP2 Q2 k2
      refine ⟨by show 1 ≤ sizeLine; decide, fun t0 n0 => ⟨t0, 9, [.int 0], rfl, rfl, st_of upd_same, by simp, by decide, by decide, by decide, fun r hr => ?_⟩⟩
      have g1 := Gr.new (o := .tup [V.int 0]) hP2 n0
      have g3 := Gr.new (o := .tup ((List.replicate (9 : Int).toNat [V.int 0]).flatten)) g1.pl hr
      refine k2 _ _ (.ref r) (g1.trans g3).gx (.tup upd_same ?_)
      exact .cons (.int _) (.cons (.int _) (.cons (.int _) (.cons (.int _) (.cons (.int _) (.cons (.int _) (.cons (.int _) (.cons (.int _) (.cons (.int _) .nil))))))))
    · change tRet _ _ [some (.ref p), some (.ref R), some (.int (at_ : Int)), some v4] H4
      have hno := ns0_no h8 (by omega) hok (at_ := at_)
      have hlen : (ns0 rs at_).length = 9 := rfl
      generalize ns0 rs at_ = ds at *
      cases hv4 with
      | @lst A xs _ a1 a2 =>
        refine ⟨.ref A, rfl, .ref p, rfl, ⟨_, p, q, 9, rfl, g4.pl.hd, by decide, by decide, fun H5 j h50 hj0 hj1 => ?_⟩⟩
        have hP5 := g4.pl.back h50
        have l1 := a2.length
        obtain ⟨m, rfl⟩ : ∃ m : Nat, j = (m : Int) := ⟨j.toNat, by omega⟩
        have hm : m < ds.length := by omega
        obtain ⟨u, hu1, hu2⟩ := a2.at (List.getElem?_eq_getElem hm)
        obtain ⟨n1, n2, n3⟩ := hno _ (List.getElem_mem hm)
        refine ⟨A, xs, (m : Int), u, rfl, rfl, sq_of (hP5.ex _ _ a1), atI_nat hu1, k H5 u _ ?_ ?_ (hu2.mono hP5.ex) n1 n2 n3⟩
        · exact hP5.less g4.ex hP.gq
        · exact (h10.off.trans g4.off).trans h50.off
end
end Wk

set_option Elab.async false
set_option linter.all false
set_option maxRecDepth 100000
set_option maxHeartbeats 4000000
namespace Wk
open PySem PySem.Spec PyProof.Rows L2 Evl
/-- what is said of a thing -/
def ThOk (n : Nat) (d : PyData) : Prop := isR (n : Int) d = false ∧ (d = .dict [] ∨ (d.canLay0 = true ∧ d.showable = true ∧ d.hasDict = false ∧ d.depth ≤ 60 ∧ d.shown.length ≤ sizeLine))
theorem ThOk.shw {n : Nat} {d : PyData} {H : Hp} {v : V} (h : ThOk n d) (hd : Dq H v d) : ∀ K, Shw K H v d := fun K => by
  rcases h.2 with rfl | h
  · cases hd with
    | dic ha => exact .inr ⟨rfl, _, rfl, ha⟩
  · exact .inl ⟨hd, h⟩
def things (n : Nat) : List PyData := [.int (n : Int), .int (-1), .int ((10 : Int) ^ (20 : Int).toNat), .bool true, .bool false, .none, .str "0", .tuple [.int 0], .list [.int 0], .dict []]
theorem things_no {n : Nat} (h1 : 1 ≤ n) (h8 : n ≤ 8) : ∀ d ∈ things n, ThOk n d := by
  have h : n = 1 ∨ n = 2 ∨ n = 3 ∨ n = 4 ∨ n = 5 ∨ n = 6 ∨ n = 7 ∨ n = 8 := by omega
  intro d hd
  unfold things at hd
  simp only [List.mem_cons, List.not_mem_nil, or_false] at hd
  rcases h with rfl | rfl | rfl | rfl | rfl | rfl | rfl | rfl <;> rcases hd with rfl | rfl | rfl | rfl | rfl | rfl | rfl | rfl | rfl | rfl <;>
    first | exact ⟨by decide +kernel, .inl rfl⟩ | exact ⟨by decide +kernel, .inr ⟨by decide +kernel, by decide +kernel, by decide +kernel, by decide +kernel, by decide +kernel⟩⟩
/-- an index is shown -/
theorem shw_ix {K : PySem.W.Frag} {H : Hp} {i : Int} (h1 : -1 ≤ i) (h8 : i ≤ 8) : Shw K H (.int i) (.int i) := by
  have h : i = -1 ∨ i = 0 ∨ i = 1 ∨ i = 2 ∨ i = 3 ∨ i = 4 ∨ i = 5 ∨ i = 6 ∨ i = 7 ∨ i = 8 := by omega
  refine .inl ⟨.int i, ?_⟩
  rcases h with rfl | rfl | rfl | rfl | rfl | rfl | rfl | rfl | rfl | rfl <;> exact ⟨by decide +kernel, by decide +kernel, by decide +kernel, by decide +kernel, by decide +kernel⟩
def pD2 (a b : Nat) : PyData := .tuple [.int (a : Int), .int (b : Int)]
theorem shw_p2 {K : PySem.W.Frag} {H : Hp} {t : Addr} {a b : Nat} (ht : H t = some (.tup [.int (a : Int), .int (b : Int)])) (ha : a < 8) (hb : b < 8) : Shw K H (.ref t) (pD2 a b) := by
  have h : ∀ a : Fin 8, ∀ b : Fin 8, (pD2 a.val b.val).canLay0 = true ∧ (pD2 a.val b.val).showable = true ∧ (pD2 a.val b.val).hasDict = false ∧ (pD2 a.val b.val).depth ≤ 60 ∧ (pD2 a.val b.val).shown.length ≤ sizeLine := by decide +kernel
  exact .inl ⟨.tup ht (.cons (.int _) (.cons (.int _) .nil)), h ⟨a, ha⟩ ⟨b, hb⟩⟩
/-- what isinstance tells of the two errors -/
structure EKa (K : PySem.W.Frag) (C C1 C2 CW : Addr) : Prop where
  ex : ExcC K C
  k1 : PySem.W.kitOne K (.ref C) (.ref CW) = some true
  k2 : PySem.W.kitAny K (.ref C) [.ref C1, .ref C2] = some false
structure EKn (K : PySem.W.Frag) (C CW CB : Addr) : Prop where
  ex : ExcC K C
  k1 : PySem.W.kitOne K (.ref C) (.ref CW) = some true
  k2 : PySem.W.kitOne K (.ref C) (.ref CB) = some false
theorem first_le : ∀ {ds : List PyData} {i : Nat} {z : Int}, firstA i ds = some z → (i : Int) ≤ z ∧ z < (i : Int) + (ds.length : Int)
  | [], _, _, h => by cases h
  | d :: ds, i, z, h => by
    unfold firstA at h
    by_cases c : isAr d = true
    · rw [if_pos c] at h
      have := first_le h
      simp only [List.length_cons]
      omega
    · rw [if_neg c] at h
      cases h
      simp only [List.length_cons]
      omega
theorem fault_rg {n : Nat} {d : PyData} {z : Int} (h : faultA n d = some z) : -1 ≤ z ∧ z ≤ (n : Int) := by
  unfold faultA at h
  by_cases c : (isTu d && decide (V.int ((itemsT d).length : Int) = V.int (n : Int))) = true
  · rw [if_pos c] at h
    have := first_le h
    have c2 := of_decide_eq_true (Bool.and_eq_true_iff.mp c).2
    injection c2 with c2
    omega
  · rw [if_neg c] at h
    cases h
    omega
/-- what a call with these rows tells -/
def Told (n : Nat) (kvs : List (List L2.Key × V)) (d : PyData) (res : List V) : Prop :=
  (∃ i, faultA n d = some i ∧ res = [.str "areas", .str (PyData.int i).shown, .bl true, .bl false]) ∨
  (∃ rs a b, d = dR rs ∧ rs.length = n ∧ (∀ r ∈ rs, ArOk r) ∧ firstL rs (linesL n kvs) = some (a, b) ∧ a < 8 ∧ b < 8 ∧ res = [.str "line", .str (pD2 a b).shown, .bl true, .bl false])
theorem dR_inj {rs ss : List (List Nat)} (h : dR rs = dR ss) : rs = ss := by
  have aD_inj : ∀ {r s : List Nat}, aD r = aD s → r = s := fun {r s} h => by
    injection h with h
    exact List.map_inj_right (fun x y e => by injection e with e; omega) |>.mp h
  injection h with h
  exact List.map_inj_right (fun x y e => aD_inj e) |>.mp h
section
variable {P : Program} {w : World} {K : PySem.W.Frag} {mg : Str → Option Value} {base : Heap} {f : Addr} {fd : FuncData} {CC CR CA CL CN CW CB : Addr}
structure MkR (P : Program) (w : World) (K : PySem.W.Frag) (mg : Str → Option Value) (base : Heap) (CR CC CA CL : Addr) : Prop where
  g : mg "Areas" = some (.ref CR)
  ex : ∃ (fI : Addr) (fd : FuncData), Mk K CR fI ∧ FnOk P w K mg base (L2.CX P w) 7 fI fd ["self", "costs", "areas"] (spAIn CR CC CA CL) ∧ Binds K fd ["self", "costs", "areas"] []
/-! _law_told -/
def spTold (CC : Addr) : Sp := fun vs H Q _ => ∃ (x : Addr) (n : Nat) (v : V) (d : PyData) (kvs : List (List L2.Key × V)) (res : List V), vs = [.ref x, v] ∧ Cst CC H x n kvs ∧ n ≤ 8 ∧ LnOk n kvs ∧ Dq H v d ∧ (itemsT d).length ≤ 60 ∧ (∀ x ∈ itemsT d, (itemsT x).length ≤ 60) ∧ Told n kvs d res ∧ ∀ H' t, Ex H H' → H' t = some (.tup res) → Q (.ref t) H'
abbrev sTold : Stmt := top 37
abbrev nTold : List Str := ["_law_costs", "_law_rows", "_law_found", "e"]
theorem scTold : FnScope nTold ["_law_costs", "_law_rows"] (defScope sTold) := ⟨rfl, rfl, rfl, by decide +kernel, rfl, by decide +kernel, by decide +kernel⟩
theorem ok_told (B : Bl mg) (M : MkR P w K mg base CR CC CA CL) (TA : ErrF P w K mg base "BadAreas" CA "router") (TL : ErrL P w K mg base "BadLine" CL) (xLA : PySem.W.exmOne K (.ref CL) (.ref CA) = some false)
    (EA : EKa K CA CL CB CW) (EL : EKa K CL CA CB CW) (gW : mg "WishError" = some (.ref CW)) (gB : mg "BadCosts" = some (.ref CB)) (F : FnP K "_law_told" sTold f fd) : FnG P w K mg base 9 f fd ["_law_costs", "_law_rows"] (spTold CC) := by
  obtain ⟨fI, fdI, mk, FI, bI⟩ := M.ex
  refine okG F scTold (fun vs H Q E h => ?_) (fun cdv A outer s H vs Q E hr hg h => ?_)
  · obtain ⟨x, n, v, d, kvs, res, rfl, _⟩ := h
    rfl
  · obtain ⟨x, n, v, d, kvs, res, rfl, hC, hn, hok, hd, hl, hls, hT, k⟩ := h
    have hu : (A.deeper (envOfC "_law_told" (defScope sTold) s.heap.objs.size f cdv)).units + 64 < cLine := by have := hr.un; omega
    refine ⟨_, pss_cons (ps_set (i := 2) scTold.nd rfl (Or.inl rfl) (pe_tup (pa_cons pe_str pa_nil)))
      (pss_cons (ps_try_clauses (i := 3) rfl rfl scTold.nd rfl rfl takes0
          (fun W pn xe tk _ => pss_one (ps_expr (pe_mkAt (W := WE W) mk FI hr (by rfl) M.g bI (fun σ => passAt tk σ) (pa_cons (pv 0) (pa_cons (pv 1) pa_nil)))))
          (.cons ⟨rfl, by decide, .inl TA.g⟩
            (fun a oe cls d pn hz hf => pss_one (ps_set (i := 2) scTold.nd rfl (Or.inl rfl) (pe_tup (pa_cons pe_str (pa_cons (pe_callB (call_reprX (K := K) rfl hg hu) (by rfl) B.repr boot_repr (pa_cons (pe_xf TA.xf TA.no hz hf (pv 3)) pa_nil))
              (pa_cons (pe_callB (call_isFo (K := K) rfl EA.ex hz hf) (by rfl) B.isi boot_isinstance (pa_cons (pv 3) (pa_cons (pe_glob (v := .ref CW) (by rfl) gW rfl) pa_nil)))
              (pa_cons (pe_callB (call_isFTo (K := K) rfl EA.ex hz hf) (by rfl) B.isi boot_isinstance (pa_cons (pv 3) (pa_cons (pe_tup (pa_cons (pe_glob (v := .ref CL) (by rfl) TL.g rfl) (pa_cons (pe_glob (v := .ref CB) (by rfl) gB rfl) pa_nil))) pa_nil))) pa_nil)))))))
          (.cons ⟨rfl, by decide, .inl TL.g⟩
            (fun a oe cls d pn hz hf => pss_one (ps_set (i := 2) scTold.nd rfl (Or.inl rfl) (pe_tup (pa_cons pe_str (pa_cons (pe_callB (call_reprX (K := K) rfl hg hu) (by rfl) B.repr boot_repr (pa_cons (pe_tup (pa_cons (pe_xf TL.xf TL.nA hz hf (pv 3)) (pa_cons (pe_xf TL.xf TL.nB hz hf (pv 3)) pa_nil))) pa_nil))
              (pa_cons (pe_callB (call_isFo (K := K) rfl EL.ex hz hf) (by rfl) B.isi boot_isinstance (pa_cons (pv 3) (pa_cons (pe_glob (v := .ref CW) (by rfl) gW rfl) pa_nil)))
              (pa_cons (pe_callB (call_isFTo (K := K) rfl EL.ex hz hf) (by rfl) B.isi boot_isinstance (pa_cons (pv 3) (pa_cons (pe_tup (pa_cons (pe_glob (v := .ref CA) (by rfl) TA.g rfl) (pa_cons (pe_glob (v := .ref CB) (by rfl) gB rfl) pa_nil))) pa_nil))) pa_nil)))))))
          .nil)))
      (pss_one (ps_ret (pv 2)))), ?_⟩
    refine ⟨by show 1 ≤ sizeLine; decide, fun t0 n0 => ?_⟩
    have e0 := Ex.new (o := .tup [V.str "let"]) n0
    refine g_name ?_
    dsimp only
    generalize upd H t0 (.tup [V.str "let"]) = H0 at *
    change tSeq _ _ _ [some (.ref x), some v, some (.ref t0), none] H0
    have hC0 := hC.mono e0
    have hd0 := hd.mono e0
    refine ⟨.ref x, rfl, v, rfl, fun y dy ny ndy ney => ?_⟩
    have e1 : Ex H0 (upd (upd H0 dy (.own y)) y (.ins CR dy [])) := fun b o hb => by
      rw [upd_ne (ne_of_none hb ny), upd_ne (ne_of_none hb ndy)]
      exact hb
    have hyx : y ≠ x := fun z => by
      obtain ⟨_, _, _, q, _⟩ := hC0
      rw [← z, ny] at q
      cases q
    refine ⟨y, dy, x, n, v, d, kvs, rfl, upd_same, hyx, hC0.mono e1, hn, hok, hd0.mono e1, hl, hls, fun i hi dz H2 h0 e2 hz => ?_, fun rs hrs hrl hro => ⟨fun a b hab dz H2 h0 e2 hz => ?_, fun hno => ?_⟩⟩
    · have hres : res = [.str "areas", .str (PyData.int i).shown, .bl true, .bl false] := by
        rcases hT with ⟨i', h1, h2⟩ | ⟨rs, a, b, h1, h2, h3, _⟩
        · rw [hi] at h1; cases h1; exact h2
        · rw [h1, fault_dR h2 h3] at hi; cases hi
      refine ⟨true, TA.te, fun _ a ha => ?_, fun z => Bool.noConfusion z⟩
      have e02 := e0.trans (e1.trans e2)
      refine ⟨.ref a, rfl, rfl, rfl, dz, _, .int i, rfl, hz, rfl, .int i, .int i, rfl, shw_ix (fault_rg hi).1 (by have := (fault_rg hi).2; omega), ?_⟩
      refine ⟨.ref a, rfl, rfl, dz, rfl, .ref CW, .ref CW, true, _, rfl, .own CW, EA.k1, hz, ?_⟩
      refine ⟨.ref a, rfl, by show 2 ≤ sizeLine; decide, fun tp htp => ?_⟩
      have e3 := Ex.new (o := .tup [V.ref CL, .ref CB]) htp
      refine ⟨rfl, dz, rfl, tp, [.ref CL, .ref CB], [.ref CL, .ref CB], false, _, rfl, upd_same, .cons (.own CL) (.cons (.own CB) .nil), EA.k2, e3 _ _ hz, ?_⟩
      refine ⟨by show 4 ≤ sizeLine; decide, fun p3 hp3 => ?_⟩
      have e4 := Ex.new (o := .tup [V.str "areas", .str (PyData.int i).shown, .bl true, .bl false]) hp3
      refine g_name ?_
      rw [hres] at k
      exact ⟨.ref p3, rfl, k _ p3 (e02.trans (e3.trans e4)) upd_same⟩
    · have hres : res = [.str "line", .str (pD2 a b).shown, .bl true, .bl false] ∧ a < 8 ∧ b < 8 := by
        rcases hT with ⟨i', h1, h2⟩ | ⟨rs', a', b', h1, h2, h3, h4, h5, h6, h7⟩
        · rw [hrs, fault_dR hrl hro] at h1; cases h1
        · rw [hrs] at h1
          rw [← dR_inj h1, hab] at h4
          cases h4
          exact ⟨h7, h5, h6⟩
      refine ⟨false, xLA, (fun z => Bool.noConfusion z), fun _ => ⟨true, TL.te, fun _ c hc => ?_, fun z => Bool.noConfusion z⟩⟩
      have e02 := e0.trans (e1.trans e2)
      refine ⟨.ref c, rfl, rfl, rfl, dz, _, .int (a : Int), rfl, hz, rfl, .ref c, rfl, rfl, rfl, dz, _, .int (b : Int), rfl, hz, rfl, by show 2 ≤ sizeLine; decide, fun t1 n1 => ?_⟩
      have e25 := Ex.new (o := .tup [V.int (a : Int), .int (b : Int)]) n1
      refine ⟨.ref t1, pD2 a b, rfl, shw_p2 upd_same hres.2.1 hres.2.2, ?_⟩
      have hz2 := e25 _ _ hz
      generalize upd H2 t1 (.tup [V.int (a : Int), .int (b : Int)]) = H3 at *
      refine ⟨.ref c, rfl, rfl, dz, rfl, .ref CW, .ref CW, true, _, rfl, .own CW, EL.k1, hz2, ?_⟩
      refine ⟨.ref c, rfl, by show 2 ≤ sizeLine; decide, fun tp htp => ?_⟩
      have e3 := Ex.new (o := .tup [V.ref CA, .ref CB]) htp
      refine ⟨rfl, dz, rfl, tp, [.ref CA, .ref CB], [.ref CA, .ref CB], false, _, rfl, upd_same, .cons (.own CA) (.cons (.own CB) .nil), EL.k2, e3 _ _ hz2, ?_⟩
      refine ⟨by show 4 ≤ sizeLine; decide, fun p3 hp3 => ?_⟩
      have e4 := Ex.new (o := .tup [V.str "line", .str (pD2 a b).shown, .bl true, .bl false]) hp3
      refine g_name ?_
      rw [hres.1] at k
      exact ⟨.ref p3, rfl, k _ p3 (e02.trans ((e25.trans e3).trans e4)) upd_same⟩
    · exfalso
      rcases hT with ⟨i', h1, h2⟩ | ⟨rs', a', b', h1, h2, h3, h4, _⟩
      · rw [hrs, fault_dR hrl hro] at h1; cases h1
      · rw [hrs] at h1
        rw [← dR_inj h1, hno] at h4
        cases h4
/-! _law_no_router -/
def spNoRA (CR CC : Addr) : Sp := fun vs H Q _ => ∃ (y x : Addr) (n : Nat) (v : V) (d : PyData) (kvs : List (List L2.Key × V)) (rs : List (List Nat)), vs = [.ref y, v] ∧ Art CR CC H y x n kvs rs ∧ Dq H v d ∧ isR (n : Int) d = false ∧ (∀ K, Shw K H v d) ∧ ∀ H', Ex H H' → Q (.bl true) H'
abbrev sNoRA : Stmt := top 38
abbrev nNoRA : List Str := ["_law_areas", "_law_thing", "_law_found", "e"]
theorem scNoRA : FnScope nNoRA ["_law_areas", "_law_thing"] (defScope sNoRA) := ⟨rfl, rfl, rfl, by decide +kernel, rfl, by decide +kernel, by decide +kernel⟩
theorem ok_noRA (B : Bl mg) (Y : CXa K CR) (T : ErrF P w K mg base "NoRouter" CN "router") (EN : EKn K CN CW CA) (gW : mg "WishError" = some (.ref CW)) (gA : mg "BadAreas" = some (.ref CA))
    (MA : MskX P w K mg base CR "areas" ["self", "router"] 5 (spArs CR CC CN)) (F : FnP K "_law_no_router" sNoRA f fd) : FnG P w K mg base 6 f fd ["_law_areas", "_law_thing"] (spNoRA CR CC) := by
  obtain ⟨f1, fd1, me1, F1, b1⟩ := MA.ex
  refine okG F scNoRA (fun vs H Q E h => ?_) (fun cdv A outer s H vs Q E hr hg h => ?_)
  · obtain ⟨y, x, n, v, d, kvs, rs, rfl, _⟩ := h
    rfl
  · obtain ⟨y, x, n, v, d, kvs, rs, rfl, hA, hd, hb, hS, k⟩ := h
    have hu : (A.deeper (envOfC "_law_no_router" (defScope sNoRA) s.heap.objs.size f cdv)).units + 64 < cLine := by have := hr.un; omega
    have hu0 : (A.deeper (envOfC "_law_no_router" (defScope sNoRA) s.heap.objs.size f cdv)).units < cLine := by omega
    refine ⟨_, pss_cons (ps_set (i := 2) scNoRA.nd rfl (Or.inl rfl) pe_non)
      (pss_cons (ps_try_as (i := 3) rfl rfl scNoRA.nd rfl rfl ⟨rfl, by decide, .inl T.g⟩ takes0
          (fun W pn xe tk _ => pss_one (ps_expr (pe_meAt (W := WE W) (pv 0) Y.cl me1 F1 hr b1 (fun σ => passAt tk σ) (pa_cons (pv 1) pa_nil))))
          (fun a oe cls d pn hz hf => pss_one (ps_set (i := 2) scNoRA.nd rfl (Or.inl rfl) (pe_tup (pa_cons (pe_callB (call_reprX (K := K) rfl hg hu) (by rfl) B.repr boot_repr (pa_cons (pe_xf T.xf T.no hz hf (pv 3)) pa_nil))
            (pa_cons (pe_callB (call_isFo (K := K) rfl EN.ex hz hf) (by rfl) B.isi boot_isinstance (pa_cons (pv 3) (pa_cons (pe_glob (v := .ref CW) (by rfl) gW rfl) pa_nil)))
            (pa_cons (pe_callB (call_isFo (K := K) rfl EN.ex hz hf) (by rfl) B.isi boot_isinstance (pa_cons (pv 3) (pa_cons (pe_glob (v := .ref CA) (by rfl) gA rfl) pa_nil))) pa_nil)))))))
      (pss_one (ps_ret (pe_cmpR (op_eqSm (K := K) rfl hu0) (pv 2) (pe_tup (pa_cons (pe_callB (call_reprX (K := K) rfl hg hu) (by rfl) B.repr boot_repr (pa_cons (pv 1) pa_nil)) (pa_cons pe_bl (pa_cons pe_bl pa_nil)))) (nomark _))))), ?_⟩
    refine q_c ?_
    obtain ⟨dy, fy, t, us, a1, a2, a3, a4, a5, a6, a7, a8⟩ := id hA
    refine ⟨.ref y, rfl, y, dy, fy, rfl, a1, a4, v, rfl, y, x, n, v, d, kvs, rs, rfl, hA, hd, fun i hi hv => ?_, fun _ dz H2 h0 e02 hz => ?_⟩
    · exfalso
      rw [hv] at hd
      cases hd
      rw [isR_yes hi] at hb
      cases hb
    · refine ⟨true, T.te, fun _ a ha => ?_, fun z => Bool.noConfusion z⟩
      have hS2 := (hS K).mono e02
      refine ⟨.ref a, rfl, rfl, rfl, dz, _, v, rfl, hz, rfl, v, d, rfl, hS2, ?_⟩
      refine ⟨.ref a, rfl, rfl, dz, rfl, .ref CW, .ref CW, true, _, rfl, .own CW, EN.k1, hz, ?_⟩
      refine ⟨.ref a, rfl, rfl, dz, rfl, .ref CA, .ref CA, false, _, rfl, .own CA, EN.k2, hz, ?_⟩
      refine ⟨by show 3 ≤ sizeLine; decide, fun p2 hp2 => ?_⟩
      have e3 := Ex.new (o := .tup [V.str d.shown, .bl true, .bl false]) hp2
      have h2 : (upd H2 p2 (.tup [V.str d.shown, .bl true, .bl false])) p2 = some (.tup [V.str d.shown, .bl true, .bl false]) := upd_same
      generalize upd H2 p2 (.tup [V.str d.shown, .bl true, .bl false]) = H3 at *
      refine g_name ?_
      refine ⟨.ref p2, rfl, v, rfl, v, d, rfl, hS2.mono e3, by show 3 ≤ sizeLine; decide, fun p3 hp3 => ?_⟩
      have e4 := Ex.new (o := .tup [V.str d.shown, .bl true, .bl false]) hp3
      exact ⟨p2, p3, [.str d.shown, .bl true, .bl false], rfl, rfl, st_of (e4 _ _ h2), st_of upd_same, rfl, fun z hz => by
        rcases List.mem_cons.mp hz with q | hz
        · rw [q]; simp [eqV]
        · rcases List.mem_cons.mp hz with q | hz
          · rw [q]; simp [eqV]
          · rw [List.mem_singleton.mp hz]; simp [eqV], k _ ((e02.trans e3).trans e4)⟩
end
end Wk

set_option Elab.async false
set_option linter.all false
set_option maxRecDepth 100000
set_option maxHeartbeats 4000000
namespace Wk
open PySem PySem.Spec PyProof.Rows L2 Evl
/-! d.pop(k), k a tuple that is there -/
def rPop1T : V → List V → Hp → VK → Prop := fun x xs H Q => ∃ (a : Addr) (kvs : List (List L2.Key × V)) (k : List L2.Key) (b : Addr) (v : V), x = .ref a ∧ xs = [.ref b] ∧ H a = some (.dT kvs) ∧ H b = some (.tup (k.map kV)) ∧ valV kvs k = some v ∧ Q v (L2.upd H a (.dT (dropK kvs k)))
theorem without_drop {K : Type} [DecidableEq K] (xs : List (K × Addr × Value)) (k : K) : PySem.withoutH xs k = DT.dropH xs k := by
  rfl
theorem mt_pop1T {X : Cx} (hu : X.A.units + 1 < cLine) : MtR X "dict.pop" rPop1T := by
  intro pins s σ H x xs v us Q I rx rxs h
  obtain ⟨a, kvs, k, b, v0, rfl, rfl, ha, hb, hv, q1⟩ := h
  cases rx
  obtain ⟨u1, rfl, r1⟩ := vals1 rxs
  cases r1
  obtain ⟨z, hd, xs', rel, dd⟩ := dt_of I.hok ha
  have hz : xs'.length ≤ sizeLine := by rw [← Paired.length rel]; exact z
  have r := rel.val k
  rw [hv] at r
  obtain ⟨p, hp, rv⟩ : ∃ p, atKey xs' k = some p ∧ RelV v0 p.2 := by
    cases ek : atKey xs' k with
    | none =>
      rw [ek] at r
      exact (show False from r).elim
    | some p =>
      rw [ek] at r
      exact ⟨p, rfl, r⟩
  refine PySem.call_pop_heap (knd := tupleKind (mixKind X.prog X.w)) (more := []) (.inl rfl) (PySem.F.args_dict_pop_2 _ _) (tupleKind_room_in1 hu) (key_of I.hok hb) hd dd hp (fun h' dd' hs => ?_) hz
  rw [without_drop] at dd'
  obtain ⟨o, es, ep, hq, h2, h3, h4, _, h5⟩ := dd'
  have I2 : L2.Inv X pins σ (L2.upd H a (.dT (dropK kvs k))) { s with heap := h', toks := s.toks + (tupleKind (mixKind X.prog X.w)).draws k } :=
    d_write I (by rw [ha]; exact True.intro) hs ⟨o, hq⟩ ⟨Nat.le_trans (dropK_le kvs k) z, hd, _, (L2.DX.KT_drop k rel).keeps (fun c ys ec => (by rw [upd_ne (L2.ne_of ec ha (fun z => nomatch z))]; exact ec)), o, es, ep, hq, h2, h3, h4, h5⟩
  exact ⟨v0, _, I2, rv, q1⟩
end Wk

set_option Elab.async false
set_option linter.all false
set_option maxRecDepth 100000
set_option maxHeartbeats 4000000
namespace Wk
open PySem PySem.Spec PyProof.Rows L2 Evl
theorem aD_ints (r : List Nat) : aD r = .tuple ((r.map fun i : Nat => (i : Int)).map PyData.int) := by
  unfold aD
  rw [List.map_map]
  rfl
theorem all_true (m : Nat) : ((List.range m).map fun _ => true).all id = true := by
  rw [List.all_map]
  exact List.all_eq_true.mpr fun _ _ => rfl
theorem aD_sh (r : List Nat) : SeqAt.shaped (aD r) = true := by
  rw [aD_ints]
  exact shaped_ints _
theorem aD_lay (r : List Nat) : (aD r).canLay0 = true := SeqAt.canLay_of_shaped (aD_sh r)
theorem aD_eqv (r : List Nat) : PyData.eqv (aD r) (aD r) = true := by
  rw [aD_ints]
  show PyData.eqvAll _ _ = true
  rw [eqv_ints, decide_eq_true rfl]
section
variable {P : Program} {w : World} {K : PySem.W.Frag} {mg : Str → Option Value} {base : Heap} {f : Addr} {fd : FuncData} {CC CR CA CL CN CW CB : Addr}
structure MkC (P : Program) (w : World) (K : PySem.W.Frag) (mg : Str → Option Value) (base : Heap) (CC : Addr) : Prop where
  g : mg "Costs" = some (.ref CC)
  ex : ∃ (fI : Addr) (fd : FuncData), Mk K CC fI ∧ FnOk P w K mg base CX0 6 fI fd ["self", "size", "lines"] (spCIn CC) ∧ Binds K fd ["self", "size", "lines"] []
abbrev WF : L2.St → XK := fun _ _ _ _ => False
/-- Costs(size, lines) -/
theorem mk_cst {W : XK} {H : Hp} {D : Addr} {n : Nat} {kvs : List (List L2.Key × V)} {Q : Addr → Hp → Prop} (hD : H D = some (.dT kvs)) (h1 : 1 ≤ n) (h8 : n ≤ 8) (hok : LnOk n kvs) (hl : kvs.length ≤ 100) (k : ∀ x H', Ex H H' → H x = none → Cst CC H' x n kvs → Q x H') :
    ∀ x dx, H x = none → H dx = none → dx ≠ x → spCIn CC [.ref x, .int (n : Int), .ref D] (upd (upd H dx (.own x)) x (.ins CC dx [])) (fun v H2 => v = .non ∧ Q x H2) W := fun x dx nx ndx nex => by
  have hDx : (upd (upd H dx (.own x)) x (.ins CC dx [])) D = some (.dT kvs) := by
    rw [upd_ne (ne_of_none hD nx), upd_ne (ne_of_none hD ndx)]
    exact hD
  refine ⟨x, D, dx, n, kvs, rfl, upd_same, h1, h8, hDx, hok, hl, fun H' o hC => ⟨rfl, k x H' (fun b u hb => ?_) nx hC⟩⟩
  refine o b u (ne_of_none hb nx) ?_
  rw [upd_ne (ne_of_none hb nx), upd_ne (ne_of_none hb ndx)]
  exact hb
/-! _law_kept -/
structure Ck (P : Program) (w : World) (K : PySem.W.Frag) (mg : Str → Option Value) (base : Heap) (CC CR CA CL CN : Addr) : Prop where
  mkC : MkC P w K mg base CC
  mkR : MkR P w K mg base CR CC CA CL
  mq : MqC P w K mg base CC
  ars : MskX P w K mg base CR "areas" ["self", "router"] 5 (spArs CR CC CN)
  isI : Cal P w K mg base "_law_is_integer" ["_law_thing"] 1 spIsInt
  noR : CalG P w K mg base "_law_no_router" ["_law_areas", "_law_thing"] 6 (spNoRA CR CC)
def spKept : Sp := fun vs H Q _ => ∃ (D R : Addr) (us : List V) (n : Nat) (kvs : List (List L2.Key × V)) (rs : List (List Nat)), vs = [.int (n : Int), .ref D, .ref R] ∧ 1 ≤ n ∧ n ≤ 8 ∧ H D = some (.dT kvs) ∧ LnOk n kvs ∧ kvs.length ≤ 100 ∧ H R = some (.tup us) ∧ RwA H us rs ∧ rs.length = n ∧ (∀ r ∈ rs, ArOk r) ∧ firstL rs (linesL n kvs) = none ∧ ∀ H', Q (.bl true) H'
abbrev sKept : Stmt := top 39
abbrev nKept : List Str := ["_law_size", "_law_lines_here", "_law_rows", "_law_areas", "_law_router", "_law_told_here", "_law_thing", "_law_area"]
theorem scKept : FnScope nKept ["_law_size", "_law_lines_here", "_law_rows"] (defScope sKept) := ⟨rfl, rfl, rfl, by decide +kernel, rfl, by decide +kernel, by decide +kernel⟩
abbrev Sk (n : Nat) (D R y : Addr) (o4 o5 o6 : Option V) : L2.St := [some (.int (n : Int)), some (.ref D), some (.ref R), some (.ref y), o4, o5, o6, none]
theorem ok_kept (B : Bl mg) (Y : CXa K CR) (S : Ck P w K mg base CC CR CA CL CN) (F : FnP K "_law_kept" sKept f fd) : FnG P w K mg base 9 f fd ["_law_size", "_law_lines_here", "_law_rows"] spKept := by
  obtain ⟨fC, fdC, mkc, FC, bC⟩ := S.mkC.ex
  obtain ⟨fA, fdA, mka, FA, bA⟩ := S.mkR.ex
  obtain ⟨f1, fd1, me1, F1, b1⟩ := S.ars.ex
  refine okG F scKept (fun vs H Q E h => ?_) (fun cdv A outer s H vs Q E hr hg h => ?_)
  · obtain ⟨D, R, us, n, kvs, rs, rfl, _⟩ := h
    rfl
  · obtain ⟨D, R, us, n, kvs, rs, rfl, hn1, hn8, hD, hok, hl, hR, hA, hrl, hro, hf, k⟩ := h
    have r7 : Room 7 _ := hr.mono (by decide)
    have r6 : Room 6 _ := hr.mono (by decide)
    have r5 : Room 5 _ := hr.mono (by decide)
    have r1 : Room 1 _ := hr.mono (by decide)
    have hu : (A.deeper (envOfC "_law_kept" (defScope sKept) s.heap.objs.size f cdv)).units + 64 < cLine := by have := hr.un; omega
    refine ⟨_, pss_cons (ps_set (i := 3) scKept.nd rfl (Or.inl rfl) (pe_mkAt mka FA hr (by rfl) S.mkR.g bA (fun σ => passAt takes0 σ) (pa_cons (pe_mkAt (CX := CX0) (W := WF) mkc FC r7 (by rfl) S.mkC.g bC (fun _ _ _ _ _ _ _ h => h.elim) (pa_cons (pv 0) (pa_cons (pv 1) pa_nil))) (pa_cons (pv 2) pa_nil))))
      (pss_cons (ps_if (pt_cmpR op_isnot_bl (pe_cmpR (op_eqB (rc_DC S.mq) r1) (pe_fld (pv 3) rfl) (pe_mkAt (CX := CX0) (W := WF) mkc FC r7 (by rfl) S.mkC.g bC (fun _ _ _ _ _ _ _ h => h.elim) (pa_cons (pv 0) (pa_cons (pv 1) pa_nil))) (nomark _)) pe_bl (nomark _)) (pss_one (ps_ret pe_bl)) pss_nil)
      (pss_cons (ps_for (passes_of rfl) rfl (pi_range1 (by rfl) B.range (pa_cons (pv 0) pa_nil)) (pg_name (i := 4) scKept.nd rfl (Or.inl rfl))
        (pss_cons (ps_set (i := 5) scKept.nd rfl (Or.inl rfl) (pe_meAt (pv 3) Y.cl me1 F1 r5 b1 (fun σ => passAt takes0 σ) (pa_cons (pv 4) pa_nil)))
        (pss_cons (ps_if (PW.pt (pw_or (pt_not (pt_val (pe_callB call_isi (by rfl) B.isi boot_isinstance (pa_cons (pv 5) (pa_cons (pe_bltn (v := .ty "tuple") (by rfl) B.tuple PyProof.Rows.boot_tuple rfl) pa_nil))))) (pw_or1 (pt_cmpR (op_neD hu) (pv 5) (pe_ix (ix_tupK (K := K) rfl) (pv 2) (pv 4) (fun _ _ => rfl)) (nomark _))))) (pss_one (ps_ret pe_bl)) pss_nil)
        (pss_one (ps_if (pt_not (pt_val (pe_callB (cr_all rfl) (by rfl) B.all boot_all (pa_cons (pe_lc (own := [("_law_area", 7)]) (g := gName 7) (tt := tYes) (te := tCall spIsInt [] E0 (tCons (tVar 7) tNil)) rfl scKept.nd (pi_tup (pv 5)) (blkOk_by (N := nKept) (sc := defScope sKept) (by decide +kernel))
          (fun _ _ _ _ _ => pg_name (i := 7) scKept.nd rfl (Or.inl rfl)) (fun _ _ _ _ _ => pts_nil) (fun _ _ _ _ _ => pe_cal S.isI r1 (by rfl) (pa_cons (pv 7) pa_nil))) pa_nil)))) (pss_one (ps_ret pe_bl)) pss_nil)))))
      (pss_cons (ps_for (passes_of rfl) rfl (pi_list (pe_lst (pa_cons (pv 0) (pa_cons (pe_un un_neg pe_int) (pa_cons (pe_op op_pow pe_int pe_int) (pa_cons pe_bl (pa_cons pe_bl (pa_cons pe_non (pa_cons pe_str (pa_cons (pe_tup (pa_cons pe_int pa_nil)) (pa_cons (pe_lst (pa_cons pe_int pa_nil)) (pa_cons pe_dnewK pa_nil)))))))))))) (pg_name (i := 6) scKept.nd rfl (Or.inl rfl))
        (pss_one (ps_if (pt_not (pt_val (pe_calG S.noR r6 hg (by rfl) (pa_cons (pv 3) (pa_cons (pv 6) pa_nil))))) (pss_one (ps_ret pe_bl)) pss_nil)))
      (pss_one (ps_ret pe_bl))))), ?_⟩
    refine ⟨.int (n : Int), rfl, .ref D, rfl, ?_⟩
    refine mk_cst hD hn1 hn8 hok hl fun x H1 e1 nx hC => ?_
    refine ⟨.ref R, rfl, fun y dy ny ndy ney => ?_⟩
    have e2 : Ex H1 (upd (upd H1 dy (.own y)) y (.ins CR dy [])) := fun b o hb => by
      rw [upd_ne (ne_of_none hb ny), upd_ne (ne_of_none hb ndy)]
      exact hb
    have hyx : y ≠ x := fun z => by
      obtain ⟨_, _, _, q, _⟩ := hC
      rw [← z, ny] at q
      cases q
    have hR1 := e1 _ _ hR
    have hA1 := hA.mono e1
    have hdR : Dq H1 (.ref R) (dR rs) := .tup hR1 hA1.dq
    have hll : (itemsT (dR rs)).length ≤ 60 := by
      show (rs.map aD).length ≤ 60
      rw [List.length_map]
      omega
    have hls : ∀ x ∈ itemsT (dR rs), (itemsT x).length ≤ 60 := fun x hx => by
      obtain ⟨r, hr, rfl⟩ := List.mem_map.mp (show x ∈ rs.map aD from hx)
      have := (hro r hr).len
      show (r.map nD).length ≤ 60
      rw [List.length_map]
      omega
    refine ⟨y, dy, x, n, .ref R, dR rs, kvs, rfl, upd_same, hyx, hC.mono e2, hn8, hok, hdR.mono e2, hll, hls, fun i hi => ?_, fun ss hss _ _ => ?_⟩
    · rw [fault_dR hrl hro] at hi
      cases hi
    have := dR_inj hss
    subst this
    refine ⟨fun a b hab => ?_, fun _ H2 o2 hArt => ⟨rfl, ?_⟩⟩
    · rw [hf] at hab
      cases hab
    have e12 : Ex H1 H2 := fun b o hb => o2 b o (fun z => by rw [z, ny] at hb; cases hb) (e2 _ _ hb)
    have hD2 := (e1.trans e12) _ _ hD
    have hR2 := e12 _ _ hR1
    have hA2 := hA1.mono e12
    refine g_name ?_
    dsimp only
    change tSeq _ _ _ (Sk n D R y none none none) H2
    obtain ⟨dy', fy, t', us', a1, a2, a3, a4, a5, a6, a7, a8⟩ := id hArt
    have c1 : Ev (tOp (fun x y H Q => ∃ a b, x = .bl a ∧ y = .bl b ∧ Q (.bl (!decide (a = b))) H) (tOp (rEqB (DCs CC)) (tFld K (tVar 3) "costs") (tMkAt CC (spCIn CC) WF (tCons (tVar 0) (tCons (tVar 1) tNil)))) (tC (.bl true))) (Sk n D R y none none none) H2 (.bl false) := fun H3 e3 Q3 q3 => by
      refine ⟨.ref y, rfl, y, CR, dy', fy, _, rfl, e3 _ _ a1, Y.cl, Y.nC, a2, .int (n : Int), rfl, .ref D, rfl, ?_⟩
      refine mk_cst (e3 _ _ hD2) hn1 hn8 hok hl fun z H4 e4 nz hCz => ?_
      refine ⟨_, dc_of (a8.mono (e3.trans e4)) hCz hok.flat hok.flat, fun H5 e5 => ⟨_, true, rfl, rfl, ?_⟩⟩
      rw [decide_eq_true rfl, eqDT_yes rfl hok.nd (fun _ => rfl) hok.eqv]
      exact q3 H5 (e4.trans e5)
    refine q_when (b := false) (et_test c1) (fun z => by cases z) fun _ H3 e3 => ?_
    have hArt3 := hArt.mono e3
    have hR3 := e3 _ _ hR2
    have hA3 := hA2.mono e3
    clear c1 a1 a2 a3 a4 a5 a6 a7 a8
    refine q_forR1 (ea_cons (ev_var rfl) ea_nil) (n := (n : Int)) (by omega) (fun i σ' H' => ∃ (o4 o5 : Option V), σ' = Sk n D R y o4 o5 none ∧ Ex H3 H') (fun H4 e4 => ⟨_, _, rfl, e4⟩) ?_ ?_
    · rintro i σ' H4 hi ⟨o4, o5, rfl, e4⟩
      have hin : i < n := by omega
      change tSeq _ _ _ (Sk n D R y (some (.int (i : Int))) o5 none) H4
      have hArt4 := hArt3.mono e4
      obtain ⟨dy', fy, t', us', a1, a2, a3, a4, a5, a6, a7, a8⟩ := id hArt4
      refine ⟨.ref y, rfl, y, dy', fy, rfl, a1, a4, .int (i : Int), rfl, y, x, n, .int (i : Int), .int (i : Int), kvs, rs, rfl, hArt4, .int _, fun i' hi' hv H5 b e5 hb => ?_, fun hb => ?_⟩
      rotate_left
      · rw [isR_yes hin] at hb
        cases hb
      have hii : i' = i := by injection hv with hv; omega
      subst hii
      refine g_name ?_
      dsimp only
      change tSeq _ _ _ (Sk n D R y (some (.int (i' : Int))) (some (.ref b)) none) H5
      obtain ⟨bb, hub, hbb⟩ := rwa_at hA3 (i := i') (by omega)
      have c1 : Ev (tCB (rIsi K) (tCons (tVar 5) (tCons (tC (.ty "tuple")) tNil))) (Sk n D R y (some (.int (i' : Int))) (some (.ref b)) none) H5 (.bl true) := ev_isk (K := K) (ev_var rfl) (isk_tup hb (show kitB "tuple" "tuple" = some true by decide +kernel))
      have c2 : Ev (tOp (rNeD K) (tVar 5) (tOp (rIxT K) (tVar 2) (tVar 4))) (Sk n D R y (some (.int (i' : Int))) (some (.ref b)) none) H5 (.bl false) := by
        refine ev_op (ev_var (v := .ref b) rfl) (ev_op (ev_var rfl) (ev_var rfl) (rv_ixT (st_of ((e4.trans e5) _ _ hR3)) (atI_nat hub))) ?_
        intro H6 e6 Q6 q6
        refine ⟨aD (rs.getD i' []), aD (rs.getD i' []), Dq.dp (aD_lay _) (.tup (e6 _ _ hb) dqa_aV), Dq.dp (aD_lay _) (.tup (((e4.trans e5).trans e6) _ _ hbb) dqa_aV), aD_sh _, aD_sh _, ?_⟩
        rw [aD_eqv]
        exact q6 H6 (Ex.refl _)
      refine q_when (b := !true || false) (et_or (et_not (et_B c1)) fun _ => et_test c2) (fun z => by cases z) fun _ H6 e6 => ?_
      have hb6 := e6 _ _ hb
      have c3 : Ev (tCB (rAll K) (tCons (tLc (iTup K (tVar 5)) (gName 7) tYes (tCall spIsInt [] E0 (tCons (tVar 7) tNil)) [7]) tNil)) (Sk n D R y (some (.int (i' : Int))) (some (.ref b)) none) H6 (.bl (((List.range (aV (rs.getD i' [])).length).map fun _ => true).all id)) :=
        ev_allT (K := K) (fun _ => true) (ev_var rfl) (st_of hb6) (by
          rw [aV_len]
          have : rs.getD i' [] ∈ rs := by
            rw [List.getD_eq_getElem?_getD, List.getElem?_eq_getElem (show i' < rs.length by omega)]
            exact List.getElem_mem _
          have := (hro _ this).len
          omega) (fun _ => rfl) fun j z H7 e7 hz => by
            rw [aV_at hz]
            exact ev_call (ea_cons (ev_var rfl) ea_nil) (spP_v fun H8 e8 => ⟨_, .int _, rfl, .int _, rfl⟩)
      rw [all_true] at c3
      exact s_when (b := !true) (et_not (et_B c3)) (fun z => by cases z) fun _ H7 e7 => ⟨_, _, rfl, e4.trans ((e5.trans e6).trans e7)⟩
    · rintro σ' H4 ⟨o4, o5, rfl, e4⟩
      have hArt4 := hArt3.mono e4
      refine s_forM (K := K) (C := fun L xs H' => Ex H4 H' ∧ H' L = some (.lst xs) ∧ DqA H' xs (things n)) (fun Q2 kk => ?_) ?_
      · refine ⟨.int (n : Int), rfl, 1, rfl, 10, 20, rfl, rfl, ⟨by decide, by decide, by decide⟩, by show 1 ≤ sizeLine; decide, fun t nt => ?_⟩
        have et := Ex.new (o := .tup [V.int 0]) nt
        have ht : (upd H4 t (.tup [V.int 0])) t = some (.tup [V.int 0]) := upd_same
        generalize upd H4 t (.tup [V.int 0]) = H14 at *
        refine ⟨by show 1 ≤ sizeLine; decide, fun u nu => ?_⟩
        have eu := Ex.new (o := .lst [V.int 0]) nu
        have hu' : (upd H14 u (.lst [V.int 0])) u = some (.lst [V.int 0]) := upd_same
        have ht' := eu _ _ ht
        generalize upd H14 u (.lst [V.int 0]) = H15 at *
        intro D2 nD2
        have eD := Ex.new (o := .dK []) nD2
        have hD2 : (upd H15 D2 (.dK [])) D2 = some (.dK []) := upd_same
        have hu2 := eD _ _ hu'
        have ht2 := eD _ _ ht'
        generalize upd H15 D2 (.dK []) = H16 at *
        refine ⟨by show 10 ≤ sizeLine; decide, fun L nL => ?_⟩
        have eL := Ex.new (o := .lst [V.int (n : Int), .int (-1), .int ((10 : Int) ^ (20 : Int).toNat), .bl true, .bl false, .non, .str "0", .ref t, .ref u, .ref D2]) nL
        exact kk L _ _ ⟨((et.trans eu).trans eD).trans eL, upd_same, .cons (.int _) (.cons (.int _) (.cons (.int _) (.cons (.bl _) (.cons (.bl _) (.cons .non (.cons (.str _) (.cons (.tup (eL _ _ ht2) (.cons (.int _) .nil)) (.cons (.lst (eL _ _ hu2) (.cons (.int _) .nil)) (.cons (.dic (eL _ _ hD2)) .nil)))))))))⟩
      rintro L ys H14 ⟨e14, hL, hys⟩
      have hArt14 := hArt4.mono e14
      refine ⟨sq_of hL, fun i σ' H' => Ex H14 H' ∧ ∃ o, σ' = Sk n D R y o4 o5 o, ⟨Ex.refl _, _, rfl⟩, (fun i σ' H' _ h => sq_of (h.1 _ _ hL)), ?_, ?_⟩
      · rintro i z σ' H15 hz ⟨e15, o, rfl⟩
        obtain ⟨dz, edz, hdz⟩ := hys.get hz
        have hth := things_no hn1 hn8 dz (List.mem_of_getElem? edz)
        have hdz := hdz.mono e15
        refine g_name ?_
        change tIfS _ _ _ _ (Sk n D R y o4 o5 (some z)) H15
        have c1 : Ev (tCall (spNoRA CR CC) [] E0 (tCons (tVar 3) (tCons (tVar 6) tNil))) (Sk n D R y o4 o5 (some z)) H15 (.bl true) :=
          ev_call (ea_cons (x := .ref y) (ev_var rfl) (ea_cons (x := z) (ev_var rfl) ea_nil)) fun H16 e16 Q2 q2 E2 => ⟨y, x, n, z, dz, kvs, rs, rfl, hArt14.mono (e15.trans e16), hdz.mono e16, hth.1, hth.shw (hdz.mono e16), q2⟩
        exact s_when (b := !true) (et_not (et_B c1)) (fun z => by cases z) fun _ H17 e17 => ⟨e15.trans e17, _, rfl⟩
      · rintro σ' H15 ⟨e15, o, rfl⟩
        exact k H15
end
end Wk

set_option Elab.async false
set_option linter.all false
set_option maxRecDepth 100000
set_option maxHeartbeats 4000000
namespace Wk
open PySem PySem.Spec PyProof.Rows L2 Evl
/-! the first wrong line, in order -/
def bad (rs : List (List Nat)) (a b : Nat) : Bool := !decide ((cmn (rs.getD a []) (rs.getD b [])).length = 1)
theorem firstL_none {rs : List (List Nat)} : ∀ {ls : List (Nat × Nat × Nat)}, firstL rs ls = none ↔ ∀ l ∈ ls, bad rs l.1 l.2.1 = false
  | [] => ⟨fun _ l h => (by cases h), fun _ => rfl⟩
  | m :: ls => by
    unfold firstL
    by_cases c : (cmn (rs.getD m.1 []) (rs.getD m.2.1 [])).length = 1
    · rw [if_pos c, firstL_none (ls := ls)]
      constructor
      · intro h l hl
        rcases List.mem_cons.mp hl with z | z
        · rw [z]; unfold bad; rw [decide_eq_true c]; rfl
        · exact h l z
      · intro h l hl
        exact h l (List.mem_cons_of_mem _ hl)
    · rw [if_neg c]
      constructor
      · intro z; cases z
      · intro h
        have := h m List.mem_cons_self
        unfold bad at this
        rw [decide_eq_false c] at this
        cases this
theorem firstL_some {rs : List (List Nat)} {a b : Nat} : ∀ {ls : List (Nat × Nat × Nat)}, firstL rs ls = some (a, b) → ls.Pairwise (fun l m => l.1 < m.1 ∨ (l.1 = m.1 ∧ l.2.1 < m.2.1)) → (∃ c, (a, b, c) ∈ ls) ∧ bad rs a b = true ∧ ∀ l ∈ ls, bad rs l.1 l.2.1 = true → ¬ (l.1 < a ∨ (l.1 = a ∧ l.2.1 < b))
  | [], h, _ => by cases h
  | m :: ls, h, hp => by
    obtain ⟨p1, p2⟩ := List.pairwise_cons.mp hp
    unfold firstL at h
    by_cases c : (cmn (rs.getD m.1 []) (rs.getD m.2.1 [])).length = 1
    · rw [if_pos c] at h
      obtain ⟨⟨d, h1⟩, h2, h3⟩ := firstL_some h p2
      refine ⟨⟨d, List.mem_cons_of_mem _ h1⟩, h2, fun l hl hb => ?_⟩
      rcases List.mem_cons.mp hl with z | z
      · rw [z] at hb
        unfold bad at hb
        rw [decide_eq_true c] at hb
        cases hb
      · exact h3 l z hb
    · rw [if_neg c] at h
      cases h
      refine ⟨⟨m.2.2, List.mem_cons_self⟩, by unfold bad; rw [decide_eq_false c]; rfl, fun l hl _ => ?_⟩
      rcases List.mem_cons.mp hl with z | z
      · rw [z]; omega
      · have := p1 l z
        omega
theorem linesL_asc (n : Nat) (kvs : List (List L2.Key × V)) : (linesL n kvs).Pairwise (fun l m => l.1 < m.1 ∨ (l.1 = m.1 ∧ l.2.1 < m.2.1)) := by
  unfold linesL
  rw [List.pairwise_map]
  refine List.Pairwise.imp (fun {r s} h => ?_) (List.Pairwise.filter _ (List.pairwise_lt_range (n := n * n)))
  show r / n < s / n ∨ (r / n = s / n ∧ r % n < s % n)
  have h1 := Nat.div_le_div_right (c := n) (Nat.le_of_lt h)
  have h2 := Nat.div_add_mod r n
  have h3 := Nat.div_add_mod s n
  by_cases c : r / n < s / n
  · exact .inl c
  · have e : r / n = s / n := by omega
    rw [e] at h2
    exact .inr ⟨e, by omega⟩
theorem mem_linesL {n : Nat} {kvs : List (List L2.Key × V)} (hok : LnOk n kvs) (a b : Nat) : (∃ c, (a, b, c) ∈ linesL n kvs) ↔ Lk a b ∈ kvs.map (·.1) := by
  unfold linesL
  constructor
  · rintro ⟨c, h⟩
    obtain ⟨r, h1, h2⟩ := List.mem_map.mp h
    have hf := (List.mem_filter.mp h1).2
    injection h2 with h2 h3
    injection h3 with h3 h4
    rw [h2, h3] at hf
    rcases lin_val hok a b with ⟨c, g1, _⟩ | ⟨_, g2⟩
    · exact List.mem_map.mpr ⟨_, val_mem g1, rfl⟩
    · rw [g2] at hf; cases hf
  · intro h
    obtain ⟨v, hv⟩ := val_some h
    rcases lin_val hok a b with ⟨c, g1, g2, ha, hb, _⟩ | ⟨g1, _⟩
    · have hpos : 0 < n := by omega
      have d1 : (b + a * n) / n = a := by rw [Nat.add_mul_div_right _ _ hpos, Nat.div_eq_of_lt hb, Nat.zero_add]
      have d2 : (b + a * n) % n = b := by rw [Nat.add_mul_mod_self_right, Nat.mod_eq_of_lt hb]
      have hlt : b + a * n < n * n := by
        have : (a + 1) * n ≤ n * n := Nat.mul_le_mul_right _ ha
        rw [Nat.succ_mul] at this
        omega
      refine ⟨(Lin kvs a b).getD 0, List.mem_map.mpr ⟨b + a * n, List.mem_filter.mpr ⟨List.mem_range.mpr hlt, by rw [d1, d2, g2]; rfl⟩, by rw [d1, d2]⟩⟩
    · rw [g1] at hv; cases hv
def badx (rs : List (List Nat)) (kp : V → Int × Int) (x : V) : Bool := bad rs (kp x).1.toNat (kp x).2.toNat
theorem wrong_nil {n : Nat} {kvs : List (List L2.Key × V)} {rs : List (List Nat)} {kp : V → Int × Int} {ys : List V} (hok : LnOk n kvs) (h2 : ∀ a b : Nat, Lk a b ∈ kvs.map (·.1) → ∃ x ∈ ys, kp x = ((a : Int), (b : Int))) (h : ys.filter (badx rs kp) = []) : firstL rs (linesL n kvs) = none := by
  refine firstL_none.mpr fun l hl => ?_
  obtain ⟨x, hx, hk⟩ := h2 l.1 l.2.1 ((mem_linesL hok l.1 l.2.1).mp ⟨l.2.2, hl⟩)
  have := List.filter_eq_nil_iff.mp h x hx
  unfold badx at this
  rw [hk] at this
  simpa using this
theorem wrong_cons {n : Nat} {kvs : List (List L2.Key × V)} {rs : List (List Nat)} {kp : V → Int × Int} {ys : List V} (hok : LnOk n kvs) (h1 : ∀ x ∈ ys, ∃ a b : Nat, kp x = ((a : Int), (b : Int)) ∧ Lk a b ∈ kvs.map (·.1)) (h2 : ∀ a b : Nat, Lk a b ∈ kvs.map (·.1) → ∃ x ∈ ys, kp x = ((a : Int), (b : Int))) (hs : SrtO.Srtd (ltP kp) ys) {x : V} {l : List V} (h : ys.filter (badx rs kp) = x :: l) :
    ∃ a b : Nat, kp x = ((a : Int), (b : Int)) ∧ firstL rs (linesL n kvs) = some (a, b) := by
  have hx : x ∈ ys.filter (badx rs kp) := by rw [h]; exact List.mem_cons_self
  obtain ⟨hx1, hx2⟩ := List.mem_filter.mp hx
  obtain ⟨a, b, hk, hm⟩ := h1 x hx1
  unfold badx at hx2
  rw [hk] at hx2
  simp only [Int.toNat_natCast] at hx2
  refine ⟨a, b, hk, ?_⟩
  cases hf : firstL rs (linesL n kvs) with
  | none =>
    obtain ⟨c, hc⟩ := (mem_linesL hok a b).mpr hm
    have := firstL_none.mp hf _ hc
    rw [hx2] at this
    cases this
  | some q =>
    obtain ⟨u, v⟩ := q
    obtain ⟨⟨c, hc⟩, hb, hle⟩ := firstL_some hf (linesL_asc n kvs)
    obtain ⟨c', hc'⟩ := (mem_linesL hok a b).mpr hm
    have g1 := hle _ hc' hx2
    obtain ⟨y, hy, hky⟩ := h2 u v ((mem_linesL hok u v).mp ⟨c, hc⟩)
    have hyb : badx rs kp y = true := by unfold badx; rw [hky]; exact hb
    have hyf : y ∈ ys.filter (badx rs kp) := List.mem_filter.mpr ⟨hy, hyb⟩
    have hsf : SrtO.Srtd (ltP kp) (ys.filter (badx rs kp)) := List.Pairwise.filter _ hs
    rw [h] at hyf hsf
    rcases List.mem_cons.mp hyf with z | z
    · rw [z, hk] at hky
      injection hky with e1 e2
      have : a = u := by omega
      have : b = v := by omega
      subst_vars
      rfl
    · have g2 := SrtO.srtd_head hsf y z
      have g2 := SrtO.lexB_no.mp g2
      rw [hk, hky] at g2
      simp only at g1 g2
      have : a = u := by omega
      have : b = v := by omega
      subst_vars
      rfl
theorem LnOk.drop {n : Nat} {kvs : List (List L2.Key × V)} (h : LnOk n kvs) (k : List L2.Key) : LnOk n (dropK kvs k) := ⟨fun kv hk => h.it kv (List.mem_filter.mp hk).1, by
  unfold dropK
  exact h.nd.sublist (List.filter_sublist.map _)⟩
theorem drop_mem {kvs : List (List L2.Key × V)} {k k' : List L2.Key} (h : k' ∈ kvs.map (·.1)) (ne : k' ≠ k) : k' ∈ (dropK kvs k).map (·.1) := by
  obtain ⟨kv, h1, rfl⟩ := List.mem_map.mp h
  exact List.mem_map.mpr ⟨kv, List.mem_filter.mpr ⟨h1, by simpa using ne⟩, rfl⟩
theorem nd_at {kvs : List (List L2.Key × V)} (h : (kvs.map (·.1)).Nodup) {i j : Nat} {a b : List L2.Key × V} (ha : kvs[i]? = some a) (hb : kvs[j]? = some b) (hij : i ≠ j) : b.1 ≠ a.1 := fun z => by
  have h1 : (kvs.map (·.1))[i]? = some a.1 := by rw [List.getElem?_map, ha]; rfl
  have h2 : (kvs.map (·.1))[j]? = some a.1 := by rw [List.getElem?_map, hb, ← z]; rfl
  have l1 := (List.getElem?_eq_some_iff.mp h1).1
  exact hij ((List.getElem?_inj l1 h).mp (h1.trans h2.symm))
/-- the first item that is no row -/
theorem first_at : ∀ {ds : List PyData} {i j : Nat} {d : PyData}, ds[j]? = some d → isAr d = false → (∀ k x, k < j → ds[k]? = some x → isAr x = true) → firstA i ds = some ((i + j : Nat) : Int)
  | [], i, j, d, h, _, _ => by cases h
  | e :: ds, i, 0, d, h, hd, _ => by
    cases h
    unfold firstA
    rw [hd]
    rfl
  | e :: ds, i, j + 1, d, h, hd, hb => by
    have he := hb 0 e (by omega) rfl
    unfold firstA
    rw [if_pos he, first_at (i := i + 1) (j := j) (d := d) h hd fun k x hk hx => hb (k + 1) x (by omega) hx]
    congr 1
    omega
theorem set_at {ds : List PyData} {i k : Nat} {d x : PyData} (h : (ds.set i d)[k]? = some x) : (k = i ∧ x = d) ∨ (k ≠ i ∧ ds[k]? = some x) := by
  rw [List.getElem?_set] at h
  split at h
  · rename_i c
    split at h
    · cases h; exact .inl ⟨c.symm, rfl⟩
    · cases h
  · rename_i c
    exact .inr ⟨fun z => c z.symm, h⟩
theorem set_hit {ds : List PyData} {i : Nat} {d : PyData} (h : i < ds.length) : (ds.set i d)[i]? = some d := by
  rw [List.getElem?_set, if_pos rfl, if_pos h]
end Wk

set_option Elab.async false
set_option linter.all false
set_option maxRecDepth 100000
set_option maxHeartbeats 8000000
namespace Wk
open PySem PySem.Spec PyProof.Rows L2 Evl
def kpOf (H : Hp) (x : V) : Int × Int := match x with
  | .ref t => match H t with
    | some (.tup [.int i, .int j]) => (i, j)
    | _ => (0, 0)
  | _ => (0, 0)
theorem kpOf_at {H : Hp} {t : Addr} {i j : Int} (h : H t = some (.tup [.int i, .int j])) : kpOf H (.ref t) = (i, j) := by
  unfold kpOf
  simp only [h]
theorem RwA.snoc {H : Hp} {us : List V} {rs : List (List Nat)} {b : Addr} {r : List Nat} (h : RwA H us rs) (hb : H b = some (.tup (aV r))) : RwA H (us ++ [.ref b]) (rs ++ [r]) := ⟨by rw [List.length_append, List.length_append, h.1]; rfl, fun i v hv => by
  by_cases c : i < us.length
  · rw [List.getElem?_append_left c] at hv
    obtain ⟨b', h1, h2⟩ := h.2 i v hv
    have e : (rs ++ [r]).getD i [] = rs.getD i [] := by rw [List.getD_eq_getElem?_getD, List.getElem?_append_left (by rw [← h.1]; exact c), List.getD_eq_getElem?_getD]
    exact ⟨b', h1, by rw [e]; exact h2⟩
  · rw [List.getElem?_append_right (by omega)] at hv
    have hi0 : i - us.length = 0 := by
      cases hz : i - us.length with
      | zero => rfl
      | succ q => rw [hz] at hv; cases hv
    rw [hi0] at hv
    cases hv
    have e : (rs ++ [r]).getD i [] = r := by rw [List.getD_eq_getElem?_getD, List.getElem?_append_right (by rw [← h.1]; omega), ← h.1, hi0]; rfl
    exact ⟨b, rfl, by rw [e]; exact hb⟩⟩
theorem Pm.noTup {G H : Hp} {p q : Addr} (h : Pm G H p q) : ∃ z, H p = some z ∧ ∀ xs, z ≠ .tup xs := by
  obtain ⟨_, _, _, h2, _⟩ := h.at_
  exact ⟨_, h2, fun xs z => by cases z⟩
theorem RwA.pool {G H H' : Hp} {p q : Addr} {us : List V} {rs : List (List Nat)} (hP : Pm G H p q) (o : Of1 p H H') (h : RwA H us rs) : RwA H' us rs := by
  obtain ⟨z, h1, h2⟩ := hP.noTup
  exact h.of1 o h1 h2
theorem tup_pool {G H H' : Hp} {p q t : Addr} {xs : List V} (hP : Pm G H p q) (o : Of1 p H H') (h : H t = some (.tup xs)) : H' t = some (.tup xs) := o _ _ (fun z => by
  obtain ⟨u, h1, h2⟩ := hP.noTup
  rw [z, h1] at h
  cases h
  exact h2 _ rfl) h
theorem lens_dR {n : Nat} {rs : List (List Nat)} (h1 : rs.length = n) (h8 : n ≤ 8) (h2 : ∀ r ∈ rs, ArOk r) : (itemsT (dR rs)).length ≤ 60 ∧ ∀ x ∈ itemsT (dR rs), (itemsT x).length ≤ 60 := by
  refine ⟨?_, fun x hx => ?_⟩
  · show (rs.map aD).length ≤ 60
    rw [List.length_map]
    omega
  · obtain ⟨r, hr, rfl⟩ := List.mem_map.mp (show x ∈ rs.map aD from hx)
    have := (h2 r hr).len
    show (r.map nD).length ≤ 60
    rw [List.length_map]
    omega
theorem told_flat {n : Nat} {kvs : List (List L2.Key × V)} {d : PyData} {res : List V} (h : Told n kvs d res) : res.all flatV = true ∧ ∀ z ∈ res, eqV z z = true := by
  have go : ∀ (a b : Str), ([V.str a, .str b, .bl true, .bl false]).all flatV = true ∧ ∀ z ∈ [V.str a, .str b, .bl true, .bl false], eqV z z = true := fun a b => ⟨rfl, fun z hz => by
    rcases List.mem_cons.mp hz with q | hz
    · rw [q]; simp [eqV]
    rcases List.mem_cons.mp hz with q | hz
    · rw [q]; simp [eqV]
    rcases List.mem_cons.mp hz with q | hz
    · rw [q]; simp [eqV]
    · rw [List.mem_singleton.mp hz]; simp [eqV]⟩
  rcases h with ⟨i, _, rfl⟩ | ⟨rs, a, b, _, _, _, _, _, _, rfl⟩ <;> exact go _ _
theorem sh_int {i : Nat} (h : i < 8) : V.str (toString (i : Int)) = V.str (PyData.int (i : Int)).shown := by
  have : i = 0 ∨ i = 1 ∨ i = 2 ∨ i = 3 ∨ i = 4 ∨ i = 5 ∨ i = 6 ∨ i = 7 := by omega
  rcases this with rfl | rfl | rfl | rfl | rfl | rfl | rfl | rfl <;> first | rfl | (congr 1; decide +kernel)
theorem int_one (m : Nat) : decide (V.int (m : Int) = V.int 1) = decide (m = 1) := by
  refine decide_eq_decide.mpr ⟨fun z => by injection z with z; omega, fun z => by rw [z]; rfl⟩
/-- what due is behind the lines -/
def DueL (n : Nat) (kv : List (List L2.Key × V)) (rs : List (List Nat)) (dv : V) (H : Hp) : Prop := (firstL rs (linesL n kv) = none ∧ dv = .non) ∨ (∃ (a b : Nat) (u : Addr), firstL rs (linesL n kv) = some (a, b) ∧ a < 8 ∧ b < 8 ∧ dv = .ref u ∧ H u = some (.tup [.str "line", .str (pD2 a b).shown, .bl true, .bl false]))
theorem DueL.mono {n : Nat} {kv : List (List L2.Key × V)} {rs : List (List Nat)} {dv : V} {H H' : Hp} (e : Ex H H') (h : DueL n kv rs dv H) : DueL n kv rs dv H' := h.imp id fun ⟨a, b, u, h1, h2, h3, h4, h5⟩ => ⟨a, b, u, h1, h2, h3, h4, e _ _ h5⟩
abbrev Sl (a0 p : Addr) (sp : Int) (n : Nat) (T D : Addr) (o6 o7 o8 o9 o10 o11 : Option V) : L2.St := [some (.ref a0), some (.ref p), some (.int sp), some (.int (n : Int)), some (.ref T), some (.ref D), o6, o7, o8, o9, o10, o11, none]
section
variable {P : Program} {w : World} {K : PySem.W.Frag} {mg : Str → Option Value} {base : Heap} {f : Addr} {fd : FuncData} {CC CR CA CL CN CW CB : Addr}
structure Cs (P : Program) (w : World) (K : PySem.W.Frag) (mg : Str → Option Value) (base : Heap) (CC : Addr) : Prop where
  pool : Cal P w K mg base "_law_pool" ["_law_script"] 1 (spPool K)
  draw : Cal P w K mg base "_law_draw" ["_law_pool_here", "_law_limit"] 2 spDraw
  lns : Cal P w K mg base "_law_lines" ["_law_pool_here", "_law_size", "_law_most"] 3 spLns
  row : Cal P w K mg base "_law_row" ["_law_pool_here"] 3 spRow
  noRw : Cal P w K mg base "_law_no_row" ["_law_pool_here"] 3 spNoRw
  noRs : Cal P w K mg base "_law_no_rows" ["_law_pool_here", "_law_rows"] 3 spNoRs
  shr : Cal P w K mg base "_law_shared" ["_law_rows", "_law_pair"] 1 spShr
  told : CalG P w K mg base "_law_told" ["_law_costs", "_law_rows"] 9 (spTold CC)
  kept : CalG P w K mg base "_law_kept" ["_law_size", "_law_lines_here", "_law_rows"] 9 spKept
  mkC : MkC P w K mg base CC
/-! law -/
def spLaw (K : PySem.W.Frag) : Sp := fun vs H Q _ => ∃ (a : Addr) (ns : List Int), vs = [.ref a] ∧ SqL K H a (ns.map V.int) ∧ ns.length ≤ 63 ∧ ∀ H', Q (.bl true) H'
abbrev sLaw : Stmt := top 40
abbrev nLaw : List Str := ["_law_script", "_law_pool_here", "_law_spoil", "_law_size", "_law_good", "_law_lines_here", "_law_pair", "_law_wrong", "_law_due", "_law_rows", "_law_at", "_law_other", "_law_router"]
theorem scLaw : FnScope nLaw ["_law_script"] (defScope sLaw) := ⟨rfl, rfl, rfl, by decide +kernel, rfl, by decide +kernel, by decide +kernel⟩
theorem ok_law (B : Bl mg) (hso : mg "sorted" = none) (S : Cs P w K mg base CC) (F : FnP K "law" sLaw f fd) : FnG P w K mg base 10 f fd ["_law_script"] (spLaw K) := by
  obtain ⟨fI, fdI, mk, FI, bI⟩ := S.mkC.ex
  refine okG F scLaw (fun vs H Q E h => ?_) (fun cdv A outer s H vs Q E hr hg h => ?_)
  · obtain ⟨a, ns, rfl, _⟩ := h
    rfl
  · obtain ⟨a0, ns, rfl, hS, hns, k⟩ := h
    have hu : (A.deeper (envOfC "law" (defScope sLaw) s.heap.objs.size f cdv)).units + 64 < cLine := by have := hr.un; omega
    have hu0 : (A.deeper (envOfC "law" (defScope sLaw) s.heap.objs.size f cdv)).units < cLine := by omega
    have hu1 : (A.deeper (envOfC "law" (defScope sLaw) s.heap.objs.size f cdv)).units + 1 < cLine := by omega
    have r7 : Room 7 _ := hr.mono (by decide)
    refine ⟨_, pss_cons (ps_set (i := 1) scLaw.nd rfl (Or.inr rfl) (pe_cal S.pool hr (by rfl) (pa_cons (pv 0) pa_nil)))
      (pss_cons (ps_set (i := 2) scLaw.nd rfl (Or.inl rfl) (pe_cal S.draw hr (by rfl) (pa_cons (pv 1) (pa_cons pe_int pa_nil))))
      (pss_cons (ps_set (i := 3) scLaw.nd rfl (Or.inl rfl) (pe_op op_add pe_int (pe_cal S.draw hr (by rfl) (pa_cons (pv 1) (pa_cons pe_int pa_nil)))))
      (pss_cons (ps_set (i := 4) scLaw.nd rfl (Or.inr rfl) (pe_callTy (call_tupleK (K := K) rfl) (by rfl) B.tuple PyProof.Rows.boot_tuple (pa_cons (pe_lc (own := [("_law_router", 12)]) (g := gName 12) (tt := tYes) (te := tCall spRow [] E0 (tCons (tVar 1) tNil)) rfl scLaw.nd (pi_range1 (by rfl) B.range (pa_cons (pv 3) pa_nil)) (blkOk_by (N := nLaw) (sc := defScope sLaw) (by decide +kernel))
        (fun _ _ _ _ _ => pg_name (i := 12) scLaw.nd rfl (Or.inl rfl)) (fun _ _ _ _ _ => pts_nil) (fun _ _ _ _ _ => pe_cal S.row hr (by rfl) (pa_cons (pv 1) pa_nil))) pa_nil)))
      (pss_cons (ps_set (i := 5) scLaw.nd rfl (Or.inl rfl) (pe_cal S.lns hr (by rfl) (pa_cons (pv 1) (pa_cons (pv 3) (pa_cons pe_int pa_nil)))))
      (pss_cut (ps_if (pt_cmpR op_eq (pe_cal S.draw hr (by rfl) (pa_cons (pv 1) (pa_cons pe_int pa_nil))) pe_int (nomark _))
        (pss_one (ps_for (passes_of rfl) rfl (pi_list (pe_callTy (call_list_dT rfl) (by rfl) B.list PyProof.Rows.boot_list (pa_cons (pv 5) pa_nil))) (pg_name (i := 6) scLaw.nd rfl (Or.inl rfl))
          (pss_one (ps_if (pt_cmpR op_ne (pe_cal S.shr hr (by rfl) (pa_cons (pv 4) (pa_cons (pv 6) pa_nil))) pe_int (nomark _)) (pss_one (ps_expr (pe_bm PySem.F.plainAttrs_dict PySem.F.slot_dict_pop PySem.F.type_dict_pop (mt_pop1T hu1) (pv 5) (pa_cons (pv 6) pa_nil)))) pss_nil)))) pss_nil)
      (pss_cons (ps_setLc (i := 7) (own := [("_law_pair", 6)]) (g := gName 6) (tt := tTest (tOp rNe (tCall spShr [] E0 (tCons (tVar 4) (tCons (tVar 6) tNil))) (tC (.int 1)))) rfl scLaw.nd rfl rfl (sw_true rfl rfl rfl (by decide +kernel)) (pi_list (pe_callB cr_sortedPO (by rfl) hso PyProof.Rows.boot_sorted (pa_cons (pe_callTy (call_list_dT rfl) (by rfl) B.list PyProof.Rows.boot_list (pa_cons (pv 5) pa_nil)) pa_nil))) (blkOk_by (N := nLaw) (sc := defScope sLaw) (by decide +kernel))
        (fun _ _ _ _ _ => pg_name (i := 6) scLaw.nd rfl (Or.inl rfl)) (fun _ _ _ _ _ => pts_one (pt_cmpR op_ne (pe_cal S.shr hr (by rfl) (pa_cons (pv 4) (pa_cons (pv 6) pa_nil))) pe_int (nomark _))) (fun _ _ _ _ _ => pv 6))
      (pss_cons (ps_set (i := 8) scLaw.nd rfl (Or.inl rfl) pe_non)
      (pss_cons (ps_set (i := 9) scLaw.nd rfl (Or.inl rfl) (pe_callTy (call_listK2 (K := K) rfl) (by rfl) B.list PyProof.Rows.boot_list (pa_cons (pv 4) pa_nil)))
      (pss_cut (ps_if (pt_cmpR op_gt (pe_callB call_len_seq (by rfl) B.len PySem.boot_len (pa_cons (pv 7) pa_nil)) pe_int (nomark _)) (pss_one (ps_set (i := 8) scLaw.nd rfl (Or.inl rfl) (pe_tup (pa_cons pe_str (pa_cons (pe_callB (call_reprX (K := K) rfl hg hu) (by rfl) B.repr boot_repr (pa_cons (pe_ix (ix_listK (K := K) rfl) (pv 7) pe_int (fun _ _ => rfl)) pa_nil)) (pa_cons pe_bl (pa_cons pe_bl pa_nil))))))) pss_nil)
      (pss_cut (ps_if (pt_cmpR op_lt (pv 2) pe_int (nomark _))
        (pss_cons (ps_set (i := 10) scLaw.nd rfl (Or.inl rfl) (pe_cal S.draw hr (by rfl) (pa_cons (pv 1) (pa_cons (pv 3) pa_nil))))
        (pss_cons (ps_asg (pe_cal S.noRw hr (by rfl) (pa_cons (pv 1) pa_nil)) (pg_sub (pv 9) (pv 10) set_list))
        (pss_cut (ps_if (pt_cmpR op_eq (pv 2) pe_int (nomark _)) (pss_cons (ps_set (i := 11) scLaw.nd rfl (Or.inl rfl) (pe_cal S.draw hr (by rfl) (pa_cons (pv 1) (pa_cons (pv 3) pa_nil)))) (pss_cons (ps_asg (pe_cal S.noRw hr (by rfl) (pa_cons (pv 1) pa_nil)) (pg_sub (pv 9) (pv 11) set_list))
          (pss_one (ps_if (pt_cmpR op_lt (pv 11) (pv 10) (nomark _)) (pss_one (ps_set (i := 10) scLaw.nd rfl (Or.inl rfl) (pv 11))) pss_nil)))) pss_nil)
        (pss_one (ps_set (i := 8) scLaw.nd rfl (Or.inl rfl) (pe_tup (pa_cons pe_str (pa_cons (pe_callTy call_str_int (by rfl) B.str PyProof.Rows.boot_str (pa_cons (pv 10) pa_nil)) (pa_cons pe_bl (pa_cons pe_bl pa_nil)))))))))) pss_nil)
      (pss_cons (ps_set (i := 9) scLaw.nd rfl (Or.inl rfl) (pe_callTy (call_tupleK (K := K) rfl) (by rfl) B.tuple PyProof.Rows.boot_tuple (pa_cons (pv 9) pa_nil)))
      (pss_cut (ps_if (pt_cmpR op_eq (pv 2) pe_int (nomark _)) (pss_cons (ps_set (i := 9) scLaw.nd rfl (Or.inl rfl) (pe_cal S.noRs hr (by rfl) (pa_cons (pv 1) (pa_cons (pv 9) pa_nil)))) (pss_one (ps_set (i := 8) scLaw.nd rfl (Or.inl rfl) (pe_tup (pa_cons pe_str (pa_cons pe_str (pa_cons pe_bl (pa_cons pe_bl pa_nil)))))))) pss_nil)
      (pss_cons (ps_if (pt_cmp (pc_isN (pv 8))) (pss_one (ps_ret (pe_calG S.kept hr hg (by rfl) (pa_cons (pv 3) (pa_cons (pv 5) (pa_cons (pv 4) pa_nil)))))) pss_nil)
      (pss_one (ps_ret (pe_cmpR (op_eqSm (K := K) rfl hu0) (pe_calG S.told hr hg (by rfl) (pa_cons (pe_mkAt (CX := CX0) (W := WF) mk FI r7 (by rfl) S.mkC.g bI (fun _ _ _ _ _ _ _ h => h.elim) (pa_cons (pv 3) (pa_cons (pv 5) pa_nil))) (pa_cons (pv 9) pa_nil))) (pv 8) (nomark _))))))))))))))))), ?_⟩
    refine ⟨.ref a0, rfl, a0, ns, rfl, hS, hns, fun G H1 p q eG hP1 => ?_⟩
    refine g_name ?_
    dsimp only
    change tSeq (tAsg _ _) _ _ [some (.ref a0), some (.ref p), none, none, none, none, none, none, none, none, none, none, none] H1
    refine ⟨.ref p, rfl, ⟨_, p, q, 8, rfl, hP1.hd, by decide, by decide, fun H2 sp hP20 hs0 hs1 => ?_⟩⟩
    have hP2 := hP1.back hP20
    refine g_name ?_
    dsimp only
    refine ⟨.ref p, rfl, ⟨_, p, q, 8, rfl, hP2.hd, by decide, by decide, fun H3 j hP30 hj0 hj1 => ?_⟩⟩
    have hP3 := hP2.back hP30
    refine ⟨1, j, rfl, rfl, ?_⟩
    obtain ⟨n, hn⟩ : ∃ n : Nat, 1 + j = (n : Int) := ⟨(1 + j).toNat, by omega⟩
    have hn1 : 1 ≤ n := by omega
    have hn8 : n ≤ 8 := by omega
    refine g_name ?_
    dsimp only
    rw [hn]
    clear hP20 hP30
    change tSeq (tAsg _ _) _ _ [some (.ref a0), some (.ref p), some (.int sp), some (.int (n : Int)), none, none, none, none, none, none, none, none, none] H3
    refine q_asgW ?_
    refine ⟨.int (n : Int), rfl, (n : Int), rfl, by omega, by omega, fun L nL => ?_⟩
    have gL := fresh_back hP3.ex nL
    have npL := hP3.np nL
    refine lc_range (lo := 0) (n := (n : Int).toNat) (fun i H' => ∃ (us : List V) (rs : List (List Nat)), Pm G H' p q ∧ H' L = some (.lst us) ∧ us.length = i ∧ RwA H' us rs ∧ ∀ r ∈ rs, ArOk r) ⟨[], [], hP3.ext (Ex.new nL), upd_same, rfl, ⟨rfl, fun i v hv => (by cases hv)⟩, fun r hr => (by cases hr)⟩ (fun i H4 hi hp => ?_) (fun H4 hp => ?_)
    · obtain ⟨us, rs, hP4, hL4, hul, hA4, hro⟩ := hp
      refine ⟨rfl, ?_⟩
      refine et_yes H4 (Ex.refl _) _ fun H5 e5 => ?_
      rw [if_pos rfl]
      have hP5 := hP4.ext e5
      refine ⟨.ref p, rfl, ⟨_, p, q, rfl, hP5.hd, fun H6 b r hP60 o6 nb hb hr => ?_⟩⟩
      have hP6 := hP5.back hP60
      have hL6 := o6 _ _ npL (e5 _ _ hL4)
      have hA6 := (hA4.mono e5).pool hP5 o6
      refine ⟨us, hL6, sz_lt (by omega), us ++ [.ref b], rs ++ [r], hP6.mut gL npL, upd_same, by rw [List.length_append, hul]; rfl, ?_, fun x hx => ?_⟩
      · exact (hA6.snoc hb).of1 (Of1.upd L H6 _) hL6 (fun xs z => by cases z)
      · rcases List.mem_append.mp hx with z | z
        · exact hro x z
        · rw [List.mem_singleton.mp z]; exact hr
    obtain ⟨us, rs, hP4, hL4, hul, hA4, hro⟩ := hp
    have hul : us.length = n := by omega
    have hrl : rs.length = n := by rw [← hA4.1]; exact hul
    refine ⟨L, us, rfl, .inl ⟨sq_of hL4, fun T nT => ?_⟩⟩
    have e5 := Ex.new (o := .tup us) nT
    have hT5 : (upd H4 T (.tup us)) T = some (.tup us) := upd_same
    have hP5 := hP4.ext e5
    have hA5 := hA4.mono e5
    clear hP4 hA4 hL4 gL npL nL nT
    generalize upd H4 T (.tup us) = H5 at *
    change tSeq (tAsg _ _) _ _ [some (.ref a0), some (.ref p), some (.int sp), some (.int (n : Int)), some (.ref T), none, none, none, none, none, none, none, none] H5
    refine ⟨.ref p, rfl, .int (n : Int), rfl, ⟨Hd1 H5 p, p, q, n, 20, rfl, hP5.hd, hn1, hn8, by decide, fun H6 D kvs hP60 hD0 nD hD6 hok hl => ?_⟩⟩
    have hP6 := hP5.back hP60
    have hT6 := tup_pool hP5 hP60.off hT5
    have hA6 := hA5.pool hP5 hP60.off
    have gD := fresh_back hP5.ex hD0
    have nDT : D ≠ T := fun z => by rw [z, hT5] at hD0; cases hD0
    refine g_name ?_
    dsimp only
    clear hP60
    refine q_cut (M := fun σ' H' => ∃ (kv : List (List L2.Key × V)) (o6 : Option V), σ' = Sl a0 p sp n T D o6 none none none none none ∧ Pm G H' p q ∧ H' D = some (.dT kv) ∧ LnOk n kv ∧ kv.length ≤ 20 ∧ H' T = some (.tup us) ∧ RwA H' us rs) ?_ ?_
    · refine ⟨.ref p, rfl, ⟨_, p, q, 2, rfl, hP6.hd, by decide, by decide, fun H7 y hP70 _ _ => ⟨rfl, _, rfl, ?_⟩⟩⟩
      have hP7 := hP6.back hP70
      have hD7 := hP70.off _ _ nD hD6
      have hT7 := tup_pool hP6 hP70.off hT6
      have hA7 := hA6.pool hP6 hP70.off
      refine ite2 (fun _ => ?_) (fun _ => ⟨kvs, _, rfl, hP7, hD7, hok, hl, hT7, hA7⟩)
      refine ⟨.ref D, rfl, D, kvs, rfl, .inl hD7, fun L bs hL hbs => ?_⟩
      have nL := hP7.np hL
      have nDL : D ≠ L := fun z => by rw [← z, hD7] at hL; cases hL
      have eL := Ex.new (o := .lst (bs.map V.ref)) hL
      have hP8 := hP7.ext eL
      have hD8 := eL _ _ hD7
      have hT8 := eL _ _ hT7
      have hA8 := hA7.mono eL
      have hL8 : (upd H7 L (.lst (bs.map V.ref))) L = some (.lst (bs.map V.ref)) := upd_same
      have hbk : ∀ (i : Nat) (b : Addr), bs[i]? = some b → ∃ kv, kvs[i]? = some kv ∧ (upd H7 L (.lst (bs.map V.ref))) b = some (.tup (kv.1.map kV)) := fun i b hb => by
        obtain ⟨kv, h1, h2⟩ := keys_at hbs hb
        exact ⟨kv, h1, eL _ _ h2⟩
      generalize upd H7 L (.lst (bs.map V.ref)) = H8 at *
      refine ⟨L, rfl, ⟨_, sq_of hL8⟩, ?_⟩
      refine for_list (a := L) (xs := bs.map V.ref) (fun i σ' H' => ∃ (kv : List (List L2.Key × V)) (o6 : Option V), σ' = Sl a0 p sp n T D o6 none none none none none ∧ Pm G H' p q ∧ H' D = some (.dT kv) ∧ LnOk n kv ∧ kv.length ≤ 20 ∧ H' T = some (.tup us) ∧ RwA H' us rs ∧ (∀ (j : Nat) x, i ≤ j → kvs[j]? = some x → x.1 ∈ kv.map (·.1)) ∧ H' L = some (.lst (bs.map V.ref)) ∧ ∀ b xs, H8 b = some (.tup xs) → H' b = some (.tup xs)) ⟨kvs, _, rfl, hP8, hD8, hok, hl, hT8, hA8, fun j x _ hx => List.mem_map.mpr ⟨x, List.mem_of_getElem? hx, rfl⟩, hL8, fun _ _ h => h⟩ (fun i σ' H' _ hp => ?_) (fun i x σ' H' hx hp => ?_) (fun σ' H' hp => ?_)
      · obtain ⟨_, _, _, _, _, _, _, _, _, _, h, _⟩ := hp
        exact sq_of h
      · obtain ⟨kv, o6, rfl, hP9, hD9, hok9, hl9, hT9, hA9, hin, hL9, htu⟩ := hp
        rw [List.getElem?_map] at hx
        cases hb : bs[i]? with
        | none => rw [hb] at hx; cases hx
        | some b =>
        rw [hb] at hx
        obtain rfl := (Option.some.inj hx).symm
        obtain ⟨k0, hk0, hb8⟩ := hbk i b hb
        have hb9 := htu _ _ hb8
        obtain ⟨u, v, c, rfl, hu1, hv1, huv, _⟩ := hok.it k0 (List.mem_of_getElem? hk0)
        have hb9 : H' b = some (.tup ((Lk u v).map kV)) := hb9
        have hb9' : H' b = some (.tup [.int (u : Int), .int (v : Int)]) := hb9
        obtain ⟨v0, hv0⟩ := val_some (hin i _ (Nat.le_refl i) hk0)
        refine g_name ?_
        dsimp only
        change tIfS _ _ _ _ (Sl a0 p sp n T D (some (.ref b)) none none none none none) H'
        have c1 : Ev (tCall spShr [] E0 (tCons (tVar 4) (tCons (tVar 6) tNil))) (Sl a0 p sp n T D (some (.ref b)) none none none none none) H' (.int ((cmn (rs.getD u []) (rs.getD v [])).length : Int)) :=
          ev_call (ea_cons (x := .ref T) (ev_var rfl) (ea_cons (x := .ref b) (ev_var rfl) ea_nil)) fun Hy ey Q2 q2 E2 => ⟨T, b, us, rs, u, v, rfl, ey _ _ hT9, hA9.mono ey, ey _ _ hb9', by omega, by omega, hro, q2⟩
        refine s_when (b := !decide (V.int ((cmn (rs.getD u []) (rs.getD v [])).length : Int) = V.int 1)) (et_test (ev_op (r := rNe) c1 ev_c (rv_ne rfl))) (fun _ H10 e10 => ?_) (fun _ H10 e10 => ?_)
        · have hD10 := e10 _ _ hD9
          refine ⟨.ref D, rfl, .inr (.inr (.inl ⟨rfl, .inr ⟨_, hD10⟩⟩)), .ref b, rfl, D, kv, _, b, v0, rfl, rfl, hD10, e10 _ _ hb9, hv0, ?_⟩
          refine ⟨dropK kv (Lk u v), _, rfl, (hP9.ext e10).mut gD nD, upd_same, hok9.drop _, Nat.le_trans (dropK_le _ _) hl9, by rw [upd_ne (Ne.symm nDT)]; exact e10 _ _ hT9, (hA9.mono e10).of1 (Of1.upd D H10 _) hD10 (fun xs z => by cases z), fun j x hj hx => ?_, by rw [upd_ne (Ne.symm nDL)]; exact e10 _ _ hL9, fun b' xs h => ?_⟩
          · exact drop_mem (hin j x (by omega) hx) (nd_at hok.nd hk0 hx (by omega))
          · have h1 := e10 _ _ (htu _ _ h)
            rw [upd_ne (fun z => by rw [z, hD10] at h1; cases h1)]
            exact h1
        · exact ⟨kv, _, rfl, hP9.ext e10, e10 _ _ hD9, hok9, hl9, e10 _ _ hT9, hA9.mono e10, fun j x hj hx => hin j x (by omega) hx, e10 _ _ hL9, fun b' xs h => e10 _ _ (htu _ _ h)⟩
      · obtain ⟨kv, o6, rfl, hP9, hD9, hok9, hl9, hT9, hA9, _⟩ := hp
        exact ⟨kv, o6, rfl, hP9, hD9, hok9, hl9, hT9, hA9⟩
    clear hP1 hP2 hP3 hP5 hP6 hT5 hT6 hA5 hA6 hD6 hD0 e5 hok hl eG gD
    rintro σ' H6 ⟨kv, o6, rfl, hP6, hD6, hok, hl, hT6, hA6⟩
    change tSeq (tAsg _ _) _ _ (Sl a0 p sp n T D o6 none none none none none) H6
    refine q_asgW ?_
    refine ⟨.ref D, rfl, D, kv, rfl, .inl hD6, fun L1 bs hL1 hbs => ?_⟩
    have eL := Ex.new (o := .lst (bs.map V.ref)) hL1
    have hL1' : (upd H6 L1 (.lst (bs.map V.ref))) L1 = some (.lst (bs.map V.ref)) := upd_same
    have hbl := keys_len hbs
    have hbk : ∀ (i : Nat) (b : Addr), bs[i]? = some b → ∃ kv0, kv[i]? = some kv0 ∧ (upd H6 L1 (.lst (bs.map V.ref))) b = some (.tup (kv0.1.map kV)) := fun i b hb => by
      obtain ⟨kv0, h1, h2⟩ := keys_at hbs hb
      exact ⟨kv0, h1, eL _ _ h2⟩
    generalize upd H6 L1 (.lst (bs.map V.ref)) = H7 at *
    have key : ∀ x ∈ bs.map V.ref, ∃ (t : Addr) (u v : Nat), x = V.ref t ∧ u < n ∧ v < n ∧ Lk u v ∈ kv.map (·.1) ∧ H7 t = some (.tup [.int (u : Int), .int (v : Int)]) := fun x hx => by
      obtain ⟨b, hb, rfl⟩ := List.mem_map.mp hx
      obtain ⟨i, hi⟩ := List.getElem?_of_mem hb
      obtain ⟨kv0, h1, h2⟩ := hbk i b hi
      obtain ⟨u, v, c, rfl, hu1, hv1, _⟩ := hok.it kv0 (List.mem_of_getElem? h1)
      exact ⟨b, u, v, rfl, hu1, hv1, List.mem_map.mpr ⟨_, List.mem_of_getElem? h1, rfl⟩, h2⟩
    have yek : ∀ a b : Nat, Lk a b ∈ kv.map (·.1) → ∃ x ∈ bs.map V.ref, kpOf H7 x = ((a : Int), (b : Int)) := fun a b hk => by
      obtain ⟨kv0, h1, e1⟩ := List.mem_map.mp hk
      obtain ⟨i, hi⟩ := List.getElem?_of_mem h1
      have hil : i < bs.length := by have := (List.getElem?_eq_some_iff.mp hi).1; omega
      have hbi := List.getElem?_eq_getElem hil
      obtain ⟨kv', h2, h3⟩ := hbk i _ hbi
      rw [hi] at h2
      cases h2
      rw [e1] at h3
      have h3 : H7 bs[i] = some (.tup [.int (a : Int), .int (b : Int)]) := h3
      exact ⟨.ref bs[i], List.mem_map.mpr ⟨_, List.getElem_mem hil, rfl⟩, kpOf_at h3⟩
    refine ⟨L1, bs.map V.ref, kpOf H7, rfl, sq_of hL1', fun x hx => ?_, fun ys L2 hsr hstb hL2 => ?_⟩
    · obtain ⟨t, u, v, rfl, _, _, _, ht⟩ := key x hx
      exact ⟨t, rfl, by rw [kpOf_at ht]; exact ht⟩
    have e8 := Ex.new (o := .lst ys) hL2
    have hL8 : (upd H7 L2 (.lst ys)) L2 = some (.lst ys) := upd_same
    have e68 := eL.trans e8
    have hperm := hstb.perm
    have hyl : ys.length ≤ 20 := by rw [hperm.length_eq, List.length_map]; omega
    have keyY : ∀ x ∈ ys, ∃ (t : Addr) (u v : Nat), x = V.ref t ∧ u < n ∧ v < n ∧ Lk u v ∈ kv.map (·.1) ∧ (upd H7 L2 (.lst ys)) t = some (.tup [.int (u : Int), .int (v : Int)]) ∧ kpOf H7 x = ((u : Int), (v : Int)) := fun x hx => by
      obtain ⟨t, u, v, rfl, h1, h2, h3, h4⟩ := key x (hperm.mem_iff.mp hx)
      exact ⟨t, u, v, rfl, h1, h2, h3, e8 _ _ h4, kpOf_at h4⟩
    have yekY : ∀ a b : Nat, Lk a b ∈ kv.map (·.1) → ∃ x ∈ ys, kpOf H7 x = ((a : Int), (b : Int)) := fun a b hk => by
      obtain ⟨x, h1, h2⟩ := yek a b hk
      exact ⟨x, hperm.mem_iff.mpr h1, h2⟩
    have hnil := wrong_nil (rs := rs) (kp := kpOf H7) (ys := ys) hok yekY
    have hcons := fun (x : V) (l : List V) => wrong_cons (rs := rs) (kp := kpOf H7) (ys := ys) hok (fun x hx => by
      obtain ⟨_, u, v, _, _, _, h3, _, h5⟩ := keyY x hx
      exact ⟨u, v, h5, h3⟩) yekY hsr (x := x) (l := l)
    generalize kpOf H7 = kp at *
    clear key yek hbk hbs hstb hperm hsr yekY hL1' hbl hL1
    generalize upd H7 L2 (.lst ys) = H8 at *
    clear e8 eL hL2
    have hP8 := hP6.ext e68
    have hD8 := e68 _ _ hD6
    have hT8 := e68 _ _ hT6
    have hA8 := hA6.mono e68
    refine ⟨L2, rfl, ⟨ys, sq_of hL8⟩, fun W nW => ?_⟩
    refine lc_it (walk_list (K := K) (a := L2) (xs := ys)) (fun i H' => Ex H8 H' ∧ H' W = some (.lst ((ys.take i).filter (badx rs kp)))) ⟨Ex.new nW, upd_same⟩ (fun i H' _ hp => sq_of (hp.1 _ _ hL8)) (fun i x H' H2 hi hp hy => ?_) (fun H9 hp => ?_)
    · obtain ⟨e9, hW⟩ := hp
      obtain ⟨rfl, hx⟩ := hy
      obtain ⟨t, u, v, rfl, hu1, hv1, hm, ht, hk⟩ := keyY x (List.mem_of_getElem? hx)
      refine ⟨rfl, ?_⟩
      have c1 : Ev (tCall spShr [] E0 (tCons (tVar 4) (tCons (tVar 6) tNil))) (((wipe (Sl a0 p sp n T D o6 none none none none none) [6]).set 6 (some (.ref t)))) H2 (.int ((cmn (rs.getD u []) (rs.getD v [])).length : Int)) :=
        ev_call (ea_cons (x := .ref T) (ev_var rfl) (ea_cons (x := .ref t) (ev_var rfl) ea_nil)) fun Hy ey Q2 q2 E2 => ⟨T, t, us, rs, u, v, rfl, (e9.trans ey) _ _ hT8, hA8.mono (e9.trans ey), (e9.trans ey) _ _ ht, by omega, by omega, hro, q2⟩
      have hbx : badx rs kp (.ref t) = !decide (V.int ((cmn (rs.getD u []) (rs.getD v [])).length : Int) = V.int 1) := by
        unfold badx
        rw [hk]
        simp only [Int.toNat_natCast]
        unfold bad
        rw [int_one]
      have c2 : EvT (tTest (tOp rNe (tCall spShr [] E0 (tCons (tVar 4) (tCons (tVar 6) tNil))) (tC (.int 1)))) (((wipe (Sl a0 p sp n T D o6 none none none none none) [6]).set 6 (some (.ref t)))) H2 (badx rs kp (.ref t)) := by
        rw [hbx]
        exact et_test (ev_op (r := rNe) c1 ev_c (rv_ne rfl))
      refine c2 H2 (Ex.refl _) _ fun H3 e3 => ?_
      rw [take_snoc hx, List.filter_append]
      cases hf : badx rs kp (.ref t) with
      | false =>
        rw [if_neg (by decide), List.filter_cons_of_neg (by rw [hf]; decide), List.filter_nil, List.append_nil]
        exact ⟨e9.trans e3, e3 _ _ hW⟩
      | true =>
        rw [if_pos rfl, List.filter_cons_of_pos hf, List.filter_nil]
        have hfl := List.length_filter_le (badx rs kp) (ys.take i)
        rw [List.length_take] at hfl
        exact ⟨.ref t, rfl, _, e3 _ _ hW, sz_lt (by omega), Ex.mut (e9.trans e3) nW, upd_same⟩
    obtain ⟨e9, hW⟩ := hp
    rw [List.take_of_length_le (Nat.le_refl _)] at hW
    have keyW : ∀ x ∈ ys, ∃ (t : Addr) (u v : Nat), x = V.ref t ∧ u < n ∧ v < n ∧ H9 t = some (.tup [.int (u : Int), .int (v : Int)]) ∧ kp x = ((u : Int), (v : Int)) := fun x hx => by
      obtain ⟨t, u, v, h1, h2, h3, _, h5, h6⟩ := keyY x hx
      exact ⟨t, u, v, h1, h2, h3, e9 _ _ h5, h6⟩
    clear keyY
    have hws : ∀ x ∈ ys.filter (badx rs kp), x ∈ ys := fun x hx => (List.mem_filter.mp hx).1
    generalize ys.filter (badx rs kp) = ws at *
    have hP9 := hP8.ext e9
    have hD9 := e9 _ _ hD8
    have hT9 := e9 _ _ hT8
    have hA9 := hA8.mono e9
    clear hP8 hD8 hT8 hA8 hP6 hD6 hT6 hA6 e68 e9 nW hL8
    change tSeq (tAsg _ _) _ _ (Sl a0 p sp n T D o6 (some (.ref W)) none none none none) H9
    refine q_c ?_
    change tSeq (tAsg _ _) _ _ (Sl a0 p sp n T D o6 (some (.ref W)) (some .non) none none none) H9
    refine ⟨.ref T, rfl, T, us, rfl, .inr (st_of hT9), fun Rl nRl => ?_⟩
    have gRl := fresh_back hP9.ex nRl
    have npRl := hP9.np nRl
    have e10 := Ex.new (o := .lst us) nRl
    have hRl : (upd H9 Rl (.lst us)) Rl = some (.lst us) := upd_same
    have hP10 := hP9.ext e10
    have hD10 := e10 _ _ hD9
    have hT10 := e10 _ _ hT9
    have hA10 := hA9.mono e10
    have hW10 := e10 _ _ hW
    have nDR : D ≠ Rl := fun z => by rw [z, nRl] at hD9; cases hD9
    have nTR : T ≠ Rl := fun z => by rw [z, nRl] at hT9; cases hT9
    have keyW : ∀ x ∈ ys, ∃ (t : Addr) (u v : Nat), x = V.ref t ∧ u < n ∧ v < n ∧ (upd H9 Rl (.lst us)) t = some (.tup [.int (u : Int), .int (v : Int)]) ∧ kp x = ((u : Int), (v : Int)) := fun x hx => by
      obtain ⟨t, u, v, h1, h2, h3, h5, h6⟩ := keyW x hx
      exact ⟨t, u, v, h1, h2, h3, e10 _ _ h5, h6⟩
    refine g_name ?_
    dsimp only
    clear hP9 hD9 hT9 hA9 hW nRl e10
    generalize upd H9 Rl (.lst us) = H10 at *
    refine q_cut (M := fun σ' H' => ∃ (dv : V), σ' = Sl a0 p sp n T D o6 (some (.ref W)) (some dv) (some (.ref Rl)) none none ∧ Ex H10 H' ∧ DueL n kv rs dv H') ?_ ?_
    · change tIfS _ _ _ _ (Sl a0 p sp n T D o6 (some (.ref W)) (some .non) (some (.ref Rl)) none none) H10
      refine s_when (b := decide ((0 : Int) < (ws.length : Int))) (et_test (ev_op (r := rI0 fun i j => .bl (decide (j < i))) (ev_len (ev_var rfl) (sq_of hW10)) ev_c rv_I0)) (fun hb H11 e11 => ?_) (fun hb H11 e11 => ?_)
      · have hb := of_decide_eq_true hb
        cases ws with
        | nil => exact absurd hb (by decide)
        | cons x l =>
        obtain ⟨t, u, v, rfl, hu1, hv1, ht, hk⟩ := keyW x (hws x List.mem_cons_self)
        obtain ⟨a, b, hk2, hf⟩ := hcons _ _ rfl
        rw [hk] at hk2
        injection hk2 with q1 q2
        have q1 : u = a := by omega
        have q2 : v = b := by omega
        subst q1 q2
        have ht11 := e11 _ _ ht
        refine ⟨.ref W, rfl, W, _, (0 : Int), .ref t, rfl, rfl, sq_of (e11 _ _ hW10), atI_nat (j := 0) rfl, ?_⟩
        refine ⟨.ref t, pD2 u v, rfl, shw_p2 ht11 (by omega) (by omega), ?_⟩
        refine ⟨by show 4 ≤ sizeLine; decide, fun z nz => ?_⟩
        have e12 := Ex.new (o := .tup [V.str "line", .str (pD2 u v).shown, .bl true, .bl false]) nz
        refine g_name ?_
        exact ⟨.ref z, rfl, e11.trans e12, .inr ⟨u, v, z, hf, by omega, by omega, rfl, upd_same⟩⟩
      · have hb : ws = [] := by
          cases ws with
          | nil => rfl
          | cons x l => simp at hb
        exact ⟨.non, rfl, e11, .inl ⟨hnil hb, rfl⟩⟩
    rintro σ' H11 ⟨dv, rfl, e11, hdue⟩
    have hP11 := hP10.ext e11
    have hD11 := e11 _ _ hD10
    have hT11 := e11 _ _ hT10
    have hA11 := hA10.mono e11
    have hRl11 := e11 _ _ hRl
    clear hP10 hD10 hT10 hA10 hRl hW10 keyW hws hnil hcons e11
    -- the base: all but the pool and the rows
    have hbase : Ex (off Rl (Hd1 H11 p)) (Hd1 H11 p) := fun b u hb => by
      by_cases c : b = Rl
      · rw [c] at hb
        unfold off at hb
        rw [if_pos rfl] at hb
        cases hb
      · rw [off_at c] at hb
        exact hb
    have nqR : q ≠ Rl := fun z => by
      obtain ⟨cs, h0, _⟩ := hP11.gq
      rw [z, gRl] at h0
      cases h0
    have nqp : q ≠ p := fun z => by
      obtain ⟨cs, h0, _⟩ := hP11.gq
      rw [z, hP11.gp] at h0
      cases h0
    have hG : Pm (off Rl (Hd1 H11 p)) H11 p q := hP11.hd.less hbase (by
      obtain ⟨cs, h0, h1⟩ := hP11.gq
      exact ⟨cs, by rw [off_at nqR, hd1_at nqp]; exact hP11.ex _ _ h0, h1⟩)
    have gR1 : (off Rl (Hd1 H11 p)) Rl = none := by unfold off; rw [if_pos rfl]
    have npp : ∀ {t : Addr} {o : HO}, H11 t = some o → (∀ xs, o ≠ .lst xs) → t ≠ p := fun ht hno z => by
      obtain ⟨_, _, _, hh, _⟩ := hP11.at_
      rw [z, hh] at ht
      cases ht
      exact hno _ rfl
    have gD1 : (off Rl (Hd1 H11 p)) D = some (.dT kv) := by rw [off_at nDR, hd1_at (npp hD11 fun xs z => by cases z)]; exact hD11
    have gT1 : (off Rl (Hd1 H11 p)) T = some (.tup us) := by rw [off_at nTR, hd1_at (npp hT11 fun xs z => by cases z)]; exact hT11
    have gA1 : RwA (off Rl (Hd1 H11 p)) us rs := ⟨hA11.1, fun i v hv => by
      obtain ⟨b, h1, h2⟩ := hA11.2 i v hv
      exact ⟨b, h1, by rw [off_at (fun z => by rw [z, hRl11] at h2; cases h2), hd1_at (npp h2 fun xs z => by cases z)]; exact h2⟩⟩
    generalize off Rl (Hd1 H11 p) = G1 at *
    have hlr := lens_dR hrl hn8 hro
    have hal : ∀ (k : Nat) (x : PyData), (rs.map aD)[k]? = some x → isAr x = true := fun k x hx => by
      obtain ⟨r, hr, rfl⟩ := List.mem_map.mp (List.mem_of_getElem? hx)
      exact isAr_aD (hro r hr)
    have hmk : ∀ (ds : List PyData) (i : Nat) (d : PyData), ds.length = n → ds[i]? = some d → isAr d = false → (∀ k x, k < i → ds[k]? = some x → isAr x = true) → faultA n (.tuple ds) = some (i : Int) := fun ds i d h1 h2 h3 h4 => by
      unfold faultA
      have e : (isTu (PyData.tuple ds) && decide (V.int ((itemsT (PyData.tuple ds)).length : Int) = V.int (n : Int))) = true := by
        show (true && decide (V.int (ds.length : Int) = V.int (n : Int))) = true
        rw [h1, decide_eq_true rfl]
        rfl
      rw [if_pos e]
      have z := first_at (i := 0) h2 h3 h4
      rw [Nat.zero_add] at z
      exact z
    clear hbase nqR nqp npp
    refine q_cut (M := fun σ' H' => ∃ (xs : List V) (ds : List PyData) (dv : V) (o10 o11 : Option V), σ' = Sl a0 p sp n T D o6 (some (.ref W)) (some dv) (some (.ref Rl)) o10 o11 ∧ Pm G1 H' p q ∧ H' Rl = some (.lst xs) ∧ DqA H' xs ds ∧
      ((sp < 2 ∧ ds.length = n ∧ (∀ x ∈ ds, (itemsT x).length ≤ 60) ∧ ∃ (i : Int) (u : Addr), faultA n (.tuple ds) = some i ∧ dv = .ref u ∧ H' u = some (.tup [.str "areas", .str (PyData.int i).shown, .bl true, .bl false])) ∨ (¬ sp < 2 ∧ xs = us ∧ ds = rs.map aD ∧ DueL n kv rs dv H'))) ?_ ?_
    · change tIfS _ _ _ _ (Sl a0 p sp n T D o6 (some (.ref W)) (some dv) (some (.ref Rl)) none none) H11
      refine s_when (b := decide (sp < 2)) (et_test (ev_op (r := rI0 fun i j => .bl (decide (i < j))) (ev_var rfl) ev_c rv_I0)) (fun hb H12 e12 => ?_) (fun hb H12 e12 => ?_)
      rotate_left
      · exact ⟨us, rs.map aD, dv, none, none, rfl, hG.ext e12, e12 _ _ hRl11, (hA11.mono e12).dq, .inr ⟨of_decide_eq_false hb, rfl, rfl, hdue.mono e12⟩⟩
      have hsp2 : sp < 2 := of_decide_eq_true hb
      have hG12 := hG.ext e12
      have hR12 := e12 _ _ hRl11
      refine ⟨.ref p, rfl, .int (n : Int), rfl, ⟨_, p, q, (n : Int), rfl, hG12.hd, by omega, by omega, fun H13 at_ h130 ha0 ha1 => ?_⟩⟩
      have hG13 := hG12.back h130
      have hR13 := h130.off _ _ npRl hR12
      obtain ⟨at_, rfl⟩ : ∃ m : Nat, at_ = (m : Int) := ⟨at_.toNat, by omega⟩
      have hat : at_ < n := by omega
      refine g_name ?_
      dsimp only
      refine ⟨.ref p, rfl, ⟨G1, p, q, rfl, hG13, fun G2 H14 v d g14 hv hd hdl => ?_⟩⟩
      have hR14 := g14.off _ _ npRl hR13
      have gR2 : G2 Rl = none := g14.nw Rl gR1 (by rw [hR13]; exact fun z => by cases z)
      refine ⟨.ref Rl, rfl, .int (at_ : Int), rfl, Rl, us, (at_ : Int), at_, rfl, rfl, hR14, ixN_nat (by omega), ?_⟩
      have hG14 := g14.pl.mut (o := .lst (us.set at_ v)) gR2 npRl
      have hR15 : (upd H14 Rl (.lst (us.set at_ v))) Rl = some (.lst (us.set at_ v)) := upd_same
      have hdq : DqA G2 (us.set at_ v) ((rs.map aD).set at_ d) := (gA1.dq.mono g14.ex).set hv at_
      have hlen : ((rs.map aD).set at_ d).length = n := by rw [List.length_set, List.length_map]; exact hrl
      have hatl : at_ < (rs.map aD).length := by rw [List.length_map, hrl]; exact hat
      have hls : ∀ x ∈ (rs.map aD).set at_ d, (itemsT x).length ≤ 60 := fun x hx => by
        rcases List.mem_or_eq_of_mem_set hx with z | z
        · exact hlr.2 x z
        · rw [z]; exact hdl
      have hf1 := hmk ((rs.map aD).set at_ d) at_ d hlen (set_hit hatl) hd fun k x hk hx => by
        rcases set_at hx with ⟨z, _⟩ | ⟨_, z⟩
        · omega
        · exact hal k x z
      have g12 := g14.ex
      generalize upd H14 Rl (.lst (us.set at_ v)) = H15 at *
      refine q_cut (M := fun σ' H' => ∃ (xs : List V) (ds : List PyData) (i : Nat) (o11 : Option V) (G3 : Hp), σ' = Sl a0 p sp n T D o6 (some (.ref W)) (some dv) (some (.ref Rl)) (some (.int (i : Int))) o11 ∧ Ex G1 G3 ∧ Pm G3 H' p q ∧ H' Rl = some (.lst xs) ∧ DqA G3 xs ds ∧ ds.length = n ∧ (∀ x ∈ ds, (itemsT x).length ≤ 60) ∧ i < n ∧ faultA n (.tuple ds) = some (i : Int)) ?_ ?_
      · change tIfS _ _ _ _ (Sl a0 p sp n T D o6 (some (.ref W)) (some dv) (some (.ref Rl)) (some (.int (at_ : Int))) none) H15
        refine s_when (b := decide (V.int sp = V.int 1)) (et_test (ev_op (r := rEq) (ev_var rfl) ev_c (rv_eq rfl))) (fun hb H16 e16 => ?_) (fun hb H16 e16 => ⟨_, _, at_, none, G2, rfl, g12, hG14.ext e16, e16 _ _ hR15, hdq, hlen, hls, hat, hf1⟩)
        have hG16 := hG14.ext e16
        have hR16 := e16 _ _ hR15
        refine ⟨.ref p, rfl, .int (n : Int), rfl, ⟨_, p, q, (n : Int), rfl, hG16.hd, by omega, by omega, fun H17 ot h170 hb0 hb1 => ?_⟩⟩
        have hG17 := hG16.back h170
        have hR17 := h170.off _ _ npRl hR16
        obtain ⟨ot, rfl⟩ : ∃ m : Nat, ot = (m : Int) := ⟨ot.toNat, by omega⟩
        have hot : ot < n := by omega
        refine g_name ?_
        dsimp only
        refine ⟨.ref p, rfl, ⟨G2, p, q, rfl, hG17, fun G3 H18 v2 d2 g18 hv2 hd2 hdl2 => ?_⟩⟩
        have hR18 := g18.off _ _ npRl hR17
        have gR3 : G3 Rl = none := g18.nw Rl gR2 (by rw [hR17]; exact fun z => by cases z)
        refine ⟨.ref Rl, rfl, .int (ot : Int), rfl, Rl, _, (ot : Int), ot, rfl, rfl, hR18, ixN_nat (by rw [List.length_set]; omega), ?_⟩
        have hG18 := g18.pl.mut (o := .lst ((us.set at_ v).set ot v2)) gR3 npRl
        have hR19 : (upd H18 Rl (.lst ((us.set at_ v).set ot v2))) Rl = some (.lst ((us.set at_ v).set ot v2)) := upd_same
        have hdq2 : DqA G3 ((us.set at_ v).set ot v2) (((rs.map aD).set at_ d).set ot d2) := (hdq.mono g18.ex).set hv2 ot
        have hlen2 : (((rs.map aD).set at_ d).set ot d2).length = n := by rw [List.length_set]; exact hlen
        have hls2 : ∀ x ∈ ((rs.map aD).set at_ d).set ot d2, (itemsT x).length ≤ 60 := fun x hx => by
          rcases List.mem_or_eq_of_mem_set hx with z | z
          · exact hls x z
          · rw [z]; exact hdl2
        generalize upd H18 Rl (.lst ((us.set at_ v).set ot v2)) = H19 at *
        dsimp only
        change tIfS _ _ _ _ (Sl a0 p sp n T D o6 (some (.ref W)) (some dv) (some (.ref Rl)) (some (.int (at_ : Int))) (some (.int (ot : Int)))) H19
        refine s_when (b := decide ((ot : Int) < (at_ : Int))) (et_test (ev_op (r := rI0 fun i j => .bl (decide (i < j))) (ev_var rfl) (ev_var rfl) rv_I0)) (fun hb H20 e20 => ?_) (fun hb H20 e20 => ?_)
        · have hb := of_decide_eq_true hb
          refine ⟨.int (ot : Int), rfl, ?_⟩
          refine g_name ?_
          exact ⟨_, _, ot, _, G3, rfl, g12.trans g18.ex, hG18.ext e20, e20 _ _ hR19, hdq2, hlen2, hls2, hot, hmk _ ot d2 hlen2 (set_hit (by omega)) hd2 fun k x hk hx => by
            rcases set_at hx with ⟨z, _⟩ | ⟨_, z⟩
            · omega
            rcases set_at z with ⟨z, _⟩ | ⟨_, z⟩
            · omega
            · exact hal k x z⟩
        · have hb := of_decide_eq_false hb
          refine ⟨_, _, at_, _, G3, rfl, g12.trans g18.ex, hG18.ext e20, e20 _ _ hR19, hdq2, hlen2, hls2, hat, ?_⟩
          by_cases c : ot = at_
          · subst c
            exact hmk _ ot d2 hlen2 (set_hit (by omega)) hd2 fun k x hk hx => by
              rcases set_at hx with ⟨z, _⟩ | ⟨_, z⟩
              · omega
              rcases set_at z with ⟨z, _⟩ | ⟨_, z⟩
              · omega
              · exact hal k x z
          · refine hmk _ at_ d hlen2 ?_ hd fun k x hk hx => ?_
            · rw [List.getElem?_set, if_neg c]
              exact set_hit hatl
            · rcases set_at hx with ⟨z, _⟩ | ⟨_, z⟩
              · omega
              rcases set_at z with ⟨z, _⟩ | ⟨_, z⟩
              · omega
              · exact hal k x z
      · rintro σ' H16 ⟨xs, ds, i, o11, G3, rfl, gg, hG16, hR16, hds, hdl2, hls2, hin, hf⟩
        refine ⟨.int (i : Int), rfl, (i : Int), rfl, ?_, ?_⟩
        · have := Nat.log2_le_self (i : Int).natAbs
          omega
        refine ⟨by show 4 ≤ sizeLine; decide, fun z nz => ?_⟩
        have e17 := Ex.new (o := .tup [V.str "areas", .str (toString (i : Int)), .bl true, .bl false]) nz
        refine g_name ?_
        refine ⟨xs, ds, .ref z, _, _, rfl, (hG16.less gg hG.gq).ext e17, e17 _ _ hR16, (hds.mono hG16.ex).mono e17, .inl ⟨hsp2, hdl2, hls2, (i : Int), z, hf, rfl, ?_⟩⟩
        rw [upd_same, sh_int (by omega)]
    rintro σ' H12 ⟨xs, ds, dv', o10, o11, rfl, hG12, hR12, hds, hcase⟩
    refine ⟨.ref Rl, rfl, Rl, xs, rfl, .inl ⟨sq_of hR12, fun R nR => ?_⟩⟩
    have e13 := Ex.new (o := .tup xs) nR
    have hR13 : (upd H12 R (.tup xs)) R = some (.tup xs) := upd_same
    have hG13 := hG12.ext e13
    have hds13 := hds.mono e13
    refine g_name ?_
    dsimp only
    have hcase13 : ((sp < 2 ∧ ds.length = n ∧ (∀ x ∈ ds, (itemsT x).length ≤ 60) ∧ ∃ (i : Int) (u : Addr), faultA n (.tuple ds) = some i ∧ dv' = .ref u ∧ (upd H12 R (.tup xs)) u = some (.tup [.str "areas", .str (PyData.int i).shown, .bl true, .bl false])) ∨ (¬ sp < 2 ∧ xs = us ∧ ds = rs.map aD ∧ DueL n kv rs dv' (upd H12 R (.tup xs)))) := by
      rcases hcase with ⟨h1, h2, h3, i, u, h4, h5, h6⟩ | ⟨h1, h2, h3, h4⟩
      · exact .inl ⟨h1, h2, h3, i, u, h4, h5, e13 _ _ h6⟩
      · exact .inr ⟨h1, h2, h3, h4.mono e13⟩
    clear hcase hds hG12 hR12 nR
    generalize upd H12 R (.tup xs) = H13 at *
    refine q_cut (M := fun σ' H' => ∃ (v : V) (d : PyData) (dv : V), σ' = Sl a0 p sp n T D o6 (some (.ref W)) (some dv) (some v) o10 o11 ∧ H' D = some (.dT kv) ∧ H' T = some (.tup us) ∧ RwA H' us rs ∧ Dq H' v d ∧ (itemsT d).length ≤ 60 ∧ (∀ x ∈ itemsT d, (itemsT x).length ≤ 60) ∧ ((∃ (res : List V) (u : Addr), Told n kv d res ∧ dv = .ref u ∧ H' u = some (.tup res)) ∨ (dv = .non ∧ firstL rs (linesL n kv) = none))) ?_ ?_
    · change tIfS _ _ _ _ (Sl a0 p sp n T D o6 (some (.ref W)) (some dv') (some (.ref R)) o10 o11) H13
      refine s_when (b := decide (V.int sp = V.int 2)) (et_test (ev_op (r := rEq) (ev_var rfl) ev_c (rv_eq rfl))) (fun hb H14 e14 => ?_) (fun hb H14 e14 => ?_)
      · have hsp : sp = 2 := by have := of_decide_eq_true hb; injection this
        rcases hcase13 with ⟨h1, _⟩ | ⟨_, hxu, hdu, _⟩
        · omega
        rw [hxu] at hR13
        have hG14 := hG13.ext e14
        have hT14 := hG14.ex _ _ gT1
        have hD14 := hG14.ex _ _ gD1
        have hA14 := gA1.mono hG14.ex
        have hR14 := e14 _ _ hR13
        have nt : ∀ {t : Addr} {xs : List V}, H14 t = some (.tup xs) → t ≠ p := fun ht z => by
          obtain ⟨_, _, _, hh, _⟩ := hG14.at_
          rw [z, hh] at ht
          cases ht
        refine ⟨.ref p, rfl, .ref R, rfl, Hd1 H14 p, p, q, R, us, rs, rfl, hG14.hd, by rw [hd1_at (nt hR14)]; exact hR14, ⟨hA14.1, fun i v hv => by
          obtain ⟨b, h1, h2⟩ := hA14.2 i v hv
          exact ⟨b, h1, by rw [hd1_at (nt h2)]; exact h2⟩⟩, by omega, by omega, hro, fun H15 v d hP15 o15 hd hf hl1 hl2 => ?_⟩
        refine g_name ?_
        dsimp only
        refine ⟨by show 4 ≤ sizeLine; decide, fun z nz => ?_⟩
        have e16 := Ex.new (o := .tup [V.str "areas", .str "-1", .bl true, .bl false]) nz
        refine g_name ?_
        have hD15 := hP15.ex D _ (by rw [hd1_at (fun z => by obtain ⟨_, _, _, hh, _⟩ := hG14.at_; rw [z, hh] at hD14; cases hD14)]; exact hD14)
        rw [hrl] at hf
        refine ⟨v, d, .ref z, rfl, e16 _ _ hD15, e16 _ _ (tup_pool hG14 o15 hT14), (hA14.pool hG14 o15).mono e16, hd.mono e16, hl1, hl2, .inl ⟨[.str "areas", .str (PyData.int (-1)).shown, .bl true, .bl false], z, .inl ⟨-1, hf, rfl⟩, rfl, ?_⟩⟩
        rw [upd_same, show (PyData.int (-1)).shown = "-1" by decide +kernel]
      · have hG14 := hG13.ext e14
        refine ⟨.ref R, .tuple ds, dv', rfl, hG14.ex _ _ gD1, hG14.ex _ _ gT1, gA1.mono hG14.ex, .tup (e14 _ _ hR13) (hds13.mono e14), ?_⟩
        rcases hcase13 with ⟨h1, h2, h3, i, u, h4, h5, h6⟩ | ⟨h1, h2, h3, h4⟩
        · exact ⟨by show ds.length ≤ 60; omega, h3, .inl ⟨_, u, .inl ⟨i, h4, rfl⟩, h5, e14 _ _ h6⟩⟩
        · subst h3
          refine ⟨hlr.1, hlr.2, ?_⟩
          rcases h4 with ⟨h5, h6⟩ | ⟨a, b, u, h5, h6, h7, h8, h9⟩
          · exact .inr ⟨h6, h5⟩
          · exact .inl ⟨_, u, .inr ⟨rs, a, b, rfl, hrl, hro, h5, h6, h7, rfl⟩, h8, e14 _ _ h9⟩
    clear hcase13 hds13 hG13 hR13 e13
    rintro σ' H14 ⟨v, d, dv2, rfl, hD14, hT14, hA14, hd, hl1, hl2, hc⟩
    have ct : Ev (tIsN (tVar 8)) (Sl a0 p sp n T D o6 (some (.ref W)) (some dv2) (some v) o10 o11) H14 (.bl (decide (dv2 = .non))) := fun Hy ey Qy qy => ⟨dv2, rfl, qy Hy (Ex.refl _)⟩
    rcases hc with ⟨res, u, hT, rfl, hu'⟩ | ⟨rfl, hf⟩
    · refine q_when (b := decide (V.ref u = V.non)) (et_test ct) (fun z => by cases of_decide_eq_true z) fun _ H15 e15 => ?_
      show tRet _ _ _ _
      refine ⟨.int (n : Int), rfl, .ref D, rfl, ?_⟩
      refine mk_cst (e15 _ _ hD14) hn1 hn8 hok (by omega) fun x H16 e16 nx hC => ?_
      obtain ⟨t1, t2⟩ := told_flat hT
      refine ⟨v, rfl, x, n, v, d, kv, res, rfl, hC, hn8, hok, hd.mono (e15.trans e16), hl1, hl2, hT, fun H17 t e17 ht => ?_⟩
      exact ⟨.ref u, rfl, t, u, res, rfl, rfl, st_of ht, st_of (((e15.trans e16).trans e17) _ _ hu'), t1, t2, k _⟩
    · refine q_when (b := decide (V.non = V.non)) (et_test ct) (fun _ H15 e15 => ?_) fun z => by rw [decide_eq_true rfl] at z; cases z
      refine ⟨.int (n : Int), rfl, .ref D, rfl, .ref T, rfl, D, T, us, n, kv, rs, rfl, hn1, hn8, e15 _ _ hD14, hok, by omega, e15 _ _ hT14, hA14.mono e15, hrl, hro, hf, k⟩
end
end Wk

set_option Elab.async false
set_option linter.all false
set_option maxRecDepth 100000
set_option maxHeartbeats 4000000
namespace Wk
open PySem PySem.Spec PyProof.Rows L2 Evl
/-! the head's facts with more of them -/
abbrev AlX : Type := He.AlD × Bool
def obsX (n : Nat) (fa : List He.Fa) (fn : List He.DefD) (eb : PySem.W.Frag → Bool) (g : Addr → Option Obj) : AlX := (He.obsDG n fa fn g, eb (He.frG g (He.asD g n)))
def hookX (n : Nat) (fa : List He.Fa) (fn : List He.DefD) (eb : PySem.W.Frag → Bool) : PySem.W.Hook where
  α := AlX
  obs := fun s => obsX n fa fn eb s.heap.get?
  val := fun _ => (He.valD fn, true)
  says := fun _ h => ∃ K : PySem.W.Frag, K.In h ∧ He.SaysD fa fn K ∧ eb K = true
  of := fun _ _ e => ⟨_, He.frG_in, congrArg Prod.fst e, congrArg Prod.snd e⟩
  keeps := fun _ _ _ ⟨K, hK, c⟩ k => ⟨K, PySem.W.Frag.In.keeps hK k, c⟩
theorem obsX_eq {n : Nat} {fa : List He.Fa} {fn : List He.DefD} {eb : PySem.W.Frag → Bool} {g : Addr → Option Obj} {s : Shared} (h : ∀ a, g a = s.heap.get? a) : obsX n fa fn eb g = (hookX n fa fn eb).obs s := by
  have e : g = s.heap.get? := funext h
  rw [e]
  rfl
theorem calOf {P : Program} {w : World} {K : PySem.W.Frag} {mg : Str → Option Value} {base : Heap} {x q : Str} {params : Arguments} {body : List Stmt} {scope : Scope} {f : Addr} {fd : FuncData} {ps : List Str} {k : Nat} {sp : Sp} (F : FunD K x q params body scope [] [] f fd) (o : FnOk P w K mg base CX0 k f fd ps sp) (g : mg x = some (.ref f)) (b : Binds K fd ps []) : Cal P w K mg base x ps k sp := ⟨⟨f, fd, o, g, F.kp, b⟩⟩
def dG (x : Str) (i : Nat) : He.DefD := ⟨(x, none), x, x, defArgs (top i), defBody (top i), defScope (top i), [], []⟩
def dM (c m q : Str) (i j : Nat) : He.DefD := ⟨(c, some m), m, q, defArgs (inClass (top i) j), defBody (inClass (top i) j), defScope (inClass (top i) j), [], []⟩
end Wk

set_option Elab.async false
set_option linter.all false
set_option maxRecDepth 100000
set_option maxHeartbeats 2000000
namespace Wk
open PySem PySem.Spec PyProof.Rows L2 Evl
/-! more facts: a thing of an own class, an error without arguments -/
def errB (K : PySem.W.Frag) (C : Addr) : Bool := PySem.W.excIn K C [.type "ValueError", .type "Exception", .type "BaseException", .type "object"] "ValueError.__new__" && (PySem.W.keepIn K (.ref C) && (decide (PySem.W.subIn K (.ref C) (.type "BaseException") = some true) && decide (PySem.W.typeIn K (.ref C) = some (.type "type"))))
theorem errB_ok {K : PySem.W.Frag} {mg : Str → Option Value} {x : Str} {C : Addr} (h : errB K C = true) (g : mg x = some (.ref C)) : ErrN K mg x C := by
  obtain ⟨h1, h⟩ := He.ba h
  obtain ⟨h2, h⟩ := He.ba h
  obtain ⟨h3, h4⟩ := He.ba h
  exact ⟨g, h1, h2, of_decide_eq_true h3, of_decide_eq_true h4⟩
def excB (K : PySem.W.Frag) (C : Addr) : Bool := He.eqO (PySem.W.findIn K (.ref C) "__getattribute__") (some (some (.builtin "BaseException.__getattribute__"))) && (He.eqO (PySem.W.findIn K (.ref C) "__getattr__") (some none) && (decide (PySem.W.subIn K (.ref C) (.type "BaseException") = some true) && (PySem.W.hasDictIn K C &&
  (He.eqO (PySem.W.findIn K (.ref C) "__class__") (some (some (.builtin "object.__class__"))) && (He.eqO (PySem.W.specialIn K (.builtin "object.__class__") "__get__") (some (some (.builtin "getset_descriptor.__get__"))) && (decide (PySem.W.takesIn K (.builtin "object.__class__") = some true) && decide (PySem.W.mroIn K C (.type "object") = some true)))))))
theorem excB_ok {K : PySem.W.Frag} {C : Addr} (h : excB K C = true) : ExcC K C := by
  obtain ⟨h1, h⟩ := He.ba h
  obtain ⟨h2, h⟩ := He.ba h
  obtain ⟨h3, h⟩ := He.ba h
  obtain ⟨h4, h⟩ := He.ba h
  obtain ⟨h5, h⟩ := He.ba h
  obtain ⟨h6, h⟩ := He.ba h
  obtain ⟨h7, h8⟩ := He.ba h
  exact ⟨He.eqO_ok h1, He.eqO_ok h2, of_decide_eq_true h3, h4, He.eqO_ok h5, He.eqO_ok h6, of_decide_eq_true h7, of_decide_eq_true h8⟩
def eknB (K : PySem.W.Frag) (C CW CB : Addr) : Bool := excB K C && (decide (PySem.W.kitOne K (.ref C) (.ref CW) = some true) && decide (PySem.W.kitOne K (.ref C) (.ref CB) = some false))
theorem eknB_ok {K : PySem.W.Frag} {C CW CB : Addr} (h : eknB K C CW CB = true) : EKn K C CW CB := by
  obtain ⟨h1, h⟩ := He.ba h
  obtain ⟨h2, h3⟩ := He.ba h
  exact ⟨excB_ok h1, of_decide_eq_true h2, of_decide_eq_true h3⟩
/-! the end: the law is called where no repr is under way -/
abbrev scO (vs : List Value) : Obj := { cls := .type "list", data := .seq vs.toArray }
section
variable {P : Program} {w : World} {K : PySem.W.Frag} {mg mb : Str → Option Value} {k : Nat} {fa a : Addr} {fd : FuncData} {x : Str} {sp : Sp} {s : Shared} {vs : List Value}
theorem gcall (kx : K.In s.heap) (g1 : s.heap.Ns mainGlobals mg) (g2 : s.heap.Ns builtinsNs mb) (g3 : ∀ y : Str, y ≠ "__name__" → mb y = bootBuiltins y) (g4 : s.heap.NoLimit) (g5 : s.gens = #[])
    (oa : s.heap.get? a = some (scO vs)) (room : Room k callerA) (Fn : ∀ base : Heap, K.In base → base.Ns mainGlobals mg → FnG P w K mg base k fa fd [x] sp) (bd : ∀ (t : Shared) (u : Value), BindsTo t fd ⟨[u], []⟩ [(x, u)])
    (H : Hp) (only : ∀ b, H b = none ∨ (b = a ∧ ∃ o xs, H b = some (.frz o (.lst xs)))) (hok : HOk P w H s.heap) (kh : H a ≠ none → K.lookup a = none) (hq : sp [.ref a] H (fun v _ => v = .bl true) fun _ _ _ => False) :
    codeAny (model P w) callerA (.call (.ref fa) ⟨[.ref a], []⟩) (fun r t => r = .ok (.ret (.bool true)) ∧ OldK s.heap t.heap ∧ t.os = s.os ∧ AllBare t.gens) s := by
  have off : ∀ b, b ≠ a → H b = none := fun b nb => (only b).elim id fun z => absurd z.1 nb
  have ns : ∀ {b : Addr} {m : Str → Option Value}, s.heap.Ns b m → (hidT s.heap H).Ns b m := fun {b m} z => by
    obtain ⟨o, es, ep, e, d, r⟩ := z
    refine ⟨o, es, ep, hidT_get e (off b fun c => ?_), d, r⟩
    rw [c, oa] at e
    cases e
    cases (show Data.seq vs.toArray _ = Data.dict es ep from d)
  have ki : K.In (hidT s.heap H) := fun b o e => by
    by_cases c : b = a
    · subst c
      cases z : H b with
      | none => exact hidT_get (kx b o e) z
      | some u =>
        rw [kh (by rw [z]; simp)] at e
        cases e
    · exact hidT_get (kx b o e) (off b c)
  have md : Mod K mg (hidT s.heap H) := ⟨ki, ns g1, ⟨mb, ns g2, g3⟩, g4.elim fun mc z => ⟨mc, ns z.1, z.2⟩⟩
  have ev : Env0 P w K mg (hidT s.heap H) callerA [] s H := ⟨rfl, md, fun b o e => of_hidT e, Nat.le_of_eq (hidT_size _ _), trivial, fun b hb => absurd (show b ∈ ([] : List Addr) from hb) (by simp), hok, .of_eq g5⟩
  have go := (Fn _ ki (ns g1)).run callerA [] s H ⟨[.ref a], []⟩ [.ref a] [.ref a] (fun v _ => v = .bl true) (fun _ _ _ => False) room rfl ev (bd s (.ref a)) (.cons rfl .nil) hq
  refine codeAny_mono go fun r t out => ?_
  match r, out with
  | .error e, out => exact False.elim out
  | .ok .next, out => exact False.elim out
  | .ok .brk, out => exact False.elim out
  | .ok .cont, out => exact False.elim out
  | .ok (.ret u), out =>
    obtain ⟨v, H', os, bare, un, hok', rv, q⟩ := out
    have q2 : v = .bl true := q
    subst q2
    have eu : u = Value.bool true := rv
    subst eu
    refine ⟨rfl, OldK.of_keep fun b o e => ?_, os, bare⟩
    rcases only b with z | ⟨_, ob, xs, z⟩
    · exact un.keep b o e z (by intro c; exact absurd (show b ∈ ([] : List Addr) from c) (by simp)) (by simp)
    · have e1 := (hok b _ z).1
      have e2 := (hok' b _ (un.frzs b ob _ z)).1
      rw [e] at e1
      cases e1
      exact e2
theorem gcall_all {ns : List Int} (kx : K.In s.heap) (g1 : s.heap.Ns mainGlobals mg) (g2 : s.heap.Ns builtinsNs mb) (g3 : ∀ y : Str, y ≠ "__name__" → mb y = bootBuiltins y) (g4 : s.heap.NoLimit) (g5 : s.gens = #[])
    (oa : s.heap.get? a = some (scO vs)) (hi : IntsAre vs ns) (hl : ns.length ≤ sizeLine) (room : Room k callerA) (Fn : ∀ base : Heap, K.In base → base.Ns mainGlobals mg → FnG P w K mg base k fa fd [x] sp) (bd : ∀ (t : Shared) (u : Value), BindsTo t fd ⟨[u], []⟩ [(x, u)])
    (hq : ∀ H : Hp, SqL K H a (ns.map V.int) → sp [.ref a] H (fun v _ => v = .bl true) fun _ _ _ => False) :
    codeAny (model P w) callerA (.call (.ref fa) ⟨[.ref a], []⟩) (fun r t => r = .ok (.ret (.bool true)) ∧ OldK s.heap t.heap ∧ t.os = s.os ∧ AllBare t.gens) s := by
  have rv := vals_ints hi
  have lv := hi.length
  by_cases hk : K.lookup a = none
  · refine gcall kx g1 g2 g3 g4 g5 oa room Fn bd (fun b => if b = a then some (.frz (scO vs) (.lst (ns.map V.int))) else none) (fun b => ?_) (fun b u z => ?_) (fun _ => hk) (hq _ (.inl (.inr ⟨scO vs, if_pos rfl⟩)))
    · by_cases c : b = a
      · exact .inr ⟨c, _, _, if_pos c⟩
      · exact .inl (if_neg c)
    · by_cases c : b = a
      · subst c
        have z2 := (if_pos rfl).symm.trans z
        cases z2
        exact ⟨oa, by rw [List.length_map]; exact hl, vs, _, rv, oa⟩
      · have z2 := (if_neg c).symm.trans z
        cases z2
  · obtain ⟨o, ho⟩ := Option.ne_none_iff_exists'.mp hk
    have e := kx a o ho
    rw [oa] at e
    cases e
    exact gcall kx g1 g2 g3 g4 g5 oa room Fn bd (fun _ => none) (fun _ => .inl rfl) (fun b u z => by cases z) (fun z => absurd rfl z) (hq _ (.inr ⟨_, vs.toArray, _, ho, rfl, rfl, rfl, by rw [List.size_toArray, lv]; exact hl, by simpa using rv⟩))
end
/-- from the promise of the law's def to what the head leaves -/
theorem walkG {l : PySem.W.OpenLaw} {n k : Nat} {q : Program} {loose : List Str} {XP : (Str → Option Value) → Heap → Prop} {YP : World → Heap → Prop} {d : DefRec} {x : Str} (hn : l.most = some n) (hn2 : n ≤ sizeLine) (hd : d.params.defaults = []) (hr : Room k callerA)
    (F : ∀ (w : World) (mg : Str → Option Value) (fa : Addr) (h : Heap), YP w h → h.Ns mainGlobals mg → mg d.name = some (.ref fa) → ∃ (K : PySem.W.Frag) (fd : FuncData) (sp : Sp), K.In h ∧ (∀ (t : Shared) (u : Value), BindsTo t fd ⟨[u], []⟩ [(x, u)]) ∧
      (∀ (H : Hp) (a : Addr) (ns : List Int), ns.length ≤ n → SqL K H a (ns.map V.int) → sp [.ref a] H (fun v _ => v = .bl true) fun _ _ _ => False) ∧ ∀ base : Heap, K.In base → base.Ns mainGlobals mg → FnG l.prog w K mg base k fa fd [x] sp) :
    PySem.W.WalkO q loose XP YP l.row.toRowW d [] (fun f vs => PySem.call f vs) := by
  refine Att.attach_call hn hd fun w s₀ s₁ mg mb fa o pm cd doc a vs ns G Y _ _ _ hmg hobj hints hlen hg => ?_
  obtain ⟨K, fd, sp, kx, hb, hsp, hF⟩ := F w mg fa _ Y G.T.g hmg
  exact gcall_all kx G.T.g G.T.b G.T.builtins G.T.nolimit hg hobj hints (Nat.le_trans hlen hn2) hr hF hb fun H hS => hsp H a ns hlen hS
/-! facts of own errors -/
def exB (K : PySem.W.Frag) (C : Addr) : Bool := (match K.lookup C with
  | some o => (match o.cls, o.data, o.slots.toList with
    | .type t, .cls cd, [_, _, _, _, some (.builtin n), _] => decide (t = "type") && (decide (n = "ValueError.__new__") && (cd.hasDict && (!cd.hasDel && (match cd.mro with
      | .ref c :: bm => decide (c = C) && PySem.HandSPX.refsVE bm
      | _ => false))))
    | _, _, _ => false)
  | none => false) && (He.eqO (PySem.W.findIn K (.ref C) "__setattr__") (some (some (.builtin "object.__setattr__"))) && (decide (PySem.W.subIn K (.ref C) (.type "BaseException") = some true) && (decide (PySem.W.typeIn K (.ref C) = some (.type "type")) && (PySem.W.keepIn K (.ref C) && xfB K C))))
theorem exB_ok {K : PySem.W.Frag} {C : Addr} (h : exB K C = true) : OexC K C ∧ XfC K C := by
  unfold exB at h
  obtain ⟨h1, h⟩ := He.ba h
  obtain ⟨h2, h⟩ := He.ba h
  obtain ⟨h3, h⟩ := He.ba h
  obtain ⟨h4, h⟩ := He.ba h
  obtain ⟨h5, h6⟩ := He.ba h
  refine ⟨⟨?_, He.eqO_ok h2, of_decide_eq_true h3, of_decide_eq_true h4, h5⟩, xfB_ok h6⟩
  cases hl : K.lookup C with
  | none =>
    rw [hl] at h1
    cases h1
  | some o =>
    rw [hl] at h1
    obtain ⟨oc, od, dt, ⟨sl⟩⟩ := o
    dsimp only at h1
    split at h1
    · rename_i t cd k0 k1 k2 k3 n k5
      obtain ⟨z1, h1⟩ := He.ba h1
      obtain ⟨z2, h1⟩ := He.ba h1
      obtain ⟨z3, h1⟩ := He.ba h1
      obtain ⟨z4, h1⟩ := He.ba h1
      split at h1
      · rename_i c bm hm
        obtain ⟨z5, z6⟩ := He.ba h1
        obtain ⟨x1, x2, x3, x4, x5, x6, x7, x8, x9, x10, x11⟩ := cd
        dsimp only at z3 z4 hm
        have y1 := of_decide_eq_true z1
        have y2 := of_decide_eq_true z2
        have y5 := of_decide_eq_true z5
        have y4 : x11 = false := by simpa using z4
        subst y1 y2 y5 y4 z3 hm
        exact ⟨x1, x5, x4, x2, bm, x7, x8, x9, x10, od, k0, k1, k2, k3, k5, rfl, z6⟩
      · cases h1
    · cases h1
def insCB (K : PySem.W.Frag) (C : Addr) : Bool := He.eqO (PySem.W.findIn K (.ref C) "__class__") (some (some (.builtin "object.__class__"))) && (He.eqO (PySem.W.specialIn K (.builtin "object.__class__") "__get__") (some (some (.builtin "getset_descriptor.__get__"))) && (decide (PySem.W.takesIn K (.builtin "object.__class__") = some true) &&
  (decide (PySem.W.mroIn K C (.type "object") = some true) && decide (PySem.W.kitOne K (.ref C) (.ref C) = some true))))
theorem insCB_ok {K : PySem.W.Frag} {C : Addr} (h : insCB K C = true) (cl : Cls K C) : C8.InsC K C := by
  obtain ⟨h1, h⟩ := He.ba h
  obtain ⟨h2, h⟩ := He.ba h
  obtain ⟨h3, h⟩ := He.ba h
  obtain ⟨h4, h5⟩ := He.ba h
  exact ⟨cl, He.eqO_ok h1, He.eqO_ok h2, of_decide_eq_true h3, of_decide_eq_true h4, of_decide_eq_true h5⟩
def ekaB (K : PySem.W.Frag) (C C1 C2 CW : Addr) : Bool := excB K C && (decide (PySem.W.kitOne K (.ref C) (.ref CW) = some true) && decide (PySem.W.kitAny K (.ref C) [.ref C1, .ref C2] = some false))
theorem ekaB_ok {K : PySem.W.Frag} {C C1 C2 CW : Addr} (h : ekaB K C C1 C2 CW = true) : EKa K C C1 C2 CW := by
  obtain ⟨h1, h⟩ := He.ba h
  obtain ⟨h2, h3⟩ := He.ba h
  exact ⟨excB_ok h1, of_decide_eq_true h2, of_decide_eq_true h3⟩
end Wk

set_option Elab.async false
set_option linter.all false
set_option maxRecDepth 100000
set_option maxHeartbeats 0
namespace Wk
open PySem PySem.Spec PyProof.Rows L2 Evl
def fn : List He.DefD := ([dG "is_integer" 8, dG "is_between" 9, dG "is_tuple_of" 10, dG "is_router" 11, dG "refuse_no_router" 12, dG "is_size" 13, dG "is_router_pair" 14, dG "is_line_dict" 19, dG "lines_with_costs" 20, dG "refuse_wrong_areas" 24, dG "is_area_tuple" 25, dG "common" 26, dG "_law_pool" 28, dG "_law_mixed" 29, dG "_law_draw" 30, dG "_law_lines" 31, dG "_law_is_integer" 32, dG "_law_row" 33, dG "_law_no_row" 34, dG "_law_no_rows" 35, dG "_law_shared" 36, dG "_law_told" 37, dG "_law_no_router" 38, dG "_law_kept" 39, dG "law" 40, dM "Costs" "__init__" "Costs.__init__" 18 0, dM "Costs" "cost" "Costs.cost" 18 2, dM "Costs" "__eq__" "Costs.__eq__" 18 1, dM "Areas" "__init__" "Areas.__init__" 23 0, dM "Areas" "areas" "Areas.areas" 23 1] : List He.DefD) ++ ([dM "NoRouter" "__init__" "NoRouter.__init__" 2 0, dM "BadAreas" "__init__" "BadAreas.__init__" 4 0, dM "BadLine" "__init__" "BadLine.__init__" 5 0] : List He.DefD)
def fa : List He.Fa := ([.glo "is_integer", .glo "is_between", .glo "is_tuple_of", .glo "is_router", .glo "refuse_no_router", .glo "is_size", .glo "is_router_pair", .glo "is_line_dict", .glo "lines_with_costs", .glo "refuse_wrong_areas", .glo "is_area_tuple", .glo "common", .glo "_law_pool", .glo "_law_mixed", .glo "_law_draw", .glo "_law_lines", .glo "_law_is_integer", .glo "_law_row", .glo "_law_no_row", .glo "_law_no_rows", .glo "_law_shared", .glo "_law_told", .glo "_law_no_router", .glo "_law_kept", .glo "law", .free "isinstance", .free "len", .free "tuple", .free "list", .free "int"] : List He.Fa) ++ ([.free "bool", .free "str", .free "all", .free "set", .free "enumerate", .free "range", .free "abs", .free "min", .free "repr", .free "sorted", .free "dict", .int "MOST_ROUTERS" 8, .int "LEAST_SIZE" 1, .int "MOST_COST" 1000000000, .int "LAST_AREA" 5, .glo "Costs", .cls "Costs", .mkr "Costs", .meth "Costs" "cost", .meth "Costs" "__eq__", .noat "Costs" "size", .noat "Costs" "_lines", .glo "Areas", .cls "Areas", .mkr "Areas", .meth "Areas" "areas", .noat "Areas" "costs", .noat "Areas" "_places", .glo "WishError", .glo "BadCosts"] : List He.Fa) ++ ([.glo "NoRouter", .exm "NoRouter" "NoRouter" true, .noat "NoRouter" "router", .meth "NoRouter" "__init__", .glo "BadAreas", .exm "BadAreas" "BadAreas" true, .noat "BadAreas" "router", .meth "BadAreas" "__init__", .glo "BadLine", .exm "BadLine" "BadLine" true, .exm "BadLine" "BadAreas" false, .noat "BadLine" "a", .noat "BadLine" "b", .meth "BadLine" "__init__"] : List He.Fa)
def eb (K : PySem.W.Frag) : Bool := exB K (He.ga K "NoRouter") && (exB K (He.ga K "BadAreas") && (exB K (He.ga K "BadLine") && (eknB K (He.ga K "NoRouter") (He.ga K "WishError") (He.ga K "BadAreas") && (ekaB K (He.ga K "BadAreas") (He.ga K "BadLine") (He.ga K "BadCosts") (He.ga K "WishError") && (ekaB K (He.ga K "BadLine") (He.ga K "BadAreas") (He.ga K "BadCosts") (He.ga K "WishError") && insCB K (He.ga K "Costs"))))))
abbrev R : PySem.W.OpenRow := PySem.W.OpenLaw.row PySem.Challenge.rw_wishreels_k79_areas_and_errors
abbrev hk : PySem.W.Hook := hookX 4 fa fn eb
def ob (s : PySem.W.SharedT) : AlX := obsX 4 fa fn eb (HandSHeadRun.getT s)
theorem ob_eq (s : PySem.W.SharedT) : ob s = hk.obs s.abs := obsX_eq (HandSHeadRun.getT_eq s)
def loose0 : List Str := ["__name__", "WishError", "NoRouter", "BadCosts", "BadAreas", "BadLine", "MOST_ROUTERS", "is_integer", "is_between", "is_tuple_of", "is_router", "refuse_no_router", "is_size", "is_router_pair", "LEAST_SIZE", "MOST_COST", "Costs", "is_line_dict", "lines_with_costs", "LAST_AREA", "Areas", "refuse_wrong_areas", "is_area_tuple", "common", "_law_pool", "_law_mixed", "_law_draw", "_law_lines", "_law_is_integer", "_law_row"]
def loose1 : List Str := ["_law_no_row", "_law_no_rows", "_law_shared", "_law_told", "_law_no_router", "_law_kept"]
def loose : List Str := loose0 ++ loose1
theorem run (w : World) : HandSHeadRun.RunEq R (PySem.W.view R.prog [40]) hk ob 7000 loose w := by
  intro os
  kernel_rfl
end Wk

set_option Elab.async false
set_option linter.all false
set_option maxRecDepth 100000
set_option maxHeartbeats 4000000
namespace Wk
open PySem PySem.Spec PyProof.Rows L2 Evl
theorem facts {P : Program} {w : World} {K : PySem.W.Frag} {h : Heap} {mg : Str → Option Value} {f : Addr} (X : K.In h) (G : h.Ns mainGlobals mg) (hfa : mg ("law" : Str) = some (.ref f)) (c : He.SaysD fa fn K) (cx : eb K = true) :
    ∃ fd : FuncData, (∀ (t : Shared) (u : Value), BindsTo t fd ⟨[u], []⟩ [("_law_script", u)]) ∧ ∀ base : Heap, K.In base → base.Ns mainGlobals mg → FnG P w K mg base 10 f fd ["_law_script"] (spLaw K) := by
  obtain ⟨d0, F0⟩ := c.def_ 0 (d := dG "is_integer" 8) rfl
  obtain ⟨d1, F1⟩ := c.def_ 1 (d := dG "is_between" 9) rfl
  obtain ⟨d2, F2⟩ := c.def_ 2 (d := dG "is_tuple_of" 10) rfl
  obtain ⟨d3, F3⟩ := c.def_ 3 (d := dG "is_router" 11) rfl
  obtain ⟨d4, F4⟩ := c.def_ 4 (d := dG "refuse_no_router" 12) rfl
  obtain ⟨d5, F5⟩ := c.def_ 5 (d := dG "is_size" 13) rfl
  obtain ⟨d6, F6⟩ := c.def_ 6 (d := dG "is_router_pair" 14) rfl
  obtain ⟨d7, F7⟩ := c.def_ 7 (d := dG "is_line_dict" 19) rfl
  obtain ⟨d8, F8⟩ := c.def_ 8 (d := dG "lines_with_costs" 20) rfl
  obtain ⟨d9, F9⟩ := c.def_ 9 (d := dG "refuse_wrong_areas" 24) rfl
  obtain ⟨d10, F10⟩ := c.def_ 10 (d := dG "is_area_tuple" 25) rfl
  obtain ⟨d11, F11⟩ := c.def_ 11 (d := dG "common" 26) rfl
  obtain ⟨d12, F12⟩ := c.def_ 12 (d := dG "_law_pool" 28) rfl
  obtain ⟨d13, F13⟩ := c.def_ 13 (d := dG "_law_mixed" 29) rfl
  obtain ⟨d14, F14⟩ := c.def_ 14 (d := dG "_law_draw" 30) rfl
  obtain ⟨d15, F15⟩ := c.def_ 15 (d := dG "_law_lines" 31) rfl
  obtain ⟨d16, F16⟩ := c.def_ 16 (d := dG "_law_is_integer" 32) rfl
  obtain ⟨d17, F17⟩ := c.def_ 17 (d := dG "_law_row" 33) rfl
  obtain ⟨d18, F18⟩ := c.def_ 18 (d := dG "_law_no_row" 34) rfl
  obtain ⟨d19, F19⟩ := c.def_ 19 (d := dG "_law_no_rows" 35) rfl
  obtain ⟨d20, F20⟩ := c.def_ 20 (d := dG "_law_shared" 36) rfl
  obtain ⟨d21, F21⟩ := c.def_ 21 (d := dG "_law_told" 37) rfl
  obtain ⟨d22, F22⟩ := c.def_ 22 (d := dG "_law_no_router" 38) rfl
  obtain ⟨d23, F23⟩ := c.def_ 23 (d := dG "_law_kept" 39) rfl
  obtain ⟨d24, F24⟩ := c.def_ 24 (d := dG "law" 40) rfl
  obtain ⟨d25, F25⟩ := c.def_ 25 (d := dM "Costs" "__init__" "Costs.__init__" 18 0) rfl
  obtain ⟨d26, F26⟩ := c.def_ 26 (d := dM "Costs" "cost" "Costs.cost" 18 2) rfl
  obtain ⟨d27, F27⟩ := c.def_ 27 (d := dM "Costs" "__eq__" "Costs.__eq__" 18 1) rfl
  obtain ⟨d28, F28⟩ := c.def_ 28 (d := dM "Areas" "__init__" "Areas.__init__" 23 0) rfl
  obtain ⟨d29, F29⟩ := c.def_ 29 (d := dM "Areas" "areas" "Areas.areas" 23 1) rfl
  obtain ⟨d30, F30⟩ := c.def_ 30 (d := dM "NoRouter" "__init__" "NoRouter.__init__" 2 0) rfl
  obtain ⟨d31, F31⟩ := c.def_ 31 (d := dM "BadAreas" "__init__" "BadAreas.__init__" 4 0) rfl
  obtain ⟨d32, F32⟩ := c.def_ 32 (d := dM "BadLine" "__init__" "BadLine.__init__" 5 0) rfl
  have e := hfa.symm.trans (He.glo_ok X G (c.fact 24 (f := .glo "law") rfl))
  cases e
  have bL := FunD.bindsA (ps := ["_law_script"]) F24 fun _ _ _ _ _ _ us hl => match us, hl with | [_], _ => rfl
  have B : Bl mg := ⟨He.free_ok X G (c.fact 25 rfl), He.free_ok X G (c.fact 26 rfl), He.free_ok X G (c.fact 27 rfl), He.free_ok X G (c.fact 28 rfl), He.free_ok X G (c.fact 29 rfl), He.free_ok X G (c.fact 30 rfl), He.free_ok X G (c.fact 31 rfl), He.free_ok X G (c.fact 32 rfl), He.free_ok X G (c.fact 33 rfl), He.free_ok X G (c.fact 34 rfl), He.free_ok X G (c.fact 35 rfl), He.free_ok X G (c.fact 36 rfl), He.free_ok X G (c.fact 37 rfl), He.free_ok X G (c.fact 38 rfl)⟩
  have hso : mg "sorted" = none := He.free_ok X G (c.fact 39 (f := .free "sorted") rfl)
  have hdi : mg "dict" = none := He.free_ok X G (c.fact 40 (f := .free "dict") rfl)
  obtain ⟨t0, mMOST_ROUTERS⟩ := He.int_ok X G (c.fact 41 (f := .int "MOST_ROUTERS" 8) rfl)
  obtain ⟨t1, mLEAST_SIZE⟩ := He.int_ok X G (c.fact 42 (f := .int "LEAST_SIZE" 1) rfl)
  obtain ⟨t2, mMOST_COST⟩ := He.int_ok X G (c.fact 43 (f := .int "MOST_COST" 1000000000) rfl)
  obtain ⟨t3, mLAST_AREA⟩ := He.int_ok X G (c.fact 44 (f := .int "LAST_AREA" 5) rfl)
  have TX : CXc K (He.ga K "Costs") := ⟨He.cls_ok (c.fact 46 (f := .cls "Costs") rfl), He.noat_ok (c.fact 50 (f := .noat "Costs" "size") rfl), He.noat_ok (c.fact 51 (f := .noat "Costs" "_lines") rfl)⟩
  have TY : CXa K (He.ga K "Areas") := ⟨He.cls_ok (c.fact 53 (f := .cls "Areas") rfl), He.noat_ok (c.fact 56 (f := .noat "Areas" "costs") rfl), He.noat_ok (c.fact 57 (f := .noat "Areas" "_places") rfl)⟩
  obtain ⟨x1, x⟩ := He.ba cx
  obtain ⟨x2, x⟩ := He.ba x
  obtain ⟨x3, x⟩ := He.ba x
  obtain ⟨x4, x⟩ := He.ba x
  obtain ⟨x5, x⟩ := He.ba x
  obtain ⟨x6, x7⟩ := He.ba x
  obtain ⟨oN, fN⟩ := exB_ok x1
  obtain ⟨oA, fA⟩ := exB_ok x2
  obtain ⟨oL, fL⟩ := exB_ok x3
  have KN := eknB_ok x4
  have KA := ekaB_ok x5
  have KL := ekaB_ok x6
  have IC := insCB_ok x7 TX.cl
  have nN : PySem.W.findIn K (.ref (He.ga K "NoRouter")) "router" = some none := He.noat_ok (c.fact 62 (f := .noat "NoRouter" "router") rfl)
  have nA : PySem.W.findIn K (.ref (He.ga K "BadAreas")) "router" = some none := He.noat_ok (c.fact 66 (f := .noat "BadAreas" "router") rfl)
  have nLa : PySem.W.findIn K (.ref (He.ga K "BadLine")) "a" = some none := He.noat_ok (c.fact 71 (f := .noat "BadLine" "a") rfl)
  have nLb : PySem.W.findIn K (.ref (He.ga K "BadLine")) "b" = some none := He.noat_ok (c.fact 72 (f := .noat "BadLine" "b") rfl)
  have iN := He.meth_ok (c.fact 63 (f := .meth "NoRouter" "__init__") rfl)
  have iA := He.meth_ok (c.fact 67 (f := .meth "BadAreas" "__init__") rfl)
  have iL := He.meth_ok (c.fact 73 (f := .meth "BadLine" "__init__") rfl)
  refine ⟨d24, fun t u => bL t [u] rfl, fun base _ _ => ?_⟩
  have EN : ErrF P w K mg base "NoRouter" (He.ga K "NoRouter") "router" := ⟨(He.glo_ok X G (c.fact 60 (f := .glo "NoRouter") rfl)), oN, fN, nN, He.exm_ok (c.fact 61 (f := .exm "NoRouter" "NoRouter" true) rfl), ⟨_, d30, iN.at_, beq_iff_eq.mp iN.fn, ok_xn oN nN F30, F30.bindsN fun _ _ _ _ _ _ us hl => match us, hl with | [_, _], _ => rfl⟩⟩
  have EA : ErrF P w K mg base "BadAreas" (He.ga K "BadAreas") "router" := ⟨(He.glo_ok X G (c.fact 64 (f := .glo "BadAreas") rfl)), oA, fA, nA, He.exm_ok (c.fact 65 (f := .exm "BadAreas" "BadAreas" true) rfl), ⟨_, d31, iA.at_, beq_iff_eq.mp iA.fn, ok_xa oA nA F31, F31.bindsN fun _ _ _ _ _ _ us hl => match us, hl with | [_, _], _ => rfl⟩⟩
  have EL : ErrL P w K mg base "BadLine" (He.ga K "BadLine") := ⟨(He.glo_ok X G (c.fact 68 (f := .glo "BadLine") rfl)), oL, fL, nLa, nLb, He.exm_ok (c.fact 69 (f := .exm "BadLine" "BadLine" true) rfl), ⟨_, d32, iL.at_, beq_iff_eq.mp iL.fn, ok_xl oL nLa nLb F32, F32.bindsN fun _ _ _ _ _ _ us hl => match us, hl with | [_, _, _], _ => rfl⟩⟩
  have C0 : Cal P w K mg base "is_integer" ["thing"] 1 spIsInt := calOf F0 (ok_isInt B F0) (He.glo_ok X G (c.fact 0 rfl)) (F0.bindsN fun _ _ _ _ _ _ us hl => match us, hl with | [_], _ => rfl)
  have C1 : Cal P w K mg base "is_between" ["least", "most", "thing"] 2 spBetween := calOf F1 (ok_between B C0 F1) (He.glo_ok X G (c.fact 1 rfl)) (F1.bindsN fun _ _ _ _ _ _ us hl => match us, hl with | [_, _, _], _ => rfl)
  have C2 : Cal P w K mg base "is_router" ["size", "thing"] 3 spRouter := calOf F3 (ok_router C1 F3) (He.glo_ok X G (c.fact 3 rfl)) (F3.bindsN fun _ _ _ _ _ _ us hl => match us, hl with | [_, _], _ => rfl)
  have C3 : Cal P w K mg base "is_tuple_of" ["many", "thing"] 1 spTupOf2 := calOf F2 (ok_tupOf2 B F2) (He.glo_ok X G (c.fact 2 rfl)) (F2.bindsN fun _ _ _ _ _ _ us hl => match us, hl with | [_, _], _ => rfl)
  have C4 : Cal P w K mg base "refuse_no_router" ["size", "thing"] 4 spRNR := calOf F4 (ok_rnr C2 F4) (He.glo_ok X G (c.fact 4 rfl)) (F4.bindsN fun _ _ _ _ _ _ us hl => match us, hl with | [_, _], _ => rfl)
  have C4x : CalX P w K mg base "refuse_no_router" ["size", "thing"] 4 (spNoRt (He.ga K "NoRouter")) := ⟨⟨_, d4, ok_noRt EN C2 F4, He.glo_ok X G (c.fact 4 rfl), F4.kp, (F4.bindsN fun _ _ _ _ _ _ us hl => match us, hl with | [_, _], _ => rfl)⟩⟩
  have C5 : Cal P w K mg base "is_size" ["least", "thing"] 3 spSize := calOf F5 (ok_size mMOST_ROUTERS C1 F5) (He.glo_ok X G (c.fact 5 rfl)) (F5.bindsN fun _ _ _ _ _ _ us hl => match us, hl with | [_, _], _ => rfl)
  have C6 : Cal P w K mg base "is_router_pair" ["size", "thing"] 4 spRP := calOf F6 (ok_rp C3 C2 F6) (He.glo_ok X G (c.fact 6 rfl)) (F6.bindsN fun _ _ _ _ _ _ us hl => match us, hl with | [_, _], _ => rfl)
  have C7 : Cal P w K mg base "is_line_dict" ["size", "thing"] 5 spLD := calOf F7 (ok_ld B hdi mMOST_COST C1 C6 F7) (He.glo_ok X G (c.fact 7 rfl)) (F7.bindsN fun _ _ _ _ _ _ us hl => match us, hl with | [_, _], _ => rfl)
  have MC : MkC P w K mg base (He.ga K "Costs") := ⟨(He.glo_ok X G (c.fact 45 (f := .glo "Costs") rfl)), ⟨_, d25, He.mkr_ok (c.fact 47 (f := .mkr "Costs") rfl), ok_cIn mLEAST_SIZE TX C5 C7 F25, F25.bindsN fun _ _ _ _ _ _ us hl => match us, hl with | [_, _, _], _ => rfl⟩⟩
  have MO : MskO P w K mg base (He.ga K "Costs") "cost" ["self", "a", "b"] 5 (spCost (He.ga K "Costs")) := ⟨⟨_, d26, He.meth_ok (c.fact 48 (f := .meth "Costs" "cost") rfl), ok_cost TX C4 F26, F26.bindsN fun _ _ _ _ _ _ us hl => match us, hl with | [_, _, _], _ => rfl⟩⟩
  have CE : Cal P w K mg base "lines_with_costs" ["costs"] 6 (spLwc (He.ga K "Costs")) := calOf F8 (ok_lwc B TX MO F8) (He.glo_ok X G (c.fact 8 rfl)) (F8.bindsN fun _ _ _ _ _ _ us hl => match us, hl with | [_], _ => rfl)
  have MQ : MqC P w K mg base (He.ga K "Costs") := ⟨⟨_, d27, He.meth_ok (c.fact 49 (f := .meth "Costs" "__eq__") rfl), ok_cEq B TX IC (He.glo_ok X G (c.fact 45 (f := .glo "Costs") rfl)) F27, F27.bindsN fun _ _ _ _ _ _ us hl => match us, hl with | [_, _], _ => rfl⟩⟩
  have C8 : Cal P w K mg base "is_area_tuple" ["thing"] 3 spIAT := calOf F10 (ok_iat B hso mLAST_AREA C1 F10) (He.glo_ok X G (c.fact 10 rfl)) (F10.bindsN fun _ _ _ _ _ _ us hl => match us, hl with | [_], _ => rfl)
  have C9 : CalX P w K mg base "refuse_wrong_areas" ["size", "areas"] 4 (spRWA (He.ga K "BadAreas")) := ⟨⟨_, d9, ok_rwa B EA C3 C8 F9, He.glo_ok X G (c.fact 9 rfl), F9.kp, (F9.bindsN fun _ _ _ _ _ _ us hl => match us, hl with | [_, _], _ => rfl)⟩⟩
  have CA : Cal P w K mg base "common" ["one", "other"] 1 spCmn := calOf F11 (ok_cmn F11) (He.glo_ok X G (c.fact 11 rfl)) (F11.bindsN fun _ _ _ _ _ _ us hl => match us, hl with | [_, _], _ => rfl)
  have MR : MkR P w K mg base (He.ga K "Areas") (He.ga K "Costs") (He.ga K "BadAreas") (He.ga K "BadLine") := ⟨(He.glo_ok X G (c.fact 52 (f := .glo "Areas") rfl)), ⟨_, d28, He.mkr_ok (c.fact 54 (f := .mkr "Areas") rfl), ok_aIn B TX TY EL C9 CE CA F28, F28.bindsN fun _ _ _ _ _ _ us hl => match us, hl with | [_, _, _], _ => rfl⟩⟩
  have MA : MskX P w K mg base (He.ga K "Areas") "areas" ["self", "router"] 5 (spArs (He.ga K "Areas") (He.ga K "Costs") (He.ga K "NoRouter")) := ⟨⟨_, d29, He.meth_ok (c.fact 55 (f := .meth "Areas" "areas") rfl), ok_ars TX TY C4x F29, F29.bindsN fun _ _ _ _ _ _ us hl => match us, hl with | [_, _], _ => rfl⟩⟩
  have D0 : Cal P w K mg base "_law_pool" ["_law_script"] 1 (spPool K) := calOf F12 (ok_pool B F12) (He.glo_ok X G (c.fact 12 rfl)) (F12.bindsN fun _ _ _ _ _ _ us hl => match us, hl with | [_], _ => rfl)
  have D1 : Cal P w K mg base "_law_mixed" ["_law_cell", "_law_many"] 1 spMixed := calOf F13 (ok_mixed B F13) (He.glo_ok X G (c.fact 13 rfl)) (F13.bindsN fun _ _ _ _ _ _ us hl => match us, hl with | [_, _], _ => rfl)
  have D2 : Cal P w K mg base "_law_draw" ["_law_pool_here", "_law_limit"] 2 spDraw := calOf F14 (ok_draw B D1 F14) (He.glo_ok X G (c.fact 14 rfl)) (F14.bindsN fun _ _ _ _ _ _ us hl => match us, hl with | [_, _], _ => rfl)
  have D4 : Cal P w K mg base "_law_lines" ["_law_pool_here", "_law_size", "_law_most"] 3 spLns := calOf F15 (ok_lns B D2 F15) (He.glo_ok X G (c.fact 15 rfl)) (F15.bindsN fun _ _ _ _ _ _ us hl => match us, hl with | [_, _, _], _ => rfl)
  have D5 : Cal P w K mg base "_law_is_integer" ["_law_thing"] 1 spIsInt := calOf F16 (ok_lIsInt B F16) (He.glo_ok X G (c.fact 16 rfl)) (F16.bindsN fun _ _ _ _ _ _ us hl => match us, hl with | [_], _ => rfl)
  have D6 : Cal P w K mg base "_law_row" ["_law_pool_here"] 3 spRow := calOf F17 (ok_row B hso D2 F17) (He.glo_ok X G (c.fact 17 rfl)) (F17.bindsN fun _ _ _ _ _ _ us hl => match us, hl with | [_], _ => rfl)
  have D7 : Cal P w K mg base "_law_no_row" ["_law_pool_here"] 3 spNoRw := calOf F18 (ok_noRw B D2 F18) (He.glo_ok X G (c.fact 18 rfl)) (F18.bindsN fun _ _ _ _ _ _ us hl => match us, hl with | [_], _ => rfl)
  have D8 : Cal P w K mg base "_law_no_rows" ["_law_pool_here", "_law_rows"] 3 spNoRs := calOf F19 (ok_noRs B D2 F19) (He.glo_ok X G (c.fact 19 rfl)) (F19.bindsN fun _ _ _ _ _ _ us hl => match us, hl with | [_, _], _ => rfl)
  have D9 : Cal P w K mg base "_law_shared" ["_law_rows", "_law_pair"] 1 spShr := calOf F20 (ok_shr B F20) (He.glo_ok X G (c.fact 20 rfl)) (F20.bindsN fun _ _ _ _ _ _ us hl => match us, hl with | [_, _], _ => rfl)
  have DA : CalG P w K mg base "_law_told" ["_law_costs", "_law_rows"] 9 (spTold (He.ga K "Costs")) := ⟨⟨_, d21, ok_told B MR EA EL (He.exm_ok (c.fact 70 (f := .exm "BadLine" "BadAreas" false) rfl)) KA KL (He.glo_ok X G (c.fact 58 (f := .glo "WishError") rfl)) (He.glo_ok X G (c.fact 59 (f := .glo "BadCosts") rfl)) F21, He.glo_ok X G (c.fact 21 rfl), F21.kp, F21.bindsN fun _ _ _ _ _ _ us hl => match us, hl with | [_, _], _ => rfl⟩⟩
  have DB : CalG P w K mg base "_law_no_router" ["_law_areas", "_law_thing"] 6 (spNoRA (He.ga K "Areas") (He.ga K "Costs")) := ⟨⟨_, d22, ok_noRA B TY EN KN (He.glo_ok X G (c.fact 58 (f := .glo "WishError") rfl)) (He.glo_ok X G (c.fact 64 (f := .glo "BadAreas") rfl)) MA F22, He.glo_ok X G (c.fact 22 rfl), F22.kp, F22.bindsN fun _ _ _ _ _ _ us hl => match us, hl with | [_, _], _ => rfl⟩⟩
  have DC : CalG P w K mg base "_law_kept" ["_law_size", "_law_lines_here", "_law_rows"] 9 spKept := ⟨⟨_, d23, ok_kept B TY ⟨MC, MR, MQ, MA, D5, DB⟩ F23, He.glo_ok X G (c.fact 23 rfl), F23.kp, F23.bindsN fun _ _ _ _ _ _ us hl => match us, hl with | [_, _, _], _ => rfl⟩⟩
  exact ok_law B hso ⟨D0, D2, D4, D6, D7, D8, D9, DA, DC, MC⟩ F24
end Wk
open PySem PySem.W PySem.Calls PyProof.Rows
set_option maxHeartbeats 0
theorem PySem.Challenge.cw_wishreels_k79_areas_and_errors_holds : PySem.Challenge.rw_wishreels_k79_areas_and_errors.Holds := by
  w_on; o_law
  refine HandSHeadRun.head_any (r := Wk.R) (q := view Wk.R.prog [40]) (H := Wk.hk) (ob := Wk.ob) (M := 7000) (loose := Wk.loose) (d := HandSHeadRun.topDef Wk.R.prog 40) (kwd := []) Wk.ob_eq
    (by kernel_rfl) (fun s => by kernel_rfl) Wk.run (by kernel_rfl) (by kernel_rfl) (by kernel_rfl) (by rfl) (by first | assumption | decide +kernel) (by decide +kernel) ⟨rfl, rfl, rfl, rfl, rfl, by decide +kernel⟩ ?hw ?hc
  case hw => w_witness2
  case hc =>
    refine Wk.walkG (l := PySem.Challenge.rw_wishreels_k79_areas_and_errors) (n := 63) (k := 10) (x := "_law_script") rfl (by decide) (by kernel_rfl) ⟨rfl, by decide, by decide⟩ ?_
    intro w mg fa h Y G hmg0
    obtain ⟨K, kx, c, cx⟩ := Y
    have hmg : mg ("law" : PySem.Str) = some (.ref fa) := by
      have e : (HandSHeadRun.topDef Wk.R.prog 40).name = ("law" : PySem.Str) := by kernel_rfl
      rw [← e]
      exact hmg0
    obtain ⟨fd, hb, hF⟩ := Wk.facts (P := (PySem.Challenge.rw_wishreels_k79_areas_and_errors).prog) (w := w) kx G hmg c cx
    exact ⟨K, fd, Wk.spLaw K, kx, hb, fun H a ns hl hS => ⟨a, ns, rfl, hS, hl, fun _ => rfl⟩, hF⟩

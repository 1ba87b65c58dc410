import PyProof.Rows.All
import Wide.All
import OpenK.AllK
import Wide.FinOn
import KE.KStateDown
import HandS.ForMost
import HandS.More
import HandS.WordsExc
import HandS.Defaults
import HandS.Deep
import HandS.IsInst
import HandS.Evl
import HandS.Walk
import HandS.TupSets
import HandS.TupAny
import HandS.Conv
import PyProof.P3In
import HandS.SetFor
import HandS.Strs
import KE.GoesMore
import KE.GoesEnum
import HandS.ExcInit
import HandS.ExcField
import HandS.ExcOwn
import PyProof.NeKinds
import PyProof.EqKinds
import PyProof.FactsAll.subtypes_4
import PyProof.FactsAll.dict_1
import HandS.Head0
import HandS.Head1
import HandS.Head2
import HandS.HeadEnd
import HandS.HeadHook1
import HandS.HeadHook2
import HandS.DictComp
import HandS.Comp
import HandS.Style
import KE.SortData
import HandS.NamedTupSort
import HandS.SortRule
import HandS.ExcValue
import KE.KSortTup
import HandS.TupMul
import PyProof.SeqIndex
import KE.GoesZip
import KE.KExcIs
import HandS.TryOnly
import HandS.Steps
import HandS.ExcBuiltin
import HandS.TupLe
import KE.SortKeyHeap
import KE.LtData
import HandS.SortKw
import KE.KRevSl
import HandS.ExcIs
import PySem.Challenge.RW_wishreels_k22_steps_to_an_outcome
set_option Elab.async false
set_option linter.all false
set_option maxRecDepth 100000
set_option maxHeartbeats 2000000
namespace Wk
open PySem PySem.Spec PyProof.Rows L2 Evl
/-! data that stand in a heap -/
mutual
inductive Dq (G : Hp) : V → PyData → Prop
  | non : Dq G .non .none
  | bl (b : Bool) : Dq G (.bl b) (.bool b)
  | int (i : Int) : Dq G (.int i) (.int i)
  | str (x : Str) : Dq G (.str x) (.str x)
  | lst {a : Addr} {xs : List V} {ds : List PyData} : G a = some (.lst xs) → DqA G xs ds → Dq G (.ref a) (.list ds)
  | tup {a : Addr} {xs : List V} {ds : List PyData} : G a = some (.tup xs) → DqA G xs ds → Dq G (.ref a) (.tuple ds)
  | dic {a : Addr} : G a = some (.dK []) → Dq G (.ref a) (.dict [])
inductive DqA (G : Hp) : List V → List PyData → Prop
  | nil : DqA G [] []
  | cons {v : V} {vs : List V} {d : PyData} {ds : List PyData} : Dq G v d → DqA G vs ds → DqA G (v :: vs) (d :: ds)
end

mutual
theorem Dq.mono {G H : Hp} (e : Ex G H) : ∀ {d : PyData} {v : V}, Dq G v d → Dq H v d
  | .none, _, .non => .non
  | .bool _, _, .bl b => .bl b
  | .int _, _, .int i => .int i
  | .str _, _, .str x => .str x
  | .list _, _, .lst h a => .lst (e _ _ h) (DqA.mono e a)
  | .tuple _, _, .tup h a => .tup (e _ _ h) (DqA.mono e a)
  | .dict _, _, .dic h => .dic (e _ _ h)
theorem DqA.mono {G H : Hp} (e : Ex G H) : ∀ {ds : List PyData} {vs : List V}, DqA G vs ds → DqA H vs ds
  | [], _, .nil => .nil
  | _ :: _, _, .cons h t => .cons (Dq.mono e h) (DqA.mono e t)
end

mutual
theorem Dq.dp {K : PySem.W.Frag} {G : Hp} : ∀ {d : PyData} {v : V}, d.canLay0 = true → Dq G v d → Dp K G v d
  | .none, _, _, .non => .non
  | .bool _, _, _, .bl b => .bl b
  | .int _, _, _, .int i => .int i
  | .str _, _, _, .str x => .str x
  | .list ds, _, c, .lst h a => .lst (sq_of h) (DqA.dp (by simpa [PyData.canLay0] using c) a)
  | .tuple ds, _, c, .tup h a => .tup (st_of h) (DqA.dp (by simpa [PyData.canLay0] using c) a)
  | .dict _, _, c, .dic h => by simp [PyData.canLay0] at c
theorem DqA.dp {K : PySem.W.Frag} {G : Hp} : ∀ {ds : List PyData} {vs : List V}, PyData.canLayAll0 ds = true → DqA G vs ds → DpAll K G vs ds
  | [], _, _, .nil => .nil
  | d :: ds, _, c, .cons h t => by
    have c' : d.canLay0 = true ∧ PyData.canLayAll0 ds = true := by simpa [PyData.canLayAll0] using c
    exact .cons (Dq.dp c'.1 h) (DqA.dp c'.2 t)
end
theorem DqA.length {G : Hp} : ∀ {ds : List PyData} {vs : List V}, DqA G vs ds → vs.length = ds.length
  | [], _, .nil => rfl
  | _ :: _, _, .cons _ t => congrArg Nat.succ t.length
theorem DqA.get {G : Hp} : ∀ {ds : List PyData} {vs : List V} {i : Nat} {v : V}, DqA G vs ds → vs[i]? = some v → ∃ d, ds[i]? = some d ∧ Dq G v d
  | [], _, i, v, .nil, e => by simp at e
  | d :: _, _, 0, v, .cons h t, e => ⟨d, rfl, by simp at e; subst e; exact h⟩
  | _ :: _, _, i + 1, v, .cons h t, e => by
    obtain ⟨d, e1, e2⟩ := t.get (i := i) (by simpa using e)
    exact ⟨d, by simpa using e1, e2⟩
theorem DqA.at {G : Hp} {ds : List PyData} {vs : List V} {i : Nat} {d : PyData} (h : DqA G vs ds) (e : ds[i]? = some d) : ∃ v, vs[i]? = some v ∧ Dq G v d := by
  have hl := h.length
  obtain ⟨hi, _⟩ := List.getElem?_eq_some_iff.mp e
  have hv : vs[i]? = some (vs[i]'(by omega)) := List.getElem?_eq_getElem (by omega)
  obtain ⟨d', e1, e2⟩ := h.get hv
  rw [e] at e1
  cases e1
  exact ⟨_, hv, e2⟩
theorem DqA.append {G : Hp} : ∀ {ds es : List PyData} {vs us : List V}, DqA G vs ds → DqA G us es → DqA G (vs ++ us) (ds ++ es)
  | [], _, _, _, .nil, h => h
  | _ :: _, _, _, _, .cons h t, u => .cons h (t.append u)
theorem DqA.take {G : Hp} : ∀ {ds : List PyData} {vs : List V} (n : Nat), DqA G vs ds → DqA G (vs.take n) (ds.take n)
  | [], _, n, .nil => by simp; exact .nil
  | _ :: _, _, 0, .cons h t => .nil
  | _ :: _, _, n + 1, .cons h t => .cons h (t.take n)
theorem DqA.drop {G : Hp} : ∀ {ds : List PyData} {vs : List V} (n : Nat), DqA G vs ds → DqA G (vs.drop n) (ds.drop n)
  | [], _, n, .nil => by simp; exact .nil
  | _ :: _, _, 0, .cons h t => .cons h t
  | _ :: _, _, n + 1, .cons h t => t.drop n
theorem DqA.ints {G : Hp} : ∀ (ns : List Int), DqA G (ns.map V.int) (ns.map PyData.int)
  | [] => .nil
  | n :: ns => .cons (.int n) (DqA.ints ns)
theorem DqA.int_inv {G : Hp} : ∀ {ns : List Int} {vs : List V}, DqA G vs (ns.map PyData.int) → vs = ns.map V.int
  | [], _, .nil => rfl
  | _ :: _, _, .cons (.int n) t => by
    have := DqA.int_inv t
    subst this
    rfl
/-- the name of a datum's type -/
def tyN : PyData → String
  | .none => "NoneType"
  | .bool _ => "bool"
  | .int _ => "int"
  | .str _ => "str"
  | .list _ => "list"
  | .tuple _ => "tuple"
  | .dict _ => "dict"
theorem Dq.ty {K : PySem.W.Frag} {G : Hp} {d : PyData} {v : V} (h : Dq G v d) : TyX K G v (.type (tyN d)) := by
  cases h with
  | non => exact .base .non
  | bl b => exact .base (.bl b)
  | int i => exact .base (.int i)
  | str x => exact .base (.str x)
  | lst h _ => exact .base (.lst h)
  | tup h _ => exact .base (.tup h)
  | dic h => exact .base (.dK h)
/-- a call's callee: the def that a global name holds -/
structure Cal (P : Program) (w : World) (K : PySem.W.Frag) (mg : Str → Option Value) (base : Heap) (x : Str) (ps : List Str) (k : Nat) (sp : Sp) : Prop where
  ex : ∃ (f : Addr) (fd : FuncData), FnOk P w K mg base CX0 k f fd ps sp ∧ mg x = some (.ref f) ∧ PySem.W.keepIn K (.ref f) = true ∧ Binds K fd ps []
section
variable {X : Cx}
theorem pe_cal {x : Str} {p pos : Pos} {e : Expr} {es : List Expr} {ps : List Str} {k j : Nat} {sp : Sp} {t : TA} (C : Cal X.prog X.w X.K X.mg X.base x ps k sp) (hr : Room j X.A) (hg : Gl X x) (ha : PA X (e :: es) t) (hk : k ≤ j := by decide)
    (hdb : (x == ("__debug__" : Str)) = false := by decide) (he : starEach (e :: es) X.env = (false, eval e X.env) :: starEach es X.env := by rfl) (hpl : (backTo pos (starEach es X.env)).any (·.1) = false := by rfl) :
    PE X (.Call (.Name x p) (e :: es) [] pos) (tCall sp [] E0 t) := by
  obtain ⟨f, fd, F, g, kp, b⟩ := C.ex
  exact pe_call F (hr.mono hk) hg g kp b .nil pass0 ha hdb he hpl
end
section
variable {K : PySem.W.Frag} {σ : L2.St} {H : Hp} {ta tb tc te : TE}
/-- isinstance(x, T), T a built-in type -/
theorem ev_isi {v : V} {d : PyData} {n : String} {b : Bool} (h : Ev ta σ H v) (hd : Dq H v d) (hk : kitB (tyN d) n = some b) : Ev (tCB (rIsi K) (tCons ta (tCons (tC (.ty n)) tNil))) σ H (.bl b) := fun H1 e Q q =>
  h H1 e _ fun H2 e2 => ⟨v, .ty n, .type (tyN d), .type n, b, rfl, .ty n, (hd.mono (e.trans e2)).ty, kit_ty hk, q H2 e2⟩
/-- a <= b <= c of ints -/
theorem ev_chain {i j k : Int} {r r' : R2} {b1 b2 : Bool} (ha : Ev ta σ H (.int i)) (hb : Ev tb σ H (.int j)) (hc : Ev tc σ H (.int k)) (h1 : RV r (.int i) (.int j) H (.bl b1)) (h2 : RV r' (.int j) (.int k) H (.bl b2)) :
    Ev (tChain r r' ta tb tc) σ H (.bl (b1 && b2)) := fun H1 e Q q =>
  ha H1 e _ fun H2 e2 => hb H2 (e.trans e2) _ fun H3 e3 => h1 H3 ((e.trans e2).trans e3) _ fun H4 e4 => ⟨b1, rfl, by
    cases b1 with
    | false => exact q H4 ((e2.trans e3).trans e4)
    | true => exact hc H4 (((e.trans e2).trans e3).trans e4) _ fun H5 e5 => h2 H5 ((((e.trans e2).trans e3).trans e4).trans e5) _ fun H6 e6 => q H6 ((((e2.trans e3).trans e4).trans e5).trans e6)⟩
end
end Wk

set_option Elab.async false
set_option linter.all false
set_option maxRecDepth 100000
set_option maxHeartbeats 4000000
namespace Wk
open PySem PySem.Spec PyProof.Rows L2 Evl
/-! how many are unlike -/
theorem nd_le {α : Type} [DecidableEq α] : ∀ (l D : List α), l.Nodup → (∀ x ∈ l, x ∈ D) → l.length ≤ D.length
  | [], _, _, _ => Nat.zero_le _
  | x :: l, D, hn, hs => by
    have hn' := List.nodup_cons.mp hn
    have hx : x ∈ D := hs x List.mem_cons_self
    have ih := nd_le l (D.erase x) hn'.2 fun y hy => (List.mem_erase_of_ne (fun (e : y = x) => hn'.1 (by rw [← e]; exact hy))).2 (hs y (List.mem_cons_of_mem _ hy))
    have e := List.length_erase_of_mem hx
    have hp : 0 < D.length := List.length_pos_of_mem hx
    simp only [List.length_cons]
    omega
theorem dup_less {α : Type} [DecidableEq α] : ∀ (D : List α), ¬ D.Nodup → ∃ D' : List α, (∀ x ∈ D, x ∈ D') ∧ D'.length < D.length
  | [], h => absurd List.nodup_nil h
  | x :: D, h => by
    by_cases hx : x ∈ D
    · exact ⟨D, fun y hy => (List.mem_cons.mp hy).elim (fun e => by rw [e]; exact hx) id, Nat.lt_succ_self _⟩
    · have hD : ¬ D.Nodup := fun z => h (List.nodup_cons.mpr ⟨hx, z⟩)
      obtain ⟨D', h1, h2⟩ := dup_less D hD
      exact ⟨x :: D', fun y hy => (List.mem_cons.mp hy).elim (fun e => by rw [e]; exact List.mem_cons_self) (fun e => List.mem_cons_of_mem _ (h1 y e)), Nat.succ_lt_succ h2⟩
theorem nd_iff {α : Type} [DecidableEq α] {l D : List α} (hn : l.Nodup) (h : ∀ x, x ∈ l ↔ x ∈ D) : l.length = D.length ↔ D.Nodup := by
  constructor
  · intro e
    apply Classical.byContradiction
    intro hD
    obtain ⟨D', h1, h2⟩ := dup_less D hD
    have := nd_le l D' hn fun x hx => h1 x ((h x).mp hx)
    omega
  · intro hD
    have h1 := nd_le l D hn fun x hx => (h x).mp hx
    have h2 := nd_le D l hD fun x hx => (h x).mpr hx
    omega
section
variable {X : Cx}
/-- len(set(t)), t a tuple of ints -/
def tLenSU (K : PySem.W.Frag) (ta : TE) : TE := fun σ H Q => ta σ H fun x H1 => ∃ (l : Addr) (ns : List Int), x = V.ref l ∧ SqT K H1 l (ns.map V.int) ∧ ns.length < 64 ∧ ∀ n : Nat, (n = ns.length ↔ ns.Nodup) → Q (.int n) H1
theorem pe_lenSU {a : Expr} {ta : TE} {p p2 q pos : Pos} (hc : X.calm = true) (hg : Gl X "len") (hm : X.mg "len" = none) (hg2 : Gl X "set") (hm2 : X.mg "set" = none) (ha : PE X a ta)
    (na : starEach [a] X.env = (false, eval a X.env) :: starEach [] X.env := by rfl) : PE X (.Call (.Name "len" p) [.Call (.Name "set" p2) [a] [] q] [] pos) (tLenSU X.K ta) := by
  refine ⟨fun pins s σ H Q I h => ?_⟩
  refine Call_ (ld_blt I hg hm PySem.boot_len ?_)
  refine PyProof.Rows.callWith_builtin1 (PyProof.Rows.args_cons ?_ rfl) rfl rfl
  refine Call_ (ld_blt I hg2 hm2 PyProof.Rows.boot_set ?_)
  refine PyProof.Rows.callWith_type1 (PyProof.Rows.args_cons (thn (ha.run pins s σ H _ I h) fun v s1 hh => PyProof.Rows.args_nil ?_) na) na rfl
  obtain ⟨x, H1, I1, r1, l, ns, rfl, hq, hlt, q1⟩ := hh
  cases r1
  obtain ⟨its, r, pl, hz⟩ := I1.tuple hq
  refine call_set_tupI (w := X.w) ns (I1.ok.hd hc) pl (by simpa using r.ints) (by unfold scanBound; omega) fun h' tk c hS hc2 hk => ?_
  refine PyProof.Rows.args_nil ?_
  obtain ⟨o, es, ep, t, ho, hex, hd, _, hnd, hiff, _, hf, hn, _⟩ := hS
  have I2 : Inv X pins σ H1 { s1 with heap := h', toks := tk } := I1.kept fun b o e => hk b o e
  refine call_len_set ho hex hd hf (by rw [hn] <;> omega) ⟨.int es.size, H1, I2.tok _, ⟨_, rfl⟩, q1 es.size ?_⟩
  have hl : (es.toList.map keyOf).length = es.size := by simp
  rw [← hl]
  exact nd_iff hnd fun k => by
    have := hiff k
    simp only [decide_eq_true_eq] at this
    exact this.symm
end
/-- the set that set() lays -/
abbrev sO (w : World) : Obj := { cls := .type "set", dict := none, data := .set #[] 0 (.fresh 0 0 (!w.params.followText "set-order")) }
section
variable {P : Program} {w : World} {A : Around} {E : Value → Shared → Prop} {s : Shared}
/-- set(t), t a tuple of tuples of ints -/
theorem set_of_tup2 {l : Addr} {its : Array Value} (ks : List (Addr × List Int)) {Q : Value → Shared → Prop} (nh : A.handled = none) (tl : s.heap.IsTuple l its) (eq : its.toList = ks.map fun p => Value.ref p.1)
    (ki : ∀ p ∈ ks, IsT P w s.heap p.2 p.1) (few : ks.length < 64) (un : A.units + 3 < cLine)
    (fin : ∀ (h' : Heap) (tk : Nat) L es ep t, SetTR P w h' s.heap.objs.size L es ep t → Got ks ks.length L → (∀ b o, s.heap.get? b = some o → h'.get? b = some o) → Q (.ref s.heap.objs.size) { s with heap := h', toks := tk }) :
    wpAny (model P w) A (call (.type "set") [.ref l]) Q E s := by
  have size : its.size = ks.length := by have q := congrArg List.length eq; simpa using q
  obtain ⟨c, rest, mro⟩ := F.called_set.mro
  have made := F.called_set.made; have sub := F.called_set.sub
  refine wpAny_call (codeAny_of_tree (show wpAny _ _ (callAny (.type "set") _) _ _ _ from ?_))
  refine wpAny_pure ⟨Code.quiet_builtin _ (by decide +kernel), codeAny_builtin F.entry_type_call (by
    rw [Around.under_plain (weight_type_call_type "set" [.ref l] []) rfl]
    have nt := F.called_set.notType; have cc := F.called_set.canCreate; have tc := F.typeCall_set_1 (.ref l)
    repeat (any_goals (first | assumption | wp_step))
    refine codeAny_mono (code_set_led1 (.ref l) (E := E) (Q₁ := fun ob s1 => ob = .ref s.heap.objs.size ∧ s1 = { s with heap := s.heap.push (sO w) }) ⟨rfl, rfl⟩) fun r s1 hr => ?_
    cases r with
    | error e => exact hr
    | ok fl =>
      cases fl with
      | ret ob =>
        obtain ⟨rfl, rfl⟩ := hr
        have hS : (s.heap.push (sO w)).get? s.heap.objs.size = some (sO w) := Heap.get?_push_size _ rfl
        have hT : Shared.TypeIs { s with heap := s.heap.push (sO w) } (.ref s.heap.objs.size) "set" := ⟨_, hS, rfl⟩
        have li := F.called_set.init.lookup; have bi := F.called_set.init.bind (.ref s.heap.objs.size)
        repeat (any_goals (first | assumption | wp_step))
        refine codeAny_mono (codeAny_call_builtin (R := wants (fun r s2 => r = .none ∧ ∃ h' tk L es ep t, s2 = { s with heap := h', toks := tk } ∧ SetTR P w h' s.heap.objs.size L es ep t ∧ Got ks ks.length L ∧ (∀ b o, s.heap.get? b = some o → h'.get? b = some o)) E)
          F.called_set.init.plain F.entry_set_init (check_set_init_1 hT ?_)) fun r2 s2 hr2 => ?_
        · obtain ⟨⟨oc, od, dt, sl⟩, ol, cl, n, dl⟩ := tl
          simp only at cl dl; subst cl; subst dl
          have ol1 : (s.heap.push (sO w)).get? l = some { cls := .type "tuple", dict := od, data := .seq its n, slots := sl } := Heap.get?_push_of_some _ ol
          have b1 := F.sub_tuple_set; have b2 := F.sub_tuple_frozenset
          have b3 : (Value.type "tuple" == Value.type "dict") = false := by decide
          have tl1 : (s.heap.push (sO w)).IsTuple l its := ⟨_, ol1, rfl, n, rfl⟩
          unfold Builtin.«set.__init__» noKeywords Builtin.Frozenset.updateFrom
          generalize hPI : pyIter = PI
          wp_walk
          subst hPI
          refine wpAny_pyIter_tuple tl1 (wpAny_bind (wpAny_runValue ?_))
          have lt : l < s.heap.objs.size := Heap.lt_size ol
          have nh3 : A.in1.in1.in1.handled = none := by simp [nh]
          have ne1 : l ≠ (s.heap.push (sO w)).objs.size := by rw [Heap.size_push]; exact Nat.ne_of_lt (Nat.lt_succ_of_lt lt)
          have nin : s.heap.objs.size ∉ [(s.heap.push (sO w)).objs.size, l] := by
            rw [Heap.size_push]
            intro z
            rcases List.mem_cons.mp z with z | z
            · exact absurd z (Nat.ne_of_lt (Nat.lt_succ_self _))
            · exact absurd (List.mem_singleton.mp z) (Nat.ne_of_gt lt)
          have val : ∀ (i : Nat) (v : Value), its[i]? = some v → ∃ p, ks[i]? = some p ∧ v = .ref p.1 := fun i v hv => by
            have q : its.toList[i]? = some v := (Array.getElem?_toList ..).trans hv
            rw [eq, List.getElem?_map] at q
            cases hq : ks[i]? with
            | none => rw [hq] at q; cases q
            | some p => rw [hq] at q; exact ⟨p, rfl, (Option.some.inj q).symm⟩
          have out : ∀ b, s.heap.objs.size ≤ b → s.heap.get? b = none := fun b hb => by
            cases q : s.heap.get? b with
            | none => rfl
            | some o => exact absurd (Nat.lt_of_lt_of_le (Heap.lt_size q) hb) (Nat.lt_irrefl _)
          refine set_update_tups ((Walks.tuple nh3 _ l ne1 its).toS) s.heap.objs.size nin ks size few val s.heap ki (out _ (Nat.le_refl _)) (fun b hb => out b (by rw [List.mem_singleton.mp hb, Heap.size_push]; exact Nat.le_succ _)) un (its.size - 0) 0 _ (by omega) (Nat.zero_le _)
            ⟨⟨_, Heap.get?_push_size _ rfl, rfl, rfl⟩, (tl1.push _)⟩ (fun b o e => Heap.get?_push_of_some _ (Heap.get?_push_of_some _ e)) ⟨[], #[], 0, _, setTR_fresh (Heap.get?_push_of_some _ hS), Got.zero ks⟩ ?_
          intro s' L es ep t hm hS' g' kp
          obtain ⟨h', g2, d', tk', os'⟩ := s'
          have eg : g2 = s.gens := hm.gens
          have ed : d' = s.drawn := hm.drawn
          have eo : os' = s.os := hm.os
          subst eg; subst ed; subst eo
          show wpAny _ _ _ _ _ _
          refine wpAny_pure (show wpAny _ _ (ret Value.none) _ _ _ from ?_)
          rw [size] at g'
          exact wpAny_pure ⟨rfl, h', tk', L, es, ep, t, rfl, hS', g', kp⟩
        · cases r2 with
          | error e => exact hr2
          | ok fl2 =>
            cases fl2 with
            | ret r =>
              obtain ⟨rfl, h', tk, L, es, ep, t, rfl, hS', g', k'⟩ := hr2
              repeat (any_goals (first | assumption | wp_step))
              exact fin _ _ _ _ _ _ hS' g' k'
            | _ => exact hr2.elim
      | _ => exact hr.elim)⟩
end
section
variable {X : Cx}
/-- len(set(t)), t a tuple of tuples of ints -/
def tLenSUU (K : PySem.W.Frag) (ta : TE) : TE := fun σ H Q => ta σ H fun x H1 => ∃ (l : Addr) (ks : List (Addr × List Int)), x = V.ref l ∧ SqT K H1 l (ks.map fun p => V.ref p.1) ∧ (∀ p ∈ ks, SqT K H1 p.1 (p.2.map V.int)) ∧ ks.length < 64 ∧
  ∀ n : Nat, (n = ks.length ↔ (ks.map (·.2)).Nodup) → Q (.int n) H1
theorem pe_lenSUU {a : Expr} {ta : TE} {p p2 q pos : Pos} (hc : X.calm = true) (hu : X.A.units + 64 < cLine) (hg : Gl X "len") (hm : X.mg "len" = none) (hg2 : Gl X "set") (hm2 : X.mg "set" = none) (ha : PE X a ta)
    (na : starEach [a] X.env = (false, eval a X.env) :: starEach [] X.env := by rfl) : PE X (.Call (.Name "len" p) [.Call (.Name "set" p2) [a] [] q] [] pos) (tLenSUU X.K ta) := by
  refine ⟨fun pins s σ H Q I h => Call_ (ld_blt I hg hm PySem.boot_len (PyProof.Rows.callWith_builtin1 (PyProof.Rows.args_cons (Call_ (ld_blt I hg2 hm2 PyProof.Rows.boot_set ?_)) rfl) rfl rfl))⟩
  refine PyProof.Rows.callWith_type1 (PyProof.Rows.args_cons (thn (ha.run pins s σ H _ I h) fun v s1 hh => PyProof.Rows.args_nil ?_) na) na rfl
  obtain ⟨x, H1, I1, r1, l, ks, rfl, hq, hk, few, q1⟩ := hh
  cases r1
  obtain ⟨its, r, pl, hz⟩ := I1.tuple hq
  refine set_of_tup2 (P := X.prog) (w := X.w) ks (I1.ok.hd hc) pl (by simpa using refs_of_vals r) (fun p hp => I1.isT (hk p hp)) few (by omega) fun h' tk L es ep t R g k => PyProof.Rows.args_nil ?_
  have I2 : Inv X pins σ H1 { s1 with heap := h', toks := tk } := I1.kept fun b o e => k b o e
  have hes : es.size = L.length := R.size (s := { s1 with heap := h', toks := tk })
  have hf := R.fits (s := { s1 with heap := h', toks := tk })
  obtain ⟨o, ho, hex, hd⟩ := R.ob
  refine call_len_set (s := { s1 with heap := h', toks := tk }) ho hex hd hf (by have := R.few; omega) ⟨.int es.size, H1, I2.tok _, ⟨_, rfl⟩, q1 es.size ?_⟩
  have e1 : (L.map (·.2)).length = es.size := by simp [hes]
  have e2 : (ks.map (·.2)).length = ks.length := by simp
  rw [← e1, ← e2]
  refine nd_iff R.nd fun k => ⟨fun z => ?_, fun z => ?_⟩
  · obtain ⟨p, hp, rfl⟩ := List.mem_map.mp z
    exact List.mem_map.mpr ⟨p, List.mem_of_mem_take (g.sub p hp), rfl⟩
  · obtain ⟨p, hp, rfl⟩ := List.mem_map.mp z
    exact g.all p (by rw [List.take_length]; exact hp)
end
end Wk

set_option Elab.async false
set_option linter.all false
set_option maxRecDepth 100000
set_option maxHeartbeats 4000000
namespace Wk
open PySem PySem.Spec PyProof.Rows L2 Evl
/-- the walk of a tuple's iterator under an enumerate -/
abbrev itO (l : Addr) : Obj := { cls := .type "tuple_iterator", data := .fields #[.ref l, .int 0 0] }
abbrev enO (it : Addr) : Obj := { cls := .type "enumerate", data := .fields #[.none, .bool false, .ref it, rawInt 0, .none, .none] }
theorem enumNewT (l : Addr) (its : Array Value) (n : Nat) (od : Option Addr) (sl : Array (Option Value)) :
    Meets (Builtin.«enumerate.__new__» ⟨[.type "enumerate", .ref l], []⟩) (fun _ R s => s.heap.get? l = some { cls := .type "tuple", dict := od, data := .seq its n, slots := sl } ∧
      R (.ok (.ret (.ref (s.heap.push (itO l)).objs.size))) { s with heap := (s.heap.push (itO l)).push (enO s.heap.objs.size) }) :=
  .of_wp fun prog w A R s h => by
    obtain ⟨hp, g, d, tk, os⟩ := s; obtain ⟨hl, h⟩ := h
    have su := sub_enumerate
    have tl : Heap.IsTuple (Shared.heap ⟨hp, g, d, tk, os⟩) l its := ⟨_, hl, rfl, n, rfl⟩
    wp_walk using wpAny_loadPart' hl
    refine wpAny_stack_any fun st => wpAny_pure ?_
    split
    · rename_i c _ _ _ _ _
      cases (c == Value.type "enumerate") <;> (wp_walk using wpAny_loadPart' hl, wpAny_pyIter_tuple tl; exact ⟨_, rfl, h⟩)
    · wp_walk using wpAny_loadPart' hl, wpAny_pyIter_tuple tl
      exact ⟨_, rfl, h⟩
section
variable {prog : Program} {w : World} {A : Around} {E : Value → Shared → Prop} {s : Shared}
theorem enumT_call {l : Addr} {its : Array Value} {Q : Value → Shared → Prop} (tl : s.heap.IsTuple l its)
    (h : ∀ h', IsEnum h' (s.heap.objs.size + 1) s.heap.objs.size 0 .none → h'.IsTupleIter s.heap.objs.size l 0 → h'.objs.size = s.heap.objs.size + 2 → (∀ b o, s.heap.get? b = some o → h'.get? b = some o) → Q (.ref (s.heap.objs.size + 1)) { s with heap := h' }) :
    wpAny (model prog w) A (call (.type "enumerate") [.ref l]) Q E s := by
  obtain ⟨⟨c, od, dt, sl⟩, hl, hc, n, hd⟩ := tl
  replace hc : c = .type "tuple" := hc
  replace hd : dt = .seq its n := hd
  subst hc hd
  refine callType_new F.called_enumerate (by decide) (F.typeCall_enumerate_1 _) (F.newCall_enumerate_1 _) (fun ob => F.args_object_init_2 ob _) F.entry_enumerate_new (enumNewT l its n od sl) ⟨hl, ?_⟩
  have hz : (s.heap.push (itO l)).objs.size = s.heap.objs.size + 1 := Heap.size_push ..
  show _ ∧ _
  rw [hz]
  have he : IsEnum ((s.heap.push (itO l)).push (enO s.heap.objs.size)) (s.heap.objs.size + 1) s.heap.objs.size 0 .none := by
    have q := Heap.get?_push_size (s.heap.push (itO l)) (o := enO s.heap.objs.size) rfl
    rw [hz] at q; exact q
  exact ⟨⟨_, he, rfl⟩, h _ he ⟨_, Heap.get?_push_of_some _ (Heap.get?_push_size _ rfl), rfl, rfl⟩ (by rw [Heap.size_push, hz]) fun b o x => Heap.get?_push_of_some _ (Heap.get?_push_of_some _ x)⟩
end
/-- the tuple at a, each item in a new pair with its place -/
def IteT (K : PySem.W.Frag) (a : Addr) : It :=
  ⟨fun i H => ∃ (xs : List V) (x : V), SqT K H a xs ∧ xs[i]? = some x, fun i H v H' => ∃ T x, v = .ref T ∧ H T = none ∧ H' = upd H T (.tup [.int (i : Nat), x]) ∧ ∀ xs, SqT K H a xs → xs[i]? = some x, fun i H => ∃ xs : List V, SqT K H a xs ∧ xs.length = i⟩
theorem turn_enumT {P : Program} {w : World} {K : PySem.W.Frag} {elts : List Expr} {kk : Nat} {tpos : Pos} (a e it : Addr) :
    Turn P w K (.Tuple elts kk tpos) (IteT K a) [e, it] e (fun i h => (∃ old, IsEnum h e it ((i : Nat) : Int) old) ∧ h.IsTupleIter it a i ∧ e ≠ it) where
  mem := List.mem_cons_self
  obj := fun i h st b hb => by
    obtain ⟨⟨old, he⟩, ⟨o, ho, hc, hd⟩, _⟩ := st
    rcases List.mem_cons.mp hb with z | z
    · rw [z]; exact ⟨_, he, fun v q => nomatch q⟩
    · rw [List.mem_singleton.mp z]; exact ⟨o, ho, fun v q => by rw [hd] at q; cases q⟩
  keep := fun i h h' st k => by
    obtain ⟨⟨old, he⟩, ⟨o, ho, r⟩, hne⟩ := st
    exact ⟨⟨old, k e (by simp) _ he⟩, ⟨o, k it (by simp) o ho, r⟩, hne⟩
  item := by
    intro X hP hw hK hc i pins s σ H E I hf st hg
    subst hP hw hK
    obtain ⟨⟨old, he⟩, hit, hne⟩ := st
    obtain ⟨xs, x, hq, hx⟩ := hg
    obtain ⟨its, rv, p, hz⟩ := I.tuple hq
    obtain ⟨u, hu, ru⟩ := rv.get hx
    have el : e < s.heap.objs.size := Heap.lt_size he
    have il : it < s.heap.objs.size := by obtain ⟨_, q, _⟩ := hit; exact Heap.lt_size q
    have nai : a ≠ it := fun z => by
      obtain ⟨o, ho, oc, _⟩ := p
      obtain ⟨o2, ho2, oc2, _⟩ := hit
      rw [z, ho2] at ho
      cases ho
      rw [oc2] at oc
      injection oc with q
      exact absurd q (by decide)
    have nae : e ≠ a := fun z => by
      obtain ⟨o, ho, oc, _⟩ := p
      have he2 := he
      unfold IsEnum at he2
      rw [z, ho] at he2
      cases he2
      injection oc with q
      exact absurd q (by decide)
    have hi : i < its.toArray.size := by
      have q := (List.getElem?_eq_some_iff.mp hu).1
      simpa using q
    refine wpAny_pyNext_enum_itemD (Draws.tuple (by simpa using I.ok.hd hc) it a nai its.toArray) he ⟨hit, p⟩ hi hne (by simp [hne, nae]) fun y h' tk hy ho hst hT hsz hk => ?_
    have ey : y = u := by
      have q : its.toArray[i]? = some y := hy
      rw [List.getElem?_toArray, hu] at q
      exact (Option.some.inj q).symm
    subst ey
    refine ⟨_, rfl, wpAny_letOwnedTupleGo_enum (s := { s with heap := h', toks := tk + 1 }) ho fun h2 he' sb => ?_⟩
    have hT2 : h2.get? s.heap.objs.size = some { cls := .type "tuple", data := .seq #[.int i tk, y] } := (sb.2 _ (Nat.ne_of_gt el)).trans hT
    have nw : ObjOk X.prog X.w (upd H s.heap.objs.size (.tup [.int (i : Nat), x])) h2 s.heap.objs.size (.tup [.int (i : Nat), x]) := ⟨by show 2 ≤ sizeLine; decide, [.int i tk, y], .cons ⟨_, rfl⟩ (.cons ru .nil), ⟨_, hT2, rfl, _, rfl⟩⟩
    have I1 : Inv X pins σ (upd H s.heap.objs.size (.tup [.int (i : Nat), x])) { s with heap := h2, toks := tk + 1 } := I.turnedNew (ch := [e, it]) (fun b ob hb q => by
        have b1 : b ≠ e := fun z => hb (by simp [z])
        have b2 : b ≠ it := fun z => hb (by simp [z])
        exact (sb.2 b b1).trans (hk b ob b1 b2 q)) hf (Nat.le_refl _) nw
    refine ⟨.ref s.heap.objs.size, _, I1, rfl, ⟨_, x, rfl, I.hok.fresh (Nat.le_refl _), rfl, fun ys hy => by rw [I.tuple_inj hy hq]; exact hx⟩, ⟨⟨y, ?_⟩, ?_, hne⟩, fun b hb => ?_⟩
    · rw [show ((i + 1 : Nat) : Int) = (i : Int) + 1 by omega]; exact he'
    · obtain ⟨o, ho2, r2⟩ := hst.1
      exact ⟨o, (sb.2 it (Ne.symm hne)).trans ho2, r2⟩
    · have hb2 : b < s.heap.objs.size := by
        rcases List.mem_cons.mp hb with z | z
        · rw [z]; exact el
        · rw [List.mem_singleton.mp z]; exact il
      rw [upd_ne (Nat.ne_of_lt hb2)]
      exact (hf b hb).1
  done := by
    intro X hP hw hK hc i pins s σ H E I hf st hg
    subst hP hw hK
    obtain ⟨⟨old, he⟩, hit, hne⟩ := st
    obtain ⟨xs, hq, hx⟩ := hg
    obtain ⟨its, rv, p, hz⟩ := I.tuple hq
    obtain ⟨f0, f1, f2, f3, f4, f5⟩ := hf it (by simp)
    have hl := rv.length
    have ei : i = its.toArray.size := by simp; omega
    have nai : a ≠ it := fun z => by
      obtain ⟨o, ho, oc, _⟩ := p
      obtain ⟨o2, ho2, oc2, _⟩ := hit
      rw [z, ho2] at ho
      cases ho
      rw [oc2] at oc
      injection oc with q
      exact absurd q (by decide)
    subst ei
    exact wpAny_pyNext_enum_endD (Draws.tuple (by simpa using I.ok.hd hc) it a nai its.toArray) he ⟨hit, p⟩ fun h' eb => ⟨rfl, I.turned (t' := s.toks) (fun b o hb q => eb b o hb q) f0 f1 f3 f4 f5⟩
  self := fun A i s Q E st h => let ⟨⟨_, he⟩, _⟩ := st; wpAny_pyIter_enum he h

def iEnumT (K : PySem.W.Frag) (ta : TA) : TI := fun σ H R => ta σ H fun vs H1 => ∃ a xs, vs = [.ref a] ∧ SqT K H1 a xs ∧ R (IteT K a) H1
/-- for i, x in enumerate(t), t a tuple -/
theorem pi_enumT {X : Cx} {e : Expr} {ta : TA} {p pos tpos : Pos} {elts : List Expr} {kk : Nat} (hg : Gl X "enumerate") (hm : X.mg "enumerate" = none) (ha : PA X [e] ta) (hs : starEach [e] X.env = [(false, eval e X.env)] := by rfl) :
    PI X (.Tuple elts kk tpos) (.Call (.Name "enumerate" p) [e] [] pos) (iEnumT X.K ta) := by
  refine ⟨fun pins s σ H R I h => Call_ (ld_blt I hg hm boot_enumerate (PyProof.Rows.callWith_type1 (thn (ha.run pos pins s σ H _ I h) fun us s1 hh => ?_) hs rfl))⟩
  obtain ⟨vs, H1, I1, r1, a, xs, rfl, hq, q⟩ := hh
  cases r1 with
  | cons r rr =>
    cases rr
    cases r
    obtain ⟨its, rv, pt, hz⟩ := I1.tuple hq
    refine enumT_call pt fun h' he hit hsz hk => wpAny_pyIter_enum he ?_
    refine ⟨s1.heap.objs.size + 1, [s1.heap.objs.size + 1, s1.heap.objs.size], _, _, H1, rfl, I1.kept (t' := s1.toks) hk, turn_enumT a (s1.heap.objs.size + 1) s1.heap.objs.size, ⟨⟨.none, he⟩, hit, Nat.succ_ne_self _⟩, fun b hb => ?_, q⟩
    have hle : s1.heap.objs.size ≤ b := by
      rcases List.mem_cons.mp hb with z | z
      · rw [z]; exact Nat.le_add_right _ _
      · rw [List.mem_singleton.mp z]; exact Nat.le_refl _
    exact I1.fpOk hle (I1.hok.fresh hle)
theorem walk_enumT {K : PySem.W.Frag} {a : Addr} {xs : List V} : Walk (IteT K a) xs.length (fun H => SqT K H a xs) (YPair (fun i => some (.int (i : Nat))) (fun i => xs[i]?)) := by
  refine ⟨fun i _ hi q => ⟨xs, xs[i], q, by simp [hi]⟩, fun _ q => ⟨xs, q, rfl⟩, fun i H v H' _ q y => ?_⟩
  obtain ⟨T, x, h1, h2, h3, h4⟩ := y
  exact ⟨T, .int (i : Nat), x, h1, h2, h3, rfl, h4 xs q⟩
section
variable {K : PySem.W.Frag} {σ : L2.St} {H : Hp} {t : TT} {te : TE}
/-- [e for x in t], t a tuple -/
theorem el_lcT {a : Addr} {xs : List V} {tl : TE} {j : Nat} {vs : List Nat} (f : Nat → Bool) (v : Nat → V) (h : Ev tl σ H (.ref a)) (hx : SqT K H a xs) (hz : xs.length ≤ 40000) (hw : ∀ x, wipe ((wipe σ vs).set j (some x)) vs = wipe σ vs)
    (ht : ∀ (i : Nat) (x : V) H1, Ex H H1 → xs[i]? = some x → EvT t ((wipe σ vs).set j (some x)) H1 (f i)) (he : ∀ (i : Nat) (x : V) H1, Ex H H1 → xs[i]? = some x → f i = true → Ev te ((wipe σ vs).set j (some x)) H1 (v i)) :
    EvL (tLc (iTup K tl) (gName j) t te vs) σ H (given xs.length f v) := fun H0 e Q q => h H0 e _ fun H1 e1 => ⟨a, rfl, ⟨xs, ex_t (e.trans e1) hx⟩, fun Dl hD =>
  lc_it (walk_tup (K := K) (a := a) (xs := xs)) (Cw H1 f v Dl) ⟨hD, Ex.new hD, upd_same⟩ (fun i H' _ p => ex_t ((e.trans e1).trans p.2.1) hx)
    (fun i x H' H2 hi p y => by
      obtain ⟨rfl, hxi⟩ := y
      exact ⟨hw x, cw_turn p (by omega) (ht i x H1 (e.trans e1) hxi) (fun hf => he i x H1 (e.trans e1) hxi hf)⟩)
    (fun H' p => q Dl H' (fresh_back e1 p.1) (e1.trans p.2.1) p.2.2)⟩
theorem given_all (n : Nat) (v : Nat → V) : given n (fun _ => true) v = (List.range n).map v := by
  unfold given
  rw [List.filter_eq_self.mpr (fun _ _ => rfl)]
theorem et_yes : EvT tYes σ H true := fun H1 _ _ q => q H1 (Ex.refl H1)
/-- all([..]) of flags -/
theorem ev_allL {bs : List Bool} {ta : TE} (h : EvL ta σ H (bs.map V.bl)) : Ev (tCB (rAll K) (tCons ta tNil)) σ H (.bl (bs.all id)) := fun H1 e Q q =>
  h H1 e _ fun p H2 _ e2 hp => ⟨p, bs, rfl, sq_of hp, q H2 e2⟩
/-- all([test(x) for x in t]) -/
theorem ev_allT {a : Addr} {xs : List V} {tl : TE} {j : Nat} {vs : List Nat} (g : Nat → Bool) (h : Ev tl σ H (.ref a)) (hx : SqT K H a xs) (hz : xs.length ≤ 40000) (hw : ∀ x, wipe ((wipe σ vs).set j (some x)) vs = wipe σ vs)
    (he : ∀ (i : Nat) (x : V) H1, Ex H H1 → xs[i]? = some x → Ev te ((wipe σ vs).set j (some x)) H1 (.bl (g i))) :
    Ev (tCB (rAll K) (tCons (tLc (iTup K tl) (gName j) tYes te vs) tNil)) σ H (.bl (((List.range xs.length).map g).all id)) :=
  ev_allL (by
    have q := el_lcT (K := K) (te := te) (fun _ => true) (fun i => .bl (g i)) h hx hz hw (fun _ _ _ _ _ => et_yes) fun i x H1 e hxi _ => he i x H1 e hxi
    rw [given_all] at q
    rw [List.map_map]
    exact q)
end
section
variable {K : PySem.W.Frag} {σ : L2.St} {H : Hp} {ta tb te : TE}
theorem ev_lenT {p : Addr} {xs : List V} (ha : Ev ta σ H (.ref p)) (h : SqT K H p xs) : Ev (tCB (rLenS K) (tCons ta tNil)) σ H (.int (xs.length : Int)) := fun H1 e Q q =>
  ha H1 e _ fun H2 e2 => ⟨p, xs, rfl, Or.inr (ex_t (e.trans e2) h), q H2 e2⟩
theorem all_get {α : Type} (ds : List α) (p : α → Bool) : ((List.range ds.length).map (fun i => ((ds[i]?).map p).getD false)).all id = ds.all p := by
  have e : (List.range ds.length).map (fun i => ((ds[i]?).map p).getD false) = ds.map p := by
    apply List.ext_getElem
    · simp
    · intro i h1 h2
      have hi : i < ds.length := by simpa using h1
      simp [hi]
  rw [e, List.all_map]
  rfl
end
section
variable {K : PySem.W.Frag} {σ : L2.St} {H : Hp} {g : TG} {tu tz : TS} {D : Ends}
/-- for i, x in enumerate(t) -/
theorem s_forEn {a : Addr} {xs : List V} {tl : TE} (h : Ev tl σ H (.ref a)) (hx : SqT K H a xs) (Pv : Nat → L2.St → Hp → Prop) (h0 : ∀ H1, Ex H H1 → Pv 0 σ H1) (hl : ∀ i σ' H', i ≤ xs.length → Pv i σ' H' → SqT K H' a xs)
    (hs : ∀ i y T σ' H', xs[i]? = some y → Pv i σ' H' → H' T = none → g (.ref T) σ' (upd H' T (.tup [.int (i : Nat), y])) fun σ2 H2 => tu { D with nx := Pv (i + 1), ct := Pv (i + 1), bk := D.nx } σ2 H2) (hd : ∀ σ' H', Pv xs.length σ' H' → D.nx σ' H') : tFor (iEnumT K (tCons tl tNil)) g tu D σ H :=
  h H (Ex.refl H) _ fun H1 e => ⟨a, xs, rfl, ex_t e hx, for_it (walk_enumT (K := K) (a := a) (xs := xs)) Pv (h0 H1 e) hl (fun i x σ' H2 H3 hi p y => by
    obtain ⟨T, u, y, rfl, hT, rfl, hu, hy⟩ := y
    cases hu
    exact hs i y T σ' H2 hy p hT) hd⟩
theorem q_forEn {a : Addr} {xs : List V} {tl : TE} (h : Ev tl σ H (.ref a)) (hx : SqT K H a xs) (Pv : Nat → L2.St → Hp → Prop) (h0 : ∀ H1, Ex H H1 → Pv 0 σ H1) (hl : ∀ i σ' H', i ≤ xs.length → Pv i σ' H' → SqT K H' a xs)
    (hs : ∀ i y T σ' H', xs[i]? = some y → Pv i σ' H' → H' T = none → g (.ref T) σ' (upd H' T (.tup [.int (i : Nat), y])) fun σ2 H2 => tu { D with nx := Pv (i + 1), ct := Pv (i + 1), bk := tz D } σ2 H2) (hd : ∀ σ' H', Pv xs.length σ' H' → tz D σ' H') : tSeq (tFor (iEnumT K (tCons tl tNil)) g tu) tz D σ H :=
  s_forEn (D := { D with nx := tz D }) h hx Pv h0 hl hs hd
end
end Wk

set_option Elab.async false
set_option linter.all false
set_option maxRecDepth 100000
set_option maxHeartbeats 2000000
namespace Wk
open PySem PySem.Spec PyProof.Rows L2 Evl
def top (i : Nat) : Stmt := PySem.Challenge.pw_wishreels_k22_steps_to_an_outcome.main.body.getD i (.Pass ⟨0, 0, 0, 0⟩)
abbrev FnP (K : PySem.W.Frag) (x : Str) (st : Stmt) (f : Addr) (fd : FuncData) : Prop := FunD K x x (defArgs st) (defBody st) (defScope st) [] [] f fd
/-- names that are the built-in ones -/
structure Bl (mg : Str → Option Value) : Prop where
  isi : mg "isinstance" = none
  len : mg "len" = none
  tuple : mg "tuple" = none
  list : mg "list" = none
  int : mg "int" = none
  bool : mg "bool" = none
  str : mg "str" = none
  all : mg "all" = none
  set : mg "set" = none
  enum : mg "enumerate" = none
  range : mg "range" = none
  abs : mg "abs" = none
  min : mg "min" = none
  repr : mg "repr" = none
/-- a pure promise: a plain value, what stood stays -/
def spP (R : Hp → List V → V → Prop) : Sp := fun vs H Q _ => ∃ z, R H vs z ∧ ∀ H', Ex H H' → Q z H'
theorem spP_v {R : Hp → List V → V → Prop} {vs : List V} {H : Hp} {z : V} (h : ∀ H1, Ex H H1 → R H1 vs z) : SpV (spP R) vs H z := fun H1 e Q q E => ⟨z, h H1 e, fun H2 e2 => q H2 e2⟩
def isI : PyData → Bool
  | .int _ => true
  | _ => false
/-- what a datum is worth as an int -/
def valI : PyData → Int
  | .int i => i
  | _ => 0
theorem isI_eq {d : PyData} (h : isI d = true) : d = .int (valI d) := by
  cases d <;> first | rfl | (simp [isI] at h)
theorem kit_int (d : PyData) : ∃ b, kitB (tyN d) "int" = some b ∧ (b = true → ∃ c, kitB (tyN d) "bool" = some c ∧ (b && !c) = isI d) ∧ (b = false → isI d = false) := by
  cases d with
  | none => exact ⟨false, show kitB "NoneType" "int" = some false by decide +kernel, fun h => (by cases h), fun _ => rfl⟩
  | bool b => exact ⟨true, show kitB "bool" "int" = some true by decide +kernel, fun _ => ⟨true, show kitB "bool" "bool" = some true by decide +kernel, rfl⟩, fun h => (by cases h)⟩
  | int i => exact ⟨true, show kitB "int" "int" = some true by decide +kernel, fun _ => ⟨false, show kitB "int" "bool" = some false by decide +kernel, rfl⟩, fun h => (by cases h)⟩
  | str z => exact ⟨false, show kitB "str" "int" = some false by decide +kernel, fun h => (by cases h), fun _ => rfl⟩
  | list ds => exact ⟨false, show kitB "list" "int" = some false by decide +kernel, fun h => (by cases h), fun _ => rfl⟩
  | tuple ds => exact ⟨false, show kitB "tuple" "int" = some false by decide +kernel, fun h => (by cases h), fun _ => rfl⟩
  | dict ds => exact ⟨false, show kitB "dict" "int" = some false by decide +kernel, fun h => (by cases h), fun _ => rfl⟩
def isTu : PyData → Bool
  | .tuple _ => true
  | _ => false
def itemsT : PyData → List PyData
  | .tuple ds => ds
  | _ => []
theorem kit_tup (d : PyData) : kitB (tyN d) "tuple" = some (isTu d) := by
  cases d with
  | none => exact show kitB "NoneType" "tuple" = some false by decide +kernel
  | bool b => exact show kitB "bool" "tuple" = some false by decide +kernel
  | int i => exact show kitB "int" "tuple" = some false by decide +kernel
  | str z => exact show kitB "str" "tuple" = some false by decide +kernel
  | list ds => exact show kitB "list" "tuple" = some false by decide +kernel
  | tuple ds => exact show kitB "tuple" "tuple" = some true by decide +kernel
  | dict ds => exact show kitB "dict" "tuple" = some false by decide +kernel
def isR (n : Int) (d : PyData) : Bool := isI d && (decide (0 ≤ valI d) && decide (valI d ≤ n - 1))
/-- a way of router r through routers below n -/
def wayB (n r : Int) (d : PyData) : Bool := isTu d && (decide (2 ≤ (itemsT d).length) && decide ((itemsT d).length ≤ 8)) && ((itemsT d).all (isR n) && (decide (((itemsT d).map valI)[0]? = some r) && (decide (((itemsT d).map valI).getLast? = some 0) && decide ((itemsT d).map valI).Nodup)))
section
variable {P : Program} {w : World} {K : PySem.W.Frag} {mg : Str → Option Value} {base : Heap} {f : Addr} {fd : FuncData}
/-! is_integer, _law_is_int -/
abbrev spIsInt : Sp := spP fun H vs z => ∃ v d, vs = [v] ∧ Dq H v d ∧ z = .bl (isI d)
abbrev sIsInt : Stmt := top 8
theorem scIsInt : FnScope ["thing"] ["thing"] (defScope sIsInt) := ⟨rfl, rfl, rfl, by decide +kernel, rfl, by decide +kernel, by decide +kernel⟩
theorem ok_isInt (B : Bl mg) (F : FnP K "is_integer" sIsInt f fd) : FnOk P w K mg base CX0 1 f fd ["thing"] spIsInt := by
  refine F.ok scIsInt (fun vs H Q E h => ?_) (fun cdv A outer s H vs Q E hr h => ?_)
  · obtain ⟨z, ⟨v, d, rfl, _⟩, _⟩ := h
    rfl
  · obtain ⟨z, ⟨v, d, rfl, hd, rfl⟩, k⟩ := h
    refine ⟨_, pss_one (ps_ret (pe_and (pe_callB call_isi (by rfl) B.isi boot_isinstance (pa_cons (pv 0) (pa_cons (pe_bltn (v := .ty "int") (by rfl) B.int PyProof.Rows.boot_int rfl) pa_nil)))
      (pe_one (pe_not (pe_callB call_isi (by rfl) B.isi boot_isinstance (pa_cons (pv 0) (pa_cons (pe_bltn (v := .ty "bool") (by rfl) B.bool PyProof.Rows.boot_bool rfl) pa_nil))))))), ?_⟩
    obtain ⟨b, hb, h1, h2⟩ := kit_int d
    have v0 : Ev (tVar 0) (start ["thing"] [v]) H v := ev_var rfl
    cases b with
    | true =>
      obtain ⟨c, hc, e⟩ := h1 rfl
      rw [← e] at k
      exact s_ret (ev_andV (ev_isi v0 hd hb) fun _ => ev_notV (ev_isi v0 hd hc)) k
    | false =>
      rw [h2 rfl] at k
      exact s_ret (ev_andV (b := false) (ev_isi v0 hd hb) fun z => (by cases z)) k

/-! is_between, is_router -/
abbrev spBetween : Sp := spP fun H vs z => ∃ (a b : Int) (v : V) (d : PyData), vs = [.int a, .int b, v] ∧ Dq H v d ∧ z = .bl (isI d && (decide (a ≤ valI d) && decide (valI d ≤ b)))
abbrev sBetween : Stmt := top 9
theorem scBetween : FnScope ["least", "most", "thing"] ["least", "most", "thing"] (defScope sBetween) := ⟨rfl, rfl, rfl, by decide +kernel, rfl, by decide +kernel, by decide +kernel⟩
theorem ok_between (B : Bl mg) (C : Cal P w K mg base "is_integer" ["thing"] 1 spIsInt) (F : FnP K "is_between" sBetween f fd) : FnOk P w K mg base CX0 2 f fd ["least", "most", "thing"] spBetween := by
  refine F.ok scBetween (fun vs H Q E h => ?_) (fun cdv A outer s H vs Q E hr h => ?_)
  · obtain ⟨z, ⟨a, b, v, d, rfl, _⟩, _⟩ := h
    rfl
  · obtain ⟨z, ⟨a, b, v, d, rfl, hd, rfl⟩, k⟩ := h
    refine ⟨_, pss_one (ps_ret (pe_and (pe_cal C hr (by rfl) (pa_cons (pv 2) pa_nil)) (pe_one (pe_chain op_le op_le (pv 0) (pv 2) (pv 1))))), ?_⟩
    have v0 : Ev (tVar 0) (start ["least", "most", "thing"] [.int a, .int b, v]) H (.int a) := ev_var rfl
    have v1 : Ev (tVar 1) (start ["least", "most", "thing"] [.int a, .int b, v]) H (.int b) := ev_var rfl
    have v2 : Ev (tVar 2) (start ["least", "most", "thing"] [.int a, .int b, v]) H v := ev_var rfl
    refine s_ret (ev_andV (a := isI d) (ev_call (ea_cons v2 ea_nil) (spP_v fun H1 e => ⟨v, d, rfl, hd.mono e, rfl⟩)) fun hi => ?_) k
    rw [isI_eq hi] at hd
    cases hd
    exact ev_chain v0 v2 v1 rv_I0 rv_I0
abbrev spRouter : Sp := spP fun H vs z => ∃ (n : Int) (v : V) (d : PyData), vs = [.int n, v] ∧ Dq H v d ∧ z = .bl (isR n d)
abbrev sRouter : Stmt := top 12
theorem scRouter : FnScope ["size", "thing"] ["size", "thing"] (defScope sRouter) := ⟨rfl, rfl, rfl, by decide +kernel, rfl, by decide +kernel, by decide +kernel⟩
theorem ok_router (C : Cal P w K mg base "is_between" ["least", "most", "thing"] 2 spBetween) (F : FnP K "is_router" sRouter f fd) : FnOk P w K mg base CX0 3 f fd ["size", "thing"] spRouter := by
  refine F.ok scRouter (fun vs H Q E h => ?_) (fun cdv A outer s H vs Q E hr h => ?_)
  · obtain ⟨z, ⟨n, v, d, rfl, _⟩, _⟩ := h
    rfl
  · obtain ⟨z, ⟨n, v, d, rfl, hd, rfl⟩, k⟩ := h
    refine ⟨_, pss_one (ps_ret (pe_cal C hr (by rfl) (pa_cons pe_int (pa_cons (pe_op op_sub (pv 0) pe_int) (pa_cons (pv 1) pa_nil))))), ?_⟩
    exact s_ret (ev_call (ea_cons ev_c (ea_cons (ev_op (ev_var rfl) ev_c rv_I0) (ea_cons (ev_var rfl) ea_nil))) (spP_v fun H1 e => ⟨0, n - 1, v, d, rfl, hd.mono e, rfl⟩)) k
/-! is_way -/
abbrev spWay : Sp := spP fun H vs z => ∃ (n r : Int) (v : V) (d : PyData), vs = [.int n, .int r, v] ∧ Dq H v d ∧ z = .bl (wayB n r d)
abbrev sWay : Stmt := top 15
theorem scWay : FnScope ["size", "router", "thing", "item"] ["size", "router", "thing"] (defScope sWay) := ⟨rfl, rfl, rfl, by decide +kernel, rfl, by decide +kernel, by decide +kernel⟩
end
end Wk

set_option Elab.async false
set_option linter.all false
set_option maxRecDepth 100000
set_option maxHeartbeats 2000000
namespace Wk
open PySem PySem.Spec PyProof.Rows L2 Evl
theorem ints_of {n : Int} : ∀ {ds : List PyData}, ds.all (isR n) = true → ds = (ds.map valI).map PyData.int
  | [], _ => rfl
  | d :: ds, h => by
    have h' : isR n d = true ∧ ds.all (isR n) = true := by simpa using h
    have h1 : isI d = true := (Bool.and_eq_true_iff.mp h'.1).1
    show d :: ds = .int (valI d) :: (ds.map valI).map PyData.int
    rw [← ints_of h'.2, ← isI_eq h1]
section
variable {K : PySem.W.Frag} {σ : L2.St} {H : Hp} {ta tb te : TE}
theorem ev_lenSU {l : Addr} {ns : List Int} (ha : Ev ta σ H (.ref l)) (h : SqT K H l (ns.map V.int)) (hl : ns.length < 64) (hb : Ev tb σ H (.int (ns.length : Int))) :
    Ev (tOp rEq (tLenSU K ta) tb) σ H (.bl (decide ns.Nodup)) := fun H1 e Q q =>
  ha H1 e _ fun H2 e2 => ⟨l, ns, rfl, ex_t (e.trans e2) h, hl, fun m hm => hb H2 (e.trans e2) _ fun H3 e3 => ⟨rfl, by
    have ed : decide (V.int (m : Int) = V.int (ns.length : Int)) = decide ns.Nodup := by
      rw [decide_eq_decide]
      constructor
      · intro z
        injection z with z
        exact hm.mp (by omega)
      · intro z
        rw [hm.mpr z]
    rw [ed]
    exact q H3 (e2.trans e3)⟩⟩
theorem ev_lenSUU {l : Addr} {ks : List (Addr × List Int)} (ha : Ev ta σ H (.ref l)) (h : SqT K H l (ks.map fun p => V.ref p.1)) (hk : ∀ p ∈ ks, SqT K H p.1 (p.2.map V.int)) (hl : ks.length < 64) (hb : Ev tb σ H (.int (ks.length : Int))) :
    Ev (tOp rEq (tLenSUU K ta) tb) σ H (.bl (decide (ks.map (·.2)).Nodup)) := fun H1 e Q q =>
  ha H1 e _ fun H2 e2 => ⟨l, ks, rfl, ex_t (e.trans e2) h, fun p hp => ex_t (e.trans e2) (hk p hp), hl, fun m hm => hb H2 (e.trans e2) _ fun H3 e3 => ⟨rfl, by
    have ed : decide (V.int (m : Int) = V.int (ks.length : Int)) = decide (ks.map (·.2)).Nodup := by
      rw [decide_eq_decide]
      constructor
      · intro z
        injection z with z
        exact hm.mp (by omega)
      · intro z
        rw [hm.mpr z]
    rw [ed]
    exact q H3 (e2.trans e3)⟩⟩
end
theorem getLast_atI {α : Type} {xs : List α} {x : α} (h : xs.getLast? = some x) : atI xs (-1) = some x := by
  obtain ⟨ys, rfl⟩ : ∃ ys, xs = ys ++ [x] := by
    cases xs with
    | nil => cases h
    | cons y l =>
      refine ⟨(y :: l).dropLast, ?_⟩
      have := List.dropLast_concat_getLast (l := y :: l) (by simp)
      rw [List.getLast?_eq_some_getLast (by simp)] at h
      cases h
      exact this.symm
  exact atI_last ys x
section
variable {P : Program} {w : World} {K : PySem.W.Frag} {mg : Str → Option Value} {base : Heap} {f : Addr} {fd : FuncData}
theorem ok_way (B : Bl mg) {t8 : Tok} (m8 : mg "MOST_ROUTERS" = some (.int 8 t8)) (C : Cal P w K mg base "is_router" ["size", "thing"] 3 spRouter) (F : FnP K "is_way" sWay f fd) : FnOk P w K mg base CX0 5 f fd ["size", "router", "thing"] spWay := by
  refine F.ok scWay (fun vs H Q E h => ?_) (fun cdv A outer s H vs Q E hr h => ?_)
  · obtain ⟨z, ⟨n, r, v, d, rfl, _⟩, _⟩ := h
    rfl
  · obtain ⟨z, ⟨n, r, v, d, rfl, hd, rfl⟩, k⟩ := h
    refine ⟨_, pss_cons (ps_if (PW.pt (pw_or (pt_not (pt_val (pe_callB call_isi (by rfl) B.isi boot_isinstance (pa_cons (pv 2) (pa_cons (pe_bltn (v := .ty "tuple") (by rfl) B.tuple PyProof.Rows.boot_tuple rfl) pa_nil)))))
        (pw_or1 (pt_not (pt_chain op_le op_le pe_int (pe_callB call_len_seq (by rfl) B.len PySem.boot_len (pa_cons (pv 2) pa_nil)) (pe_glob (v := .int 8) (by rfl) m8 ⟨_, rfl⟩)))))) (pss_one (ps_ret pe_bl)) pss_nil)
      (pss_cons (ps_if (pt_not (pt_val (pe_callB (cr_all rfl) (by rfl) B.all boot_all (pa_cons (pe_lc (own := [("item", 3)]) (g := gName 3) (tt := tYes) rfl scWay.nd (pi_tup (pv 2)) (blkOk_by (N := ["size", "router", "thing", "item"]) (sc := defScope sWay) (by decide +kernel))
          (fun _ _ _ _ _ => pg_name (i := 3) scWay.nd rfl (Or.inl rfl)) (fun _ _ _ _ _ => pts_nil) (fun _ _ _ _ _ => pe_cal C hr (by rfl) (pa_cons (pv 0) (pa_cons (pv 3) pa_nil)))) pa_nil)))) (pss_one (ps_ret pe_bl)) pss_nil)
      (pss_one (ps_ret (pe_and (pe_cmpR op_eq (pe_ix ix_tup (pv 2) pe_int (fun _ _ => rfl)) (pv 1) (nomark _)) (pe_and (pe_cmpR op_eq (pe_ix ix_tup (pv 2) (pe_un un_neg pe_int) (fun _ _ => rfl)) pe_int (nomark _))
        (pe_one (pe_cmpR op_eq (pe_lenSU rfl (by rfl) B.len (by rfl) B.set (pv 2)) (pe_callB call_len_seq (by rfl) B.len PySem.boot_len (pa_cons (pv 2) pa_nil)) (nomark _)))))))), ?_⟩
    have v0 : ∀ {o : Option V} {H1 : Hp}, Ev (tVar 0) [some (.int n), some (.int r), some v, o] H1 (.int n) := ev_var rfl
    have v1 : ∀ {H1 : Hp}, Ev (tVar 1) (start ["size", "router", "thing", "item"] [.int n, .int r, v]) H1 (.int r) := ev_var rfl
    have v2 : ∀ {H1 : Hp}, Ev (tVar 2) (start ["size", "router", "thing", "item"] [.int n, .int r, v]) H1 v := ev_var rfl
    have hlen : ∀ {H1 : Hp}, Ex H H1 → isTu d = true → Ev (tCB (rLenS K) (tCons (tVar 2) tNil)) (start ["size", "router", "thing", "item"] [.int n, .int r, v]) H1 (.int ((itemsT d).length : Int)) := fun {H1} e ht => by
      cases hd <;> first | (simp [isTu] at ht; done) | skip
      rename_i a xs ds h1 h2
      rw [show (itemsT (.tuple ds)).length = xs.length from h2.length.symm]
      exact ev_lenT v2 (st_of (e _ _ h1))
    refine q_when (b := !isTu d || !(decide (2 ≤ ((itemsT d).length : Int)) && decide (((itemsT d).length : Int) ≤ 8))) (et_or (et_not (et_B (ev_isi v2 hd (kit_tup d)))) fun ht => et_not (et_test (ev_chain ev_c (hlen (Ex.refl H) (by simpa using ht)) ev_c rv_I0 rv_I0)))
      (fun hb H1 e => s_ret ev_c fun H2 e2 => ?_) (fun hb H1 e => ?_)
    · have ez : wayB n r d = false := by
        unfold wayB
        cases ht : isTu d
        · simp
        · simp [ht] at hb
          have : (decide (2 ≤ (itemsT d).length) && decide ((itemsT d).length ≤ 8)) = false := by simp; omega
          rw [this]
          simp
      rw [ez] at k
      exact k _ (e.trans e2)
    · have ht : isTu d = true := by simp at hb; exact hb.1
      have hl : 2 ≤ (itemsT d).length ∧ (itemsT d).length ≤ 8 := by simp [ht] at hb; omega
      have hd1 := hd.mono e
      clear hd
      cases hd1 <;> first | (simp [isTu] at ht; done) | skip
      rename_i a xs ds h1 h2
      have hxl := h2.length
      have hl' : 2 ≤ ds.length ∧ ds.length ≤ 8 := hl
      refine q_when (b := !ds.all (isR n)) (et_not (et_B ?_)) (fun hb H2 e2 => s_ret ev_c fun H3 e3 => ?_) (fun hb H2 e2 => ?_)
      · have q := ev_allT (K := K) (H := H1) (j := 3) (vs := [3]) (σ := start ["size", "router", "thing", "item"] [.int n, .int r, .ref a]) (te := tCall spRouter [] E0 (tCons (tVar 0) (tCons (tVar 3) tNil))) (fun i => ((ds[i]?).map (isR n)).getD false) v2 (st_of h1) (by omega) (fun x => rfl)
          (fun i x H2 e2 hx => by
            obtain ⟨dx, e3, e4⟩ := h2.get hx
            rw [e3]
            exact ev_call (ea_cons (ev_var rfl) (ea_cons (ev_var rfl) ea_nil)) (spP_v fun H3 e5 => ⟨n, x, dx, rfl, (e4.mono e2).mono e5, rfl⟩))
        rw [hxl, all_get] at q
        exact q
      · have ez : wayB n r (.tuple ds) = false := by
          have hb' : ds.all (isR n) = false := by simpa using hb
          unfold wayB
          show (true && _ && (ds.all (isR n) && _)) = false
          rw [hb']
          simp
        rw [ez] at k
        exact k _ ((e.trans e2).trans e3)
      · have hall : ds.all (isR n) = true := by simpa using hb
        have eds := ints_of hall
        have exs : xs = (ds.map valI).map V.int := by rw [eds] at h2; exact h2.int_inv
        generalize hns : ds.map valI = ns at *
        have hnl : ns.length = ds.length := by rw [← hns, List.length_map]
        subst exs
        have h1' := e2 _ _ h1
        have ez : wayB n r (.tuple ds) = (decide (V.int (ns.getD 0 0) = V.int r) && (decide (V.int (ns.getLast?.getD 0) = V.int 0) && decide ns.Nodup)) := by
          unfold wayB
          show (true && (decide (2 ≤ ds.length) && decide (ds.length ≤ 8)) && (ds.all (isR n) && (decide ((ds.map valI)[0]? = some r) && (decide ((ds.map valI).getLast? = some 0) && decide (ds.map valI).Nodup)))) = _
          rw [hall, hns, decide_eq_true hl'.1, decide_eq_true hl'.2]
          cases ns with
          | nil => simp at hnl; omega
          | cons x l =>
            simp only [Bool.true_and, Bool.and_true, List.getElem?_cons_zero, List.getD_cons_zero, V.int.injEq, Option.some.injEq]
            rw [List.getLast?_eq_some_getLast (by simp)]
            simp
        rw [ez] at k
        have hg : ∃ z, ns.getLast? = some z := by
          cases ns with
          | nil => simp at hnl; omega
          | cons x l => exact ⟨_, List.getLast?_eq_some_getLast (by simp)⟩
        obtain ⟨z, hz⟩ := hg
        rw [hz] at k
        refine s_ret (ev_andV (ev_op (ev_op v2 ev_c (rv_ixT (st_of h1') (v := .int (ns.getD 0 0)) ?_)) v1 (rv_eq rfl)) fun _ => ev_andV (ev_op (ev_op v2 (ev_un ev_c ru_neg) (rv_ixT (st_of h1') (v := .int z) ?_)) ev_c (rv_eq rfl)) fun _ => ev_lenSU v2 (st_of h1') (by omega) ?_) fun H3 e3 => k _ ((e.trans e2).trans e3)
        · cases ns with
          | nil => simp at hnl; omega
          | cons x l => exact atI_nat (j := 0) (by simp)
        · exact getLast_atI (by rw [List.getLast?_map, hz]; rfl)
        · have q := ev_lenT (K := K) (ta := tVar 2) (σ := start ["size", "router", "thing", "item"] [.int n, .int r, .ref a]) (H := H2) v2 (st_of h1')
          rw [List.length_map] at q
          exact q
end
end Wk

set_option Elab.async false
set_option linter.all false
set_option maxRecDepth 100000
set_option maxHeartbeats 2000000
namespace Wk
open PySem PySem.Spec PyProof.Rows L2 Evl
/-- the routers of a way -/
def rts (d : PyData) : List Int := (itemsT d).map valI
/-- the item of a router -/
def rowB (n r : Int) (d : PyData) : Bool := isTu d && decide ((itemsT d).length ≤ 6) && (if r = 0 then decide ((itemsT d).length = 0) else ((itemsT d).all (wayB n r) && decide ((itemsT d).map rts).Nodup))
theorem way_ints {n r : Int} {d : PyData} (h : wayB n r d = true) : d = .tuple ((rts d).map PyData.int) ∧ (itemsT d).all (isR n) = true ∧ 2 ≤ (rts d).length ∧ (rts d).length ≤ 8 ∧ (rts d)[0]? = some r ∧ (rts d).getLast? = some 0 ∧ (rts d).Nodup := by
  unfold wayB at h
  simp only [Bool.and_eq_true, decide_eq_true_eq] at h
  obtain ⟨⟨ht, h1, h2⟩, h3, h4, h5, h6⟩ := h
  cases d <;> first | (simp [isTu] at ht; done) | skip
  rename_i ds
  have e := ints_of (ds := ds) h3
  have el : (rts (.tuple ds)).length = ds.length := List.length_map ..
  exact ⟨congrArg PyData.tuple e, h3, by rw [el]; exact h1, by rw [el]; exact h2, h4, h5, h6⟩
theorem ways_keys {G : Hp} {n r : Int} : ∀ {ds : List PyData} {vs : List V}, DqA G vs ds → ds.all (wayB n r) = true → ∃ ks : List (Addr × List Int), vs = ks.map (fun p => V.ref p.1) ∧ (∀ p ∈ ks, G p.1 = some (.tup (p.2.map V.int))) ∧ ks.map (·.2) = ds.map rts
  | [], _, .nil, _ => ⟨[], rfl, fun p hp => (by cases hp), rfl⟩
  | d :: ds, _, .cons h t, c => by
    have c' : wayB n r d = true ∧ ds.all (wayB n r) = true := by simpa using c
    obtain ⟨ks, e1, e2, e3⟩ := ways_keys t c'.2
    have ed := (way_ints c'.1).1
    generalize rts d = ns at ed
    have er : rts d = ns := by
      rw [ed]
      simp [rts, itemsT, valI, Function.comp_def]
    subst ed
    cases h with
    | tup ha hx =>
      rename_i a xs
      have ex := hx.int_inv
      subst ex
      refine ⟨(a, ns) :: ks, by rw [e1]; rfl, fun p hp => ?_, by simp [e3, er]⟩
      rcases List.mem_cons.mp hp with z | z
      · rw [z]; exact ha
      · exact e2 p z
section
variable {P : Program} {w : World} {K : PySem.W.Frag} {mg : Str → Option Value} {base : Heap} {f : Addr} {fd : FuncData}
abbrev spRow : Sp := spP fun H vs z => ∃ (n r : Int) (v : V) (d : PyData), vs = [.int n, .int r, v] ∧ Dq H v d ∧ z = .bl (rowB n r d)
abbrev sRow : Stmt := top 32
theorem scRow : FnScope ["size", "router", "thing", "way"] ["size", "router", "thing"] (defScope sRow) := ⟨rfl, rfl, rfl, by decide +kernel, rfl, by decide +kernel, by decide +kernel⟩
theorem ok_row (B : Bl mg) {t6 : Tok} (hM : mg "MOST_WAYS" = some (.int 6 t6)) (C : Cal P w K mg base "is_way" ["size", "router", "thing"] 5 spWay) (F : FnP K "is_way_list" sRow f fd) : FnOk P w K mg base CX0 6 f fd ["size", "router", "thing"] spRow := by
  refine F.ok scRow (fun vs H Q E h => ?_) (fun cdv A outer s H vs Q E hr h => ?_)
  · obtain ⟨z, ⟨n, r, v, d, rfl, _⟩, _⟩ := h
    rfl
  · obtain ⟨z, ⟨n, r, v, d, rfl, hd, rfl⟩, k⟩ := h
    have hu : (A.deeper (envOfC "is_way_list" (defScope sRow) s.heap.objs.size f cdv)).units + 64 < cLine := by have := hr.un; omega
    refine ⟨_, pss_cons (ps_if (PW.pt (pw_or (pt_not (pt_val (pe_callB call_isi (by rfl) B.isi boot_isinstance (pa_cons (pv 2) (pa_cons (pe_bltn (v := .ty "tuple") (by rfl) B.tuple PyProof.Rows.boot_tuple rfl) pa_nil)))))
        (pw_or1 (pt_cmpR op_gt (pe_callB call_len_seq (by rfl) B.len PySem.boot_len (pa_cons (pv 2) pa_nil)) (pe_glob (v := .int 6) (by rfl) hM ⟨_, rfl⟩) (nomark _))))) (pss_one (ps_ret pe_bl)) pss_nil)
      (pss_cons (ps_if (pt_cmpR op_eq (pv 1) pe_int (nomark _)) (pss_one (ps_ret (pe_cmpR op_eq (pe_callB call_len_seq (by rfl) B.len PySem.boot_len (pa_cons (pv 2) pa_nil)) pe_int (nomark _)))) pss_nil)
      (pss_one (ps_ret (pe_and (pe_callB (cr_all rfl) (by rfl) B.all boot_all (pa_cons (pe_lc (own := [("way", 3)]) (g := gName 3) (tt := tYes) rfl scRow.nd (pi_tup (pv 2)) (blkOk_by (N := ["size", "router", "thing", "way"]) (sc := defScope sRow) (by decide +kernel))
          (fun _ _ _ _ _ => pg_name (i := 3) scRow.nd rfl (Or.inl rfl)) (fun _ _ _ _ _ => pts_nil) (fun _ _ _ _ _ => pe_cal C hr (by rfl) (pa_cons (pv 0) (pa_cons (pv 1) (pa_cons (pv 3) pa_nil))))) pa_nil))
        (pe_one (pe_cmpR op_eq (pe_lenSUU rfl hu (by rfl) B.len (by rfl) B.set (pv 2)) (pe_callB call_len_seq (by rfl) B.len PySem.boot_len (pa_cons (pv 2) pa_nil)) (nomark _))))))), ?_⟩
    have v1 : ∀ {H1 : Hp}, Ev (tVar 1) (start ["size", "router", "thing", "way"] [.int n, .int r, v]) H1 (.int r) := ev_var rfl
    have v2 : ∀ {H1 : Hp}, Ev (tVar 2) (start ["size", "router", "thing", "way"] [.int n, .int r, v]) H1 v := ev_var rfl
    have hlen : ∀ {H1 : Hp}, Ex H H1 → isTu d = true → Ev (tCB (rLenS K) (tCons (tVar 2) tNil)) (start ["size", "router", "thing", "way"] [.int n, .int r, v]) H1 (.int ((itemsT d).length : Int)) := fun {H1} e ht => by
      cases hd <;> first | (simp [isTu] at ht; done) | skip
      rename_i a xs ds h1 h2
      rw [show (itemsT (.tuple ds)).length = xs.length from h2.length.symm]
      exact ev_lenT v2 (st_of (e _ _ h1))
    refine q_when (b := !isTu d || decide (((itemsT d).length : Int) > 6)) (et_or (et_not (et_B (ev_isi v2 hd (kit_tup d)))) fun ht => et_test (ev_op (hlen (Ex.refl H) (by simpa using ht)) ev_c rv_I0))
      (fun hb H1 e => s_ret ev_c fun H2 e2 => ?_) (fun hb H1 e => ?_)
    · have ez : rowB n r d = false := by
        unfold rowB
        cases ht : isTu d
        · simp
        · simp [ht] at hb
          have : decide ((itemsT d).length ≤ 6) = false := by simp; omega
          rw [this]
          simp
      rw [ez] at k
      exact k _ (e.trans e2)
    · have ht : isTu d = true := by simp at hb; exact hb.1
      have hl : (itemsT d).length ≤ 6 := by simp [ht] at hb; omega
      have er : rowB n r d = (if r = 0 then decide ((itemsT d).length = 0) else ((itemsT d).all (wayB n r) && decide ((itemsT d).map rts).Nodup)) := by
        unfold rowB
        rw [ht, decide_eq_true hl]
        simp
      rw [er] at k
      refine q_when (b := decide (V.int r = V.int 0)) (et_test (ev_op v1 ev_c (rv_eq rfl))) (fun hb H2 e2 => ?_) (fun hb H2 e2 => ?_)
      · have hr0 : r = 0 := by have := of_decide_eq_true hb; injection this
        rw [if_pos hr0] at k
        have q : Ev (tOp rEq (tCB (rLenS K) (tCons (tVar 2) tNil)) (tC (.int 0))) (start ["size", "router", "thing", "way"] [.int n, .int r, v]) H2 (.bl (decide (V.int ((itemsT d).length : Int) = V.int 0))) := ev_op (hlen (e.trans e2) ht) ev_c (rv_eq rfl)
        have ed : decide (V.int ((itemsT d).length : Int) = V.int 0) = decide ((itemsT d).length = 0) := by
          rw [decide_eq_decide]
          constructor
          · intro z
            injection z with z
            omega
          · intro z
            rw [z]
            rfl
        rw [ed] at q
        exact s_ret q fun H3 e3 => k _ ((e.trans e2).trans e3)
      · have hr0 : ¬ r = 0 := fun z => by rw [z] at hb; simp at hb
        rw [if_neg hr0] at k
        have hd1 := hd.mono (e.trans e2)
        clear hd er hlen
        cases hd1 <;> first | (simp [isTu] at ht; done) | skip
        rename_i a xs ds h1 h2
        have hxl := h2.length
        have hl' : ds.length ≤ 6 := hl
        refine s_ret (ev_andV (a := ds.all (wayB n r)) ?_ fun hall => ?_) fun H3 e3 => k _ ((e.trans e2).trans e3)
        · have q := ev_allT (K := K) (H := H2) (j := 3) (vs := [3]) (σ := start ["size", "router", "thing", "way"] [.int n, .int r, .ref a]) (te := tCall spWay [] E0 (tCons (tVar 0) (tCons (tVar 1) (tCons (tVar 3) tNil)))) (fun i => ((ds[i]?).map (wayB n r)).getD false) v2 (st_of h1) (by omega) (fun x => rfl)
            (fun i x H3 e3 hx => by
              obtain ⟨dx, e5, e4⟩ := h2.get hx
              rw [e5]
              exact ev_call (ea_cons (ev_var rfl) (ea_cons (ev_var rfl) (ea_cons (ev_var rfl) ea_nil))) (spP_v fun H4 e6 => ⟨n, r, x, dx, rfl, (e4.mono e3).mono e6, rfl⟩))
          rw [hxl, all_get] at q
          exact q
        · obtain ⟨ks, ek1, ek2, ek3⟩ := ways_keys h2 hall
          have hkl : ks.length = xs.length := by rw [ek1, List.length_map]
          have q := ev_lenSUU (K := K) (σ := start ["size", "router", "thing", "way"] [.int n, .int r, .ref a]) (H := H2) (ta := tVar 2) (tb := tCB (rLenS K) (tCons (tVar 2) tNil)) (l := a) (ks := ks) v2 (st_of (by rw [← ek1]; exact h1)) (fun p hp => st_of (ek2 p hp)) (by omega) (by rw [hkl]; exact ev_lenT v2 (st_of h1))
          rw [ek3] at q
          exact q
end
end Wk

set_option Elab.async false
set_option linter.all false
set_option maxRecDepth 100000
set_option maxHeartbeats 4000000
namespace Wk
open PySem PySem.Spec PyProof.Rows L2 Evl
/-! an object made, a method called, where what is raised is wished for at the caller's slots -/
section
variable {X : Cx} {CX : CXT} {k : Nat} {f C : Addr} {fd : FuncData} {ps : List Str} {sp : Sp} {W : L2.St → XK} {x m : Str} {p pos apos : Pos} {e o : Expr} {es : List Expr} {ta : TE} {t : TA}
def tMkAt (C : Addr) (sp : Sp) (W : L2.St → XK) (t : TA) : TE := fun σ H Q => t σ H fun vs H1 => ∀ x dx, H1 x = none → H1 dx = none → dx ≠ x → sp (.ref x :: vs) (upd (upd H1 dx (.own x)) x (.ins C dx [])) (fun v H2 => v = .non ∧ Q (.ref x) H2) (W σ)
theorem pe_mkAt (M : Mk X.K C f) (Fn : FnOk X.prog X.w X.K X.mg X.base CX k f fd ps sp) (hr : Room (k + 1) X.A) (hg : Gl X x) (hm : X.mg x = some (.ref C)) (hb : Binds X.K fd ps []) (hx : ∀ σ, PassesAt CX X σ (W σ)) (ha : PA X (e :: es) t)
    (hdb : (x == ("__debug__" : Str)) = false := by decide) (he : starEach (e :: es) X.env = (false, eval e X.env) :: starEach es X.env := by rfl) (hpl : (backTo pos (starEach es X.env)).any (·.1) = false := by rfl) :
    PE X (.Call (.Name x p) (e :: es) [] pos) (tMkAt C sp W t) := by
  refine ⟨fun pins s σ H Q I h => wpAny_Call_Name_kw (ld_glob I hg hm (PySem.W.callWith_K (h₀ := X.base) I.ok.mod.kin M.kp (thn (ha.run pos pins s σ H _ I h) fun us s1 hh => ?_) he hpl) hdb)⟩
  obtain ⟨vs, H1, I1, r, q⟩ := hh
  refine ⟨I1.kIn, ?_⟩
  have hq := q (s1.heap.objs.size + 1) s1.heap.objs.size (I1.hok.fresh (Nat.le_succ _)) (I1.hok.fresh (Nat.le_refl _)) (Nat.ne_of_lt (Nat.lt_succ_self _))
  have J := Inv.made (C := C) I1
  have rr : Vals (V.ref (s1.heap.objs.size + 1) :: vs) (Value.ref (s1.heap.objs.size + 1) :: us) := .cons rfl r
  have hl : (Value.ref (s1.heap.objs.size + 1) :: us).length = ps.length := rr.length.symm.trans (Fn.len _ _ _ _ hq)
  have bd := hb _ (Value.ref (s1.heap.objs.size + 1) :: us) J.kIn (by rw [List.append_nil]; exact hl)
  rw [List.append_nil] at bd
  refine wpAny_call (make_map (f := f) I1.kIn M.makes M.init (beq_iff_eq.mp M.fn) (codeAny_mono (Fn.run _ X.stack _ _ ⟨_, []⟩ _ _ _ (W σ) (hr.make C us []) (J.env0.make C us []) bd rr hq) fun r s' out => ?_))
  cases r with
  | error er => exact hx σ pins _ _ er s' J out
  | ok fl =>
    cases fl with
    | ret u =>
      obtain ⟨v, H', I3, rv, ev, q3⟩ := J.after out
      subst ev
      exact ⟨rv, ⟨V.ref (s1.heap.objs.size + 1), H', I3, rfl, q3⟩⟩
    | next => exact False.elim out
    | brk => exact False.elim out
    | cont => exact False.elim out
def tMeAt (C : Addr) (m : Str) (sp : Sp) (W : L2.St → XK) (ta : TE) (t : TA) : TE := fun σ H Q => ta σ H fun x H1 => ∃ a dx fs, x = .ref a ∧ H1 a = some (.ins C dx fs) ∧ fs.lookup m = none ∧ t σ H1 fun vs H2 => sp (x :: vs) H2 Q (W σ)
theorem pe_meAt {pl : Sem Bool} (ho : PE X o ta) (c : Cls X.K C) (hm : Meth X.K C m f) (Fn : FnOk X.prog X.w X.K X.mg X.base CX k f fd ps sp) (hr : Room k X.A) (hb : Binds X.K fd ps []) (hx : ∀ σ, PassesAt CX X σ (W σ)) (ha : PA X (e :: es) t)
    (hst : starEach (e :: es) X.env = (false, eval e X.env) :: starEach es X.env := by rfl) (hpl : (backTo pos (starEach es X.env)).any (·.1) = false := by rfl)
    (ht : eval (.Call (.Attribute o m apos) (e :: es) [] pos) X.env = (do
      let ov ← eval o X.env
      standAt apos.atName
      let (f, first) ← holding [ov] (getMethod ov m pl)
      callWith pos f first (backTo pos (starEach (e :: es) X.env)) (backToKw pos (keywordEach [] X.env))) := by rfl) :
    PE X (.Call (.Attribute o m apos) (e :: es) [] pos) (tMeAt C m sp W ta t) := by
  refine ⟨fun pins s σ H Q I h => PySem.W.methodCall_KW (pl := pl) (thn (ho.run pins s σ H _ I h) fun u s1 hh => ?_) ht⟩
  obtain ⟨x, H1, I1, rx, a, dx, fs, ex, ea, l, q⟩ := hh
  subst ex
  obtain rfl : u = Value.ref a := rx
  refine getmeth_ok I1 ea c hm l (PySem.W.callWith_K (first := [.ref a]) (h₀ := X.base) I.ok.mod.kin hm.kp (thn (ha.run pos pins s1 σ H1 _ I1 q) fun us s2 hh => ?_) hst hpl)
  obtain ⟨vs, H2, I2, r, q2⟩ := hh
  exact ⟨I2.kIn, run_fnS (us := .ref a :: us) (vs := .ref a :: vs) Fn hr hb (hx σ) I2 (.cons rfl r) q2⟩
end
/-! an own error with one field -/
/-- __init__ of such an error: self.router = router -/
def spXI (C : Addr) : Sp := fun vs H Q _ => ∃ (a : Addr) (y : V), vs = [.ref a, y] ∧ H a = some (exo a C none) ∧ ∀ dx, H dx = none → dx ≠ a → Q .non (upd (upd H dx (exd dx [("router", y)])) a (exo a C (some dx)))
/-- X(e) is made: where the error's dict is -/
theorem mk_err {C : Addr} {te : TE} {σ : L2.St} {H : Hp} {y : V} {W : XK} (h : Ev te σ H y) (k : ∀ d H', H d = none → Ex H H' → H' d = some (.xd [("router", y)]) → W (.ref C) (some d) H') : tMkO C (spXI C) [] (tCons te tNil) σ H W := by
  refine h H (Ex.refl H) _ fun H1 e => ⟨by show 1 ≤ 1000; decide, fun a ha => ?_⟩
  refine ⟨a, y, rfl, upd_same, fun dx hd hne => ⟨rfl, dx, [("router", y)], upd_same, by rw [upd_ne hne, upd_same], ?_, ?_⟩⟩
  · rw [upd_ne hne] at hd
    exact hd
  · have hd1 : H1 dx = none := by rw [upd_ne hne] at hd; exact hd
    refine k dx _ (fresh_back e hd1) (fun b o hb => ?_) upd_same
    have hb1 := e b o hb
    have nb : b ≠ dx := ne_of_none hb1 hd1
    have na : b ≠ a := ne_of_none hb1 ha
    rw [upd_ne nb, del_ne na, upd_ne na, upd_ne nb, upd_ne na]
    exact hb1
/-! parts of tuples -/
section
variable {K : PySem.W.Frag} {σ : L2.St} {H : Hp} {ta tb te : TE}
/-- what stands in a tuple (an old one or a new one) -/
def EvS (te : TE) (σ : L2.St) (H : Hp) (xs : List V) : Prop := ∀ H1, Ex H H1 → ∀ Q : VK, (∀ p H2, Ex H1 H2 → H2 p = some (.tup xs) → Q (.ref p) H2) → te σ H1 Q
theorem es_sl {a : Addr} {xs : List V} {tl th : TO} {lo hi : Option Int} (h : Ev te σ H (.ref a)) (h1 : EvO tl σ H lo) (h2 : EvO th σ H hi) (hs : H a = some (.tup xs)) : EvS (tSl (rSlA K) te tl th) σ H (cutV xs lo hi) := fun H1 e Q q =>
  h H1 e _ fun H2 e2 => h1 H2 (e.trans e2) _ fun H3 e3 => h2 H3 ((e.trans e2).trans e3) _ fun H4 e4 => by
    have hs4 := (((e.trans e2).trans e3).trans e4) _ _ hs
    refine ⟨a, xs, rfl, st_of hs4, fun hw => ?_, fun hw p hp => q p _ (((e2.trans e3).trans e4).trans (Ex.new hp)) upd_same⟩
    have ec : cutV xs lo hi = xs := by
      unfold cutV
      rw [hw.1, hw.2]
      simp
    rw [ec] at q
    exact q a H4 ((e2.trans e3).trans e4) hs4
theorem es_cat {xs ys : List V} (ha : EvS ta σ H xs) (hb : EvS tb σ H ys) (hz : xs.length + ys.length ≤ 100000) : EvS (tOp (rCatA K) ta tb) σ H (xs ++ ys) := fun H1 e Q q =>
  ha H1 e _ fun p H2 e2 hp => hb H2 (e.trans e2) _ fun p' H3 e3 hp' => by
    have hp3 := e3 _ _ hp
    refine ⟨p, p', xs, ys, rfl, rfl, st_of hp3, st_of hp', sz_of hz, fun hx => ?_, fun _ hy => ?_, fun _ _ r hr => q r _ ((e2.trans e3).trans (Ex.new hr)) upd_same⟩
    · rw [hx] at q
      exact q p' H3 (e2.trans e3) hp'
    · rw [hy, List.append_nil] at q
      exact q p H3 (e2.trans e3) hp3
theorem es_tup {t : TA} {xs : List V} (h : EvA t σ H xs) (hz : xs.length ≤ 100000) : EvS (tTup t) σ H xs := fun H1 e Q q => eu_tup h hz H1 e Q fun p H2 _ e2 hp => q p H2 e2 hp
theorem es_var {a : Addr} {xs : List V} (h : Ev te σ H (.ref a)) (hs : H a = some (.tup xs)) : EvS te σ H xs := fun H1 e Q q => h H1 e _ fun H2 e2 => q a H2 e2 ((e.trans e2) _ _ hs)
theorem es_mono {xs : List V} {H' : Hp} (e : Ex H H') (h : EvS te σ H xs) : EvS te σ H' xs := fun H1 e1 Q q => h H1 (e.trans e1) Q q
end
/-! x in t, t a tuple of data -/
section
variable {X : Cx}
def rInU (K : PySem.W.Frag) : R2 := fun x y H Q => ∃ d ds, Dp K H x d ∧ Dp K H y (.tuple ds) ∧ SeqAt.shaped d = true ∧ PyData.canLayAll0 ds = true ∧ Q (.bl (ds.any fun z => PyData.eqv z d)) H
def rNotInU (K : PySem.W.Frag) : R2 := fun x y H Q => ∃ d ds, Dp K H x d ∧ Dp K H y (.tuple ds) ∧ SeqAt.shaped d = true ∧ PyData.canLayAll0 ds = true ∧ Q (.bl (!ds.any fun z => PyData.eqv z d)) H
theorem op_inU (hu : X.A.units + 66 < cLine) : OpR X (compareOp .In) (rInU X.K) := fun pins s σ H x y v u Q I rx ry h => by
  obtain ⟨d, ds, hd, he, sd, se, q⟩ := h
  obtain ⟨as, r1⟩ := Dp.reads I d x v hd rx
  obtain ⟨bs, r2⟩ := Dp.reads I (.tuple ds) y u he ry
  have hdp := SeqAt.depth_of_shaped sd
  exact SeqAt.in_tuple_reads r2 r1 se (SeqAt.canLay_of_shaped sd) (by have := Nat.min_le_right (PyData.depthAll ds) d.depth; omega) ⟨.bl _, H, I, rfl, q⟩
theorem op_notInU (hu : X.A.units + 66 < cLine) : OpR X (compareOp .NotIn) (rNotInU X.K) := fun pins s σ H x y v u Q I rx ry h => by
  obtain ⟨d, ds, hd, he, sd, se, q⟩ := h
  obtain ⟨as, r1⟩ := Dp.reads I d x v hd rx
  obtain ⟨bs, r2⟩ := Dp.reads I (.tuple ds) y u he ry
  have hdp := SeqAt.depth_of_shaped sd
  exact SeqAt.notIn_tuple_reads r2 r1 se (SeqAt.canLay_of_shaped sd) (by have := Nat.min_le_right (PyData.depthAll ds) d.depth; omega) ⟨.bl _, H, I, rfl, q⟩
end
end Wk

set_option Elab.async false
set_option linter.all false
set_option maxRecDepth 100000
set_option maxHeartbeats 2000000
namespace Wk
open PySem PySem.Spec PyProof.Rows L2 Evl
theorem lay_ints : ∀ ns : List Int, PyData.canLayAll0 (ns.map PyData.int) = true
  | [] => by simp [PyData.canLayAll0]
  | n :: ns => by
    have h := lay_ints ns
    simp [PyData.canLayAll0, PyData.canLay0, h]
theorem depth_ints : ∀ ns : List Int, PyData.depthAll (ns.map PyData.int) = 0
  | [] => by simp [PyData.depthAll]
  | n :: ns => by
    have h := depth_ints ns
    simp [PyData.depthAll, PyData.depth, h]
theorem shaped_ints (ns : List Int) : SeqAt.shaped (.tuple (ns.map PyData.int)) = true := by
  unfold SeqAt.shaped
  have h1 := lay_ints ns
  have h2 := depth_ints ns
  simp [PyData.canLay0, PyData.depth, h1, h2]
theorem way_lay {n r : Int} {d : PyData} (h : wayB n r d = true) : d.canLay0 = true := by
  rw [(way_ints h).1]
  exact SeqAt.canLay_of_shaped (shaped_ints _)
theorem ways_lay {n r : Int} : ∀ {ds : List PyData}, ds.all (wayB n r) = true → PyData.canLayAll0 ds = true
  | [], _ => by simp [PyData.canLayAll0]
  | d :: ds, h => by
    have h' : wayB n r d = true ∧ ds.all (wayB n r) = true := by simpa using h
    simp [PyData.canLayAll0, way_lay h'.1, ways_lay h'.2]
theorem row_lay {n r : Int} {d : PyData} (h : rowB n r d = true) : ∃ ws, d = .tuple ws ∧ PyData.canLayAll0 ws = true ∧ ws.length ≤ 6 ∧ (r ≠ 0 → ws.all (wayB n r) = true) ∧ (r = 0 → ws = []) := by
  unfold rowB at h
  simp only [Bool.and_eq_true, decide_eq_true_eq] at h
  obtain ⟨⟨ht, h1⟩, h2⟩ := h
  cases d <;> first | (simp [isTu] at ht; done) | skip
  rename_i ws
  by_cases hr : r = 0
  · rw [if_pos hr] at h2
    have e : ws = [] := List.length_eq_zero_iff.mp (of_decide_eq_true h2)
    refine ⟨ws, rfl, by rw [e]; simp [PyData.canLayAll0], h1, fun z => absurd hr z, fun _ => e⟩
  · rw [if_neg hr] at h2
    have h3 := (Bool.and_eq_true_iff.mp h2).1
    exact ⟨ws, rfl, ways_lay h3, h1, fun _ => h3, fun z => absurd z hr⟩
/-- the rest of a way stands in the list of its router, or is the goal's -/
def restB (rows : List PyData) (w : PyData) : Bool := decide ((rts w).getD 1 0 = 0) || (itemsT (rows.getD ((rts w).getD 1 0).toNat .none)).any (fun z => PyData.eqv z (.tuple (((rts w).drop 1).map PyData.int)))
def Good (rows : List PyData) : Prop := ∀ (i : Nat) (row : PyData), rows[i]? = some row → rowB (rows.length : Int) (i : Int) row = true
theorem way_at {n r : Int} {w : PyData} {i : Nat} {x : Int} (h : wayB n r w = true) (e : (rts w)[i]? = some x) : 0 ≤ x ∧ x < n := by
  have hall := (way_ints h).2.1
  unfold rts at e
  rw [List.getElem?_map] at e
  cases hd : (itemsT w)[i]? with
  | none => rw [hd] at e; cases e
  | some d =>
    rw [hd] at e
    have hm : d ∈ itemsT w := List.mem_of_getElem? hd
    have hr : isR n d = true := List.all_eq_true.mp hall d hm
    unfold isR at hr
    simp only [Bool.and_eq_true, decide_eq_true_eq] at hr
    have ex : valI d = x := Option.some.inj e
    omega
theorem drop1 (ns : List Int) : cutV (ns.map V.int) (some 1) none = (ns.drop 1).map V.int := by
  unfold cutV
  have e1 : HT.sIx (ns.map V.int).length 0 (some 1) = min 1 (ns.map V.int).length := HT.sIx_nat _ _ 1
  rw [e1, HT.sIx_none]
  cases ns with
  | nil => rfl
  | cons x l =>
    simp
    exact List.take_of_length_le (by simp)
section
variable {P : Program} {w : World} {K : PySem.W.Frag} {mg : Str → Option Value} {base : Heap} {f : Addr} {fd : FuncData}
abbrev spRest : Sp := spP fun H vs z => ∃ (lv wv : V) (rows : List PyData) (w : PyData) (r : Int), vs = [lv, wv] ∧ Dq H lv (.tuple rows) ∧ Dq H wv w ∧ wayB (rows.length : Int) r w = true ∧ Good rows ∧ z = .bl (restB rows w)
abbrev sRest : Stmt := top 33
theorem scRest : FnScope ["lists", "way"] ["lists", "way"] (defScope sRest) := ⟨rfl, rfl, rfl, by decide +kernel, rfl, by decide +kernel, by decide +kernel⟩
theorem ok_rest (F : FnP K "has_let_rest" sRest f fd) : FnOk P w K mg base CX0 1 f fd ["lists", "way"] spRest := by
  refine F.ok scRest (fun vs H Q E h => ?_) (fun cdv A outer s H vs Q E hr h => ?_)
  · obtain ⟨z, ⟨lv, wv, rows, w, r, rfl, _⟩, _⟩ := h
    rfl
  · obtain ⟨z, ⟨lv, wv, rows, w, r, rfl, hl, hw, hway, hg, rfl⟩, k⟩ := h
    have hu : (A.deeper (envOfC "has_let_rest" (defScope sRest) s.heap.objs.size f cdv)).units + 66 < cLine := by have := hr.un; omega
    refine ⟨_, pss_one (ps_ret (pe_or (pe_cmpR op_eq (pe_ix ix_tup (pv 1) pe_int (fun _ _ => rfl)) pe_int (nomark _)) (pe_one (pe_cmpR (op_inU hu) (pe_slice sl_tupA (pv 1) (po_some pe_int) po_none) (pe_ix ix_tup (pv 0) (pe_ix ix_tup (pv 1) pe_int (fun _ _ => rfl)) (fun _ _ => rfl)) rfl)))), ?_⟩
    obtain ⟨ew, _, h2, _, _, _, _⟩ := way_ints hway
    unfold restB at k
    have hn1 : ∃ j, (rts w)[1]? = some j := ⟨_, List.getElem?_eq_getElem (by omega)⟩
    obtain ⟨j, hj⟩ := hn1
    obtain ⟨hj0, hjn⟩ := way_at hway hj
    have ejd : (rts w).getD 1 0 = j := by rw [List.getD_eq_getElem?_getD, hj]; rfl
    rw [ejd] at k
    generalize rts w = ns at *
    subst ew
    cases hw with
    | tup ha hx =>
      rename_i a xs
      have ex := hx.int_inv
      subst ex
      cases hl with
      | tup hb hy =>
        rename_i b ys
        have v0 : Ev (tVar 0) (start ["lists", "way"] [.ref b, .ref a]) H (.ref b) := ev_var rfl
        have v1 : Ev (tVar 1) (start ["lists", "way"] [.ref b, .ref a]) H (.ref a) := ev_var rfl
        have hat : atI (ns.map V.int) 1 = some (.int j) := atI_nat (j := 1) (by rw [List.getElem?_map, hj]; rfl)
        have i1 : Ev (tOp (rIxT K) (tVar 1) (tC (.int 1))) (start ["lists", "way"] [.ref b, .ref a]) H (.int j) := ev_op v1 ev_c (rv_ixT (st_of ha) hat)
        have ed : decide (V.int j = V.int 0) = decide (j = 0) := by rw [decide_eq_decide]; exact ⟨fun z => by injection z, fun z => by rw [z]⟩
        refine s_ret (ev_is (ev_orV (a := decide (V.int j = V.int 0)) (ev_op i1 ev_c (rv_eq rfl)) fun hne => ?_) (by rw [ed])) k
        have hjl : j.toNat < rows.length := by omega
        have hrow : rows[j.toNat]? = some rows[j.toNat] := List.getElem?_eq_getElem hjl
        have hgd : rows.getD j.toNat .none = rows[j.toNat] := by rw [List.getD_eq_getElem?_getD, hrow]; rfl
        obtain ⟨ws, ew, lay, _⟩ := row_lay (hg _ _ hrow)
        obtain ⟨rv, hrv, hdr⟩ := hy.at hrow
        rw [hgd, ew]
        rw [ew] at hdr
        have hat2 : atI ys j = some rv := by
          have q := atI_nat (j := j.toNat) hrv
          rw [Int.toNat_of_nonneg hj0] at q
          exact q
        intro H1 e Q2 q
        refine es_sl (K := K) v1 (eo_some ev_c) eo_none ha H1 e _ fun p H2 e2 hp => ?_
        rw [drop1] at hp
        refine ev_op (Ev.mono (e.trans e2) v0) (Ev.mono (e.trans e2) i1) (rv_ixT (st_of ((e.trans e2) _ _ hb)) hat2) H2 (Ex.refl H2) _ fun H3 e3 => ?_
        refine ⟨.tuple ((ns.drop 1).map PyData.int), ws, .tup (st_of (e3 _ _ hp)) (DqA.dp (lay_ints _) (DqA.ints _)), Dq.dp (by simpa [PyData.canLay0] using lay) (hdr.mono ((e.trans e2).trans e3)), shaped_ints _, lay, q H3 (e2.trans e3)⟩
end
end Wk

set_option Elab.async false
set_option linter.all false
set_option maxRecDepth 100000
set_option maxHeartbeats 2000000
namespace Wk
open PySem PySem.Spec PyProof.Rows L2 Evl
/-- what the text tells of an error class with one field, at C, its __init__ at fI -/
structure Err (P : Program) (w : World) (K : PySem.W.Frag) (mg : Str → Option Value) (base : Heap) (x : Str) (C : Addr) : Prop where
  g : mg x = some (.ref C)
  oex : OexC K C
  xf : XfC K C
  no : PySem.W.findIn K (.ref C) "router" = some none
  te : PySem.W.exmOne K (.ref C) (.ref C) = some true
  ini : ∃ (fI : Addr) (fd : FuncData), PySem.W.findIn K (.ref C) "__init__" = some (some (.ref fI)) ∧ PySem.W.typeIn K (.ref fI) = some (.type "function") ∧ FnOk P w K mg base CX0 1 fI fd ["self", "router"] (spXI C) ∧ Binds K fd ["self", "router"] []
theorem pmk_err {X : Cx} {x : Str} {C : Addr} {e : Expr} {ta : TA} {p pos : Pos} (T : Err X.prog X.w X.K X.mg X.base x C) (hr : Room 2 X.A) (hg : Gl X x) (ha : PA X [e] ta)
    (hdb : (x == ("__debug__" : Str)) = false := by decide) (he : starEach [e] X.env = (false, eval e X.env) :: starEach [] X.env := by rfl) (hpl : (backTo pos (starEach [] X.env)).any (·.1) = false := by rfl) : PMk X (.Call (.Name x p) [e] [] pos) (tMkO C (spXI C) [] ta) := by
  obtain ⟨fI, fd, h1, h2, h3, h4⟩ := T.ini
  exact pmk_oex T.oex h1 h2 h3 hr h4 .nil pass0 hg T.g ha hdb he hpl
/-- the first router whose item is wrong; the first with a way whose rest is not let -/
def fb (n : Int) : Nat → List PyData → Option Int
  | _, [] => none
  | i, d :: ds => if rowB n (i : Int) d = true then fb n (i + 1) ds else some (i : Int)
def sb (rows : List PyData) : Nat → List PyData → Option Int
  | _, [] => none
  | i, d :: ds => if (itemsT d).all (restB rows) = true then sb rows (i + 1) ds else some (i : Int)
def due2 (rows : List PyData) : Option Int := match fb (rows.length : Int) 0 rows with
  | some r => some r
  | none => sb rows 0 rows
def dueD (d : PyData) : Option Int := if isTu d = true ∧ 2 ≤ (itemsT d).length ∧ (itemsT d).length ≤ 8 then due2 (itemsT d) else some (-1)
theorem fb_drop {n : Int} : ∀ {ds : List PyData} {i j : Nat} {d : PyData}, ds[i]? = some d → fb n (j + i) (ds.drop i) = if rowB n ((j + i : Nat) : Int) d = true then fb n (j + (i + 1)) (ds.drop (i + 1)) else some ((j + i : Nat) : Int)
  | [], i, j, d, h => by simp at h
  | x :: ds, 0, j, d, h => by
    simp at h
    subst h
    rfl
  | x :: ds, i + 1, j, d, h => by
    have q := fb_drop (n := n) (ds := ds) (i := i) (j := j + 1) (d := d) (by simpa using h)
    simp only [List.drop_succ_cons]
    rw [show j + (i + 1) = j + 1 + i by omega, show j + (i + 1 + 1) = j + 1 + (i + 1) by omega]
    exact q
theorem sb_drop {rows : List PyData} : ∀ {ds : List PyData} {i j : Nat} {d : PyData}, ds[i]? = some d → sb rows (j + i) (ds.drop i) = if (itemsT d).all (restB rows) = true then sb rows (j + (i + 1)) (ds.drop (i + 1)) else some ((j + i : Nat) : Int)
  | [], i, j, d, h => by simp at h
  | x :: ds, 0, j, d, h => by
    simp at h
    subst h
    rfl
  | x :: ds, i + 1, j, d, h => by
    have q := sb_drop (rows := rows) (ds := ds) (i := i) (j := j + 1) (d := d) (by simpa using h)
    simp only [List.drop_succ_cons]
    rw [show j + (i + 1) = j + 1 + i by omega, show j + (i + 1 + 1) = j + 1 + (i + 1) by omega]
    exact q
theorem fb_good {n : Int} : ∀ {ds : List PyData} {j : Nat}, fb n j ds = none → ∀ (i : Nat) (d : PyData), ds[i]? = some d → rowB n ((j + i : Nat) : Int) d = true
  | [], _, _, i, d, h => by simp at h
  | x :: ds, j, hf, i, d, h => by
    unfold fb at hf
    by_cases hx : rowB n (j : Int) x = true
    · rw [if_pos hx] at hf
      cases i with
      | zero => simp at h; subst h; exact hx
      | succ i =>
        have q := fb_good hf i d (by simpa using h)
        rw [show j + (i + 1) = j + 1 + i by omega]
        exact q
    · rw [if_neg hx] at hf
      cases hf
theorem fb_Good {rows : List PyData} (h : fb (rows.length : Int) 0 rows = none) : Good rows := fun i row e => by
  have q := fb_good h i row e
  rw [Nat.zero_add] at q
  exact q
theorem g_two {i j : Nat} {x y : V} {σ : L2.St} {H : Hp} {k : L2.St → Hp → Prop} (h : k ((σ.set i (some x)).set j (some y)) H) : gCons (gName i) (gCons (gName j) gNil) [x, y] σ H k := ⟨_, _, rfl, ⟨_, _, rfl, ⟨rfl, h⟩⟩⟩
section
variable {P : Program} {w : World} {K : PySem.W.Frag} {mg : Str → Option Value} {base : Heap} {f : Addr} {fd : FuncData}
abbrev spSize : Sp := spP fun H vs z => ∃ (a : Int) (v : V) (d : PyData), vs = [.int a, v] ∧ Dq H v d ∧ z = .bl (isI d && (decide (a ≤ valI d) && decide (valI d ≤ 8)))
abbrev sSize : Stmt := top 14
theorem scSize : FnScope ["least", "thing"] ["least", "thing"] (defScope sSize) := ⟨rfl, rfl, rfl, by decide +kernel, rfl, by decide +kernel, by decide +kernel⟩
theorem ok_size {t8 : Tok} (hM : mg "MOST_ROUTERS" = some (.int 8 t8)) (C : Cal P w K mg base "is_between" ["least", "most", "thing"] 2 spBetween) (F : FnP K "is_size" sSize f fd) : FnOk P w K mg base CX0 3 f fd ["least", "thing"] spSize := by
  refine F.ok scSize (fun vs H Q E h => ?_) (fun cdv A outer s H vs Q E hr h => ?_)
  · obtain ⟨z, ⟨n, v, d, rfl, _⟩, _⟩ := h
    rfl
  · obtain ⟨z, ⟨n, v, d, rfl, hd, rfl⟩, k⟩ := h
    refine ⟨_, pss_one (ps_ret (pe_cal C hr (by rfl) (pa_cons (pv 0) (pa_cons (pe_glob (v := .int 8) (by rfl) hM ⟨_, rfl⟩) (pa_cons (pv 1) pa_nil))))), ?_⟩
    exact s_ret (ev_call (ea_cons (ev_var rfl) (ea_cons ev_c (ea_cons (ev_var rfl) ea_nil))) (spP_v fun H1 e => ⟨n, 8, v, d, rfl, hd.mono e, rfl⟩)) k
def spRefuse (CB : Addr) : Sp := fun vs H Q E => ∃ v d, vs = [v] ∧ Dq H v d ∧ (dueD d = none → ∀ H', Ex H H' → Q .non H') ∧ ∀ r, dueD d = some r → ∀ dx H', H dx = none → Ex H H' → H' dx = some (.xd [("router", .int r)]) → E (.ref CB) (some dx) H'
abbrev sRefuse : Stmt := top 31
abbrev nRefuse : List Str := ["lists", "router", "item", "way"]
theorem scRefuse : FnScope nRefuse ["lists"] (defScope sRefuse) := ⟨rfl, rfl, rfl, by decide +kernel, rfl, by decide +kernel, by decide +kernel⟩
theorem ok_refuse {CB : Addr} (B : Bl mg) {t2 : Tok} (hM : mg "LEAST_ROUTERS" = some (.int 2 t2)) (CS : Cal P w K mg base "is_size" ["least", "thing"] 3 spSize) (T : Err P w K mg base "BadWishes" CB) (C : Cal P w K mg base "is_way_list" ["size", "router", "thing"] 6 spRow) (C2 : Cal P w K mg base "has_let_rest" ["lists", "way"] 1 spRest)
    (F : FnP K "refuse_wrong_lists" sRefuse f fd) : FnOk P w K mg base (L2.CX P w) 7 f fd ["lists"] (spRefuse CB) := by
  refine F.ok scRefuse (fun vs H Q E h => ?_) (fun cdv A outer s H vs Q E hr h => ?_)
  · obtain ⟨v, d, rfl, _⟩ := h
    rfl
  · obtain ⟨v, d, rfl, hd, kN, kE⟩ := h
    have hr2 : Room 2 _ := hr.mono (by decide)
    have hr1 : Room 1 _ := hr.mono (by decide)
    refine ⟨_, pss_cons (ps_if (PW.pt (pw_or (pt_not (pt_val (pe_callB call_isi (by rfl) B.isi boot_isinstance (pa_cons (pv 0) (pa_cons (pe_bltn (v := .ty "tuple") (by rfl) B.tuple PyProof.Rows.boot_tuple rfl) pa_nil)))))
        (pw_or1 (pt_not (pt_val (pe_cal CS hr (by rfl) (pa_cons (pe_glob (v := .int 2) (by rfl) hM ⟨_, rfl⟩) (pa_cons (pe_callB call_len_seq (by rfl) B.len PySem.boot_len (pa_cons (pv 0) pa_nil)) pa_nil)))))))) (pss_one (ps_raise rfl (takes_of rfl rfl rfl rfl) (pmk_err T hr2 (by rfl) (pa_cons (pe_un un_neg pe_int) pa_nil)))) pss_nil)
      (pss_cons (ps_for (passes_of rfl) rfl (pi_enumT (by rfl) B.enum (pa_cons (pv 0) pa_nil)) (pg_tup rfl (pgs_cons (pg_name (i := 1) scRefuse.nd rfl (.inl rfl)) (pgs_cons (pg_name (i := 2) scRefuse.nd rfl (.inl rfl)) pgs_nil)))
        (pss_one (ps_if (pt_not (pt_val (pe_cal C hr (by rfl) (pa_cons (pe_callB call_len_seq (by rfl) B.len PySem.boot_len (pa_cons (pv 0) pa_nil)) (pa_cons (pv 1) (pa_cons (pv 2) pa_nil)))))) (pss_one (ps_raise rfl (takes_of rfl rfl rfl rfl) (pmk_err T hr2 (by rfl) (pa_cons (pv 1) pa_nil)))) pss_nil)))
      (pss_one (ps_for (passes_of rfl) rfl (pi_enumT (by rfl) B.enum (pa_cons (pv 0) pa_nil)) (pg_tup rfl (pgs_cons (pg_name (i := 1) scRefuse.nd rfl (.inl rfl)) (pgs_cons (pg_name (i := 2) scRefuse.nd rfl (.inl rfl)) pgs_nil)))
        (pss_one (ps_if (pt_not (pt_val (pe_callB (cr_all rfl) (by rfl) B.all boot_all (pa_cons (pe_lc (own := [("way", 3)]) (g := gName 3) (tt := tYes) rfl scRefuse.nd (pi_tup (pv 2)) (blkOk_by (N := nRefuse) (sc := defScope sRefuse) (by decide +kernel))
          (fun _ _ _ _ _ => pg_name (i := 3) scRefuse.nd rfl (Or.inl rfl)) (fun _ _ _ _ _ => pts_nil) (fun _ _ _ _ _ => pe_cal C2 hr1 (by rfl) (pa_cons (pv 0) (pa_cons (pv 3) pa_nil)))) pa_nil)))) (pss_one (ps_raise rfl (takes_of rfl rfl rfl rfl) (pmk_err T hr2 (by rfl) (pa_cons (pv 1) pa_nil)))) pss_nil))))), ?_⟩
    have v0 : ∀ {H1 : Hp} {o1 o2 o3 : Option V}, Ev (tVar 0) [some v, o1, o2, o3] H1 v := ev_var rfl
    have hlen : ∀ {H1 : Hp} {o1 o2 o3 : Option V}, Ex H H1 → isTu d = true → Ev (tCB (rLenS K) (tCons (tVar 0) tNil)) [some v, o1, o2, o3] H1 (.int ((itemsT d).length : Int)) := fun {H1 o1 o2 o3} e ht => by
      cases hd <;> first | (simp [isTu] at ht; done) | skip
      rename_i a xs ds h1 h2
      rw [show (itemsT (.tuple ds)).length = xs.length from h2.length.symm]
      exact ev_lenT v0 (st_of (e _ _ h1))
    refine q_when (b := !isTu d || !(decide (2 ≤ ((itemsT d).length : Int)) && decide (((itemsT d).length : Int) ≤ 8))) (et_or (et_not (et_B (ev_isi (v0 (H1 := H)) hd (kit_tup d)))) fun ht => et_not (et_B (ev_call (ea_cons ev_c (ea_cons (hlen (Ex.refl H) (by simpa using ht)) ea_nil)) (spP_v fun H1 e => ⟨2, _, _, rfl, .int _, rfl⟩))))
      (fun hb H1 e => ?_) (fun hb H1 e => ?_)
    · refine mk_err (ev_un ev_c ru_neg) fun dx H' h0 e' hx => kE (-1) ?_ dx H' (fresh_back e h0) (e.trans e') hx
      unfold dueD
      rw [if_neg]
      intro z
      obtain ⟨z1, z2, z3⟩ := z
      simp [z1] at hb
      omega
    · have ht : isTu d = true := by simp at hb; exact hb.1
      have hl : 2 ≤ (itemsT d).length ∧ (itemsT d).length ≤ 8 := by simp [ht] at hb; omega
      have edue : dueD d = due2 (itemsT d) := by unfold dueD; rw [if_pos ⟨ht, hl⟩]
      rw [edue] at kN kE
      cases hd <;> first | (simp [isTu] at ht; done) | skip
      rename_i a xs rows h1 h2
      have hlen' : ∀ {H1 : Hp} {o1 o2 o3 : Option V}, Ex H H1 → Ev (tCB (rLenS K) (tCons (tVar 0) tNil)) [some (.ref a), o1, o2, o3] H1 (.int (rows.length : Int)) := fun {_ _ _ _} e => hlen e rfl
      have kN' : due2 rows = none → ∀ H', Ex H H' → Q .non H' := kN
      have kE' : ∀ r, due2 rows = some r → ∀ dx H', H dx = none → Ex H H' → H' dx = some (.xd [("router", .int r)]) → E (.ref CB) (some dx) H' := kE
      have hl' : 2 ≤ rows.length ∧ rows.length ≤ 8 := hl
      clear kN kE hlen edue hl hb
      have hxl := h2.length
      refine q_forEn (K := K) (v0 (H1 := H1)) (st_of (e _ _ h1)) (fun i σ H' => Ex H H' ∧ (∃ o1 o2, σ = [some (.ref a), o1, o2, none]) ∧ fb (rows.length : Int) 0 rows = fb (rows.length : Int) i (rows.drop i)) (fun H2 e2 => ⟨e.trans e2, ⟨none, none, rfl⟩, rfl⟩) (fun i σ H' _ p => st_of (p.1 _ _ h1)) ?_ ?_
      · rintro i z T σ H3 hz ⟨e3, ⟨o1, o2, rfl⟩, hf⟩ hT
        obtain ⟨dz, ed1, ed2⟩ := h2.get hz
        have e4 : Ex H3 (upd H3 T (.tup [.int (i : Nat), z])) := Ex.new hT
        refine ⟨T, _, rfl, st_of upd_same, rfl, g_two ?_⟩
        change tIfS _ _ _ _ [some (.ref a), some (.int (i : Nat)), some z, none] _
        have hdrop := fb_drop (n := (rows.length : Int)) (j := 0) ed1
        rw [Nat.zero_add, Nat.zero_add] at hdrop
        refine s_when (b := !rowB (rows.length : Int) (i : Int) dz) (et_not (et_B (ev_call (ea_cons (hlen' (e3.trans e4)) (ea_cons (ev_var rfl) (ea_cons (ev_var rfl) ea_nil))) (spP_v fun H5 e5 => ⟨_, _, z, dz, rfl, ed2.mono ((e3.trans e4).trans e5), rfl⟩)))) (fun hb H5 e5 => ?_) (fun hb H5 e5 => ?_)
        · refine mk_err (ev_var rfl) fun dx H' h0 e' hx => kE' (i : Int) ?_ dx H' (fresh_back ((e3.trans e4).trans e5) h0) (((e3.trans e4).trans e5).trans e') hx
          have hb' : rowB (rows.length : Int) (i : Int) dz = false := by simpa using hb
          unfold due2
          rw [hf, hdrop, hb']
          rfl
        · have hb' : rowB (rows.length : Int) (i : Int) dz = true := by simpa using hb
          refine ⟨(e3.trans e4).trans e5, ⟨_, _, rfl⟩, ?_⟩
          rw [hf, hdrop, hb']
          rfl
      · rintro σ H3 ⟨e3, ⟨o1, o2, rfl⟩, hf⟩
        have hfn : fb (rows.length : Int) 0 rows = none := by
          rw [hf, hxl, List.drop_length]
          rfl
        have hG := fb_Good hfn
        have edue : due2 rows = sb rows 0 rows := by unfold due2; rw [hfn]
        rw [edue] at kN' kE'
        refine s_forEn (K := K) (v0 (H1 := H3)) (st_of (e3 _ _ h1)) (fun i σ H' => Ex H H' ∧ (∃ o1 o2, σ = [some (.ref a), o1, o2, none]) ∧ sb rows 0 rows = sb rows i (rows.drop i)) (fun H4 e4 => ⟨e3.trans e4, ⟨_, _, rfl⟩, rfl⟩) (fun i σ H' _ p => st_of (p.1 _ _ h1)) ?_ ?_
        · rintro i z T σ H5 hz ⟨e5, ⟨p1, p2, rfl⟩, hs⟩ hT
          obtain ⟨dz, ed1, ed2⟩ := h2.get hz
          have e6 : Ex H5 (upd H5 T (.tup [.int (i : Nat), z])) := Ex.new hT
          refine ⟨T, _, rfl, st_of upd_same, rfl, g_two ?_⟩
          change tIfS _ _ _ _ [some (.ref a), some (.int (i : Nat)), some z, none] _
          have hdrop := sb_drop (rows := rows) (j := 0) ed1
          rw [Nat.zero_add, Nat.zero_add] at hdrop
          obtain ⟨ws, ew, lay, hwl, hways, hw0⟩ := row_lay (hG i dz ed1)
          subst ew
          have hwall : ∀ w ∈ ws, wayB (rows.length : Int) (i : Int) w = true := fun w hw => by
            by_cases hi0 : (i : Int) = 0
            · rw [hw0 hi0] at hw
              cases hw
            · exact List.all_eq_true.mp (hways hi0) w hw
          have ed3 := ed2.mono (e5.trans e6)
          cases ed3 with
          | tup hz1 hz2 =>
            rename_i az zs
            have hzl := hz2.length
            refine s_when (b := !ws.all (restB rows)) (et_not (et_B ?_)) (fun hb H7 e7 => ?_) (fun hb H7 e7 => ?_)
            · have q := ev_allT (K := K) (H := upd H5 T (.tup [.int (i : Nat), .ref az])) (j := 3) (vs := [3]) (σ := [some (.ref a), some (.int (i : Nat)), some (.ref az), none]) (tl := tVar 2) (te := tCall spRest [] E0 (tCons (tVar 0) (tCons (tVar 3) tNil))) (fun k => ((ws[k]?).map (restB rows)).getD false) (ev_var rfl) (st_of hz1) (by omega) (fun x => rfl)
                (fun k x H8 e8 hx => by
                  obtain ⟨dx, e9, e10⟩ := hz2.get hx
                  rw [e9]
                  exact ev_call (ea_cons (ev_var rfl) (ea_cons (ev_var rfl) ea_nil)) (spP_v fun H9 e11 => ⟨.ref a, x, rows, dx, (i : Int), rfl, .tup ((((e5.trans e6).trans e8).trans e11) _ _ h1) (h2.mono (((e5.trans e6).trans e8).trans e11)), (e10.mono e8).mono e11, hwall dx (List.mem_of_getElem? e9), hG, rfl⟩))
              rw [hzl, all_get] at q
              exact q
            · refine mk_err (ev_var rfl) fun dx H' h0 e' hx => kE' (i : Int) ?_ dx H' (fresh_back ((e5.trans e6).trans e7) h0) (((e5.trans e6).trans e7).trans e') hx
              have hb' : ws.all (restB rows) = false := by simpa using hb
              rw [hs, hdrop, show (itemsT (.tuple ws)).all (restB rows) = false from hb']
              rfl
            · have hb' : ws.all (restB rows) = true := by simpa using hb
              refine ⟨(e5.trans e6).trans e7, ⟨_, _, rfl⟩, ?_⟩
              rw [hs, hdrop, show (itemsT (.tuple ws)).all (restB rows) = true from hb']
              rfl
        · rintro σ H5 ⟨e5, ⟨p1, p2, rfl⟩, hs⟩
          refine kN' ?_ H5 e5
          rw [hs, hxl, List.drop_length]
          rfl
end
end Wk

set_option Elab.async false
set_option linter.all false
set_option maxRecDepth 100000
set_option maxHeartbeats 2000000
namespace Wk
open PySem PySem.Spec PyProof.Rows L2 Evl
abbrev FnM (K : PySem.W.Frag) (x q : Str) (st : Stmt) (f : Addr) (fd : FuncData) : Prop := FunD K x q (defArgs st) (defBody st) (defScope st) [] [] f fd
/-- the fields of wishes -/
def wf (n : Int) (v : V) : List (Str × V) := putF "_lists" v (putF "size" (.int n) [])
theorem wf_size (n : Int) (v : V) : (wf n v).lookup ("size" : Str) = some (.int n) := by
  unfold wf
  rw [lookup_putF, if_neg (by decide +kernel), lookup_putF, if_pos rfl]
theorem wf_lists (n : Int) (v : V) : (wf n v).lookup ("_lists" : Str) = some v := by
  unfold wf
  rw [lookup_putF, if_pos rfl]
theorem wf_no (n : Int) (v : V) {m : Str} (h1 : ¬ m = "_lists") (h2 : ¬ m = "size") : (wf n v).lookup m = none := by
  unfold wf
  rw [lookup_putF, if_neg h1, lookup_putF, if_neg h2]
  rfl
section
variable {P : Program} {w : World} {K : PySem.W.Frag} {mg : Str → Option Value} {base : Heap} {f : Addr} {fd : FuncData}
abbrev sXN : Stmt := inClass (top 3) 0
abbrev sXB : Stmt := inClass (top 4) 0
theorem scXN : FnScope ["self", "router"] ["self", "router"] (defScope sXN) := ⟨rfl, rfl, rfl, by decide +kernel, rfl, by decide +kernel, by decide +kernel⟩
theorem scXB : FnScope ["self", "router"] ["self", "router"] (defScope sXB) := ⟨rfl, rfl, rfl, by decide +kernel, rfl, by decide +kernel, by decide +kernel⟩
theorem ok_xn {C : Addr} (T : OexC K C) (no : PySem.W.findIn K (.ref C) "router" = some none) (F : FnM K "__init__" "NoRouter.__init__" sXN f fd) : FnOk P w K mg base CX0 1 f fd ["self", "router"] (spXI C) := by
  refine F.ok scXN (fun vs H Q E h => ?_) (fun cdv A outer s H vs Q E hr h => ?_)
  · obtain ⟨a, y, rfl, _⟩ := h
    rfl
  · obtain ⟨a, y, rfl, ha, k⟩ := h
    exact ⟨_, pss_one (ps_ost (pv 0) (pv 1)), y, rfl, .ref a, rfl, a, C, rfl, T, no, .inl ⟨ha, k⟩⟩
theorem ok_xb {C : Addr} (T : OexC K C) (no : PySem.W.findIn K (.ref C) "router" = some none) (F : FnM K "__init__" "BadWishes.__init__" sXB f fd) : FnOk P w K mg base CX0 1 f fd ["self", "router"] (spXI C) := by
  refine F.ok scXB (fun vs H Q E h => ?_) (fun cdv A outer s H vs Q E hr h => ?_)
  · obtain ⟨a, y, rfl, _⟩ := h
    rfl
  · obtain ⟨a, y, rfl, ha, k⟩ := h
    exact ⟨_, pss_one (ps_ost (pv 0) (pv 1)), y, rfl, .ref a, rfl, a, C, rfl, T, no, .inl ⟨ha, k⟩⟩
/-! Wishes.__init__ -/
structure CalX (P : Program) (w : World) (K : PySem.W.Frag) (mg : Str → Option Value) (base : Heap) (x : Str) (ps : List Str) (k : Nat) (sp : Sp) : Prop where
  ex : ∃ (f : Addr) (fd : FuncData), FnOk P w K mg base (L2.CX P w) k f fd ps sp ∧ mg x = some (.ref f) ∧ PySem.W.keepIn K (.ref f) = true ∧ Binds K fd ps []
def spWI (CW CB : Addr) : Sp := fun vs H Q E => ∃ (G : Hp) (p dx : Addr) (v : V) (d : PyData), vs = [.ref p, v] ∧ H p = some (.ins CW dx []) ∧ Ex G H ∧ G p = none ∧ Dq G v d ∧
  (dueD d = none → ∀ H', Ex G H' → H' p = some (.ins CW dx (wf ((itemsT d).length : Int) v)) → Q .non H') ∧ ∀ r, dueD d = some r → ∀ dx H', H dx = none → Ex H H' → H' dx = some (.xd [("router", .int r)]) → E (.ref CB) (some dx) H'
abbrev sWI : Stmt := inClass (top 30) 0
theorem scWI : FnScope ["self", "lists"] ["self", "lists"] (defScope sWI) := ⟨rfl, rfl, rfl, by decide +kernel, rfl, by decide +kernel, by decide +kernel⟩
theorem due_none {d : PyData} (h : dueD d = none) : isTu d = true ∧ 2 ≤ (itemsT d).length ∧ (itemsT d).length ≤ 8 ∧ due2 (itemsT d) = none := by
  unfold dueD at h
  by_cases c : isTu d = true ∧ 2 ≤ (itemsT d).length ∧ (itemsT d).length ≤ 8
  · rw [if_pos c] at h
    exact ⟨c.1, c.2.1, c.2.2, h⟩
  · rw [if_neg c] at h
    cases h
structure WTx (K : PySem.W.Frag) (mg : Str → Option Value) (CW : Addr) : Prop where
  cl : Cls K CW
  nS : NoAttr K CW "size"
  nL : NoAttr K CW "_lists"
  g : mg "Wishes" = some (.ref CW)
theorem ok_wi {CW CB : Addr} (B : Bl mg) (T : WTx K mg CW) (C : CalX P w K mg base "refuse_wrong_lists" ["lists"] 7 (spRefuse CB)) (F : FnM K "__init__" "Wishes.__init__" sWI f fd) : FnOk P w K mg base (L2.CX P w) 8 f fd ["self", "lists"] (spWI CW CB) := by
  obtain ⟨fR, fdR, FR, gR, kR, bR⟩ := C.ex
  refine F.ok scWI (fun vs H Q E h => ?_) (fun cdv A outer s H vs Q E hr h => ?_)
  · obtain ⟨G, p, dx, v, d, rfl, _⟩ := h
    rfl
  · obtain ⟨G, p, dx, v, d, rfl, hp, eG, gp, hd, kN, kE⟩ := h
    refine ⟨_, pss_cons (ps_expr (pe_call FR hr (by rfl) gR kR bR .nil (passes_call (takes_of rfl rfl rfl rfl) (fun _ _ _ _ h => h)) (pa_cons (pv 1) pa_nil)))
      (pss_cons (ps_fld (pv 0) (pe_callB call_len_seq (by rfl) B.len PySem.boot_len (pa_cons (pv 1) pa_nil)) rfl) (pss_one (ps_fld (pv 0) (pv 1) rfl))), ?_⟩
    refine ⟨v, rfl, v, d, rfl, hd.mono eG, fun hn H1 e1 => ?_, kE⟩
    obtain ⟨ht, hl2, hl8, hdu⟩ := due_none hn
    have hp1 := e1 _ _ hp
    have hd1 := hd.mono (eG.trans e1)
    have kN' := kN hn
    cases hd1 <;> first | (simp [isTu] at ht; done) | skip
    rename_i a xs rows h1 h2
    have npa : a ≠ p := fun z => by rw [z, hp1] at h1; cases h1
    refine ⟨.ref a, rfl, a, xs, rfl, .inr (st_of h1), .ref p, rfl, p, CW, dx, [], rfl, hp1, T.cl, T.nS, (by show 0 < 1000; decide), ?_⟩
    refine ⟨.ref a, rfl, .ref p, rfl, p, CW, dx, _, rfl, upd_same, T.cl, T.nL, (by show 1 < 1000; decide), ?_⟩
    refine kN' _ (fun b o hb => ?_) ?_
    · have nb : b ≠ p := fun z => by rw [z, gp] at hb; cases hb
      rw [upd_ne nb, upd_ne nb]
      exact e1 _ _ (eG _ _ hb)
    · rw [upd_same, h2.length]
      rfl
/-! refuse_no_router -/
def spNoRt (CN : Addr) : Sp := fun vs H Q E => ∃ (n : Int) (v : V) (d : PyData), vs = [.int n, v] ∧ Dq H v d ∧ (isR n d = true → ∀ H', Ex H H' → Q .non H') ∧ (isR n d = false → ∀ dx H', H dx = none → Ex H H' → H' dx = some (.xd [("router", v)]) → E (.ref CN) (some dx) H')
abbrev sNoRt : Stmt := top 13
theorem scNoRt : FnScope ["size", "thing"] ["size", "thing"] (defScope sNoRt) := ⟨rfl, rfl, rfl, by decide +kernel, rfl, by decide +kernel, by decide +kernel⟩
theorem ok_noRt {CN : Addr} (TN : Err P w K mg base "NoRouter" CN) (C : Cal P w K mg base "is_router" ["size", "thing"] 3 spRouter) (F : FnP K "refuse_no_router" sNoRt f fd) : FnOk P w K mg base (L2.CX P w) 4 f fd ["size", "thing"] (spNoRt CN) := by
  refine F.ok scNoRt (fun vs H Q E h => ?_) (fun cdv A outer s H vs Q E hr h => ?_)
  · obtain ⟨n, v, d, rfl, _⟩ := h
    rfl
  · obtain ⟨n, v, d, rfl, hd, kQ, kE⟩ := h
    have hr2 : Room 2 _ := hr.mono (by decide)
    refine ⟨_, pss_one (ps_if (pt_not (pt_val (pe_cal C hr (by rfl) (pa_cons (pv 0) (pa_cons (pv 1) pa_nil))))) (pss_one (ps_raise rfl (takes_of rfl rfl rfl rfl) (pmk_err TN hr2 (by rfl) (pa_cons (pv 1) pa_nil)))) pss_nil), ?_⟩
    refine s_when (b := !isR n d) (et_not (et_B (ev_call (ea_cons (ev_var rfl) (ea_cons (ev_var rfl) ea_nil)) (spP_v fun H1 e => ⟨_, v, d, rfl, hd.mono e, rfl⟩)))) (fun hb H1 e => ?_) (fun hb H1 e => ?_)
    · exact mk_err (ev_var rfl) fun dx H' h0 e' hx => kE (by simpa using hb) dx H' (fresh_back e h0) (e.trans e') hx
    · exact kQ (by simpa using hb) H1 e
/-! Wishes.ways -/
def spWays (CW CN : Addr) : Sp := fun vs H Q E => ∃ (p dx : Addr) (lv v : V) (d : PyData) (rows : List PyData), vs = [.ref p, v] ∧ H p = some (.ins CW dx (wf (rows.length : Int) lv)) ∧ Dq H lv (.tuple rows) ∧ Dq H v d ∧
  (isR (rows.length : Int) d = true → ∀ v' row H', rows[(valI d).toNat]? = some row → Dq H v' row → Ex H H' → Q v' H') ∧ (isR (rows.length : Int) d = false → ∀ dx H', H dx = none → Ex H H' → H' dx = some (.xd [("router", v)]) → E (.ref CN) (some dx) H')
abbrev sWays : Stmt := inClass (top 30) 2
theorem scWays : FnScope ["self", "router"] ["self", "router"] (defScope sWays) := ⟨rfl, rfl, rfl, by decide +kernel, rfl, by decide +kernel, by decide +kernel⟩
theorem ok_ways {CW CN : Addr} (T : WTx K mg CW) (C : CalX P w K mg base "refuse_no_router" ["size", "thing"] 4 (spNoRt CN)) (F : FnM K "ways" "Wishes.ways" sWays f fd) : FnOk P w K mg base (L2.CX P w) 5 f fd ["self", "router"] (spWays CW CN) := by
  obtain ⟨fR, fdR, FR, gR, kR, bR⟩ := C.ex
  refine F.ok scWays (fun vs H Q E h => ?_) (fun cdv A outer s H vs Q E hr h => ?_)
  · obtain ⟨p, dx, lv, v, d, rows, rfl, _⟩ := h
    rfl
  · obtain ⟨p, dx, lv, v, d, rows, rfl, hp, hl, hd, kQ, kE⟩ := h
    have hr2 : Room 2 _ := hr.mono (by decide)
    refine ⟨_, pss_cons (ps_expr (pe_call FR hr (by rfl) gR kR bR .nil (passes_call (takes_of rfl rfl rfl rfl) (fun _ _ _ _ h => h)) (pa_cons (pe_fld (pv 0) rfl) (pa_cons (pv 1) pa_nil))))
      (pss_one (ps_ret (pe_ix ix_tup (pe_fld (pv 0) rfl) (pv 1) (fun _ _ => rfl)))), ?_⟩
    have v1 : ∀ {H1 : Hp}, Ev (tVar 1) (start ["self", "router"] [.ref p, v]) H1 v := ev_var rfl
    have fS : Ev (tFld K (tVar 0) "size") (start ["self", "router"] [.ref p, v]) H (.int (rows.length : Int)) := fun H1 e Q2 q => ⟨.ref p, rfl, p, CW, dx, _, _, rfl, e _ _ hp, T.cl, T.nS, wf_size _ _, q H1 (Ex.refl H1)⟩
    refine ⟨.ref p, rfl, p, CW, dx, _, _, rfl, hp, T.cl, T.nS, wf_size _ _, v, rfl, _, v, d, rfl, hd, fun hR H1 e => ?_, fun hb dx' H' h0 e' hx => kE hb dx' H' h0 e' hx⟩
    · skip
      have hR' := hR
      unfold isR at hR'
      simp only [Bool.and_eq_true, decide_eq_true_eq] at hR'
      obtain ⟨hi, h0, hn⟩ := hR'
      have ei := isI_eq hi
      generalize valI d = j at *
      subst ei
      cases hd
      cases hl with
      | tup ha hx =>
        rename_i a xs
        have hjl : j.toNat < rows.length := by omega
        have hrow : rows[j.toNat]? = some rows[j.toNat] := List.getElem?_eq_getElem hjl
        obtain ⟨rv, hrv, hdr⟩ := hx.at hrow
        have hat : atI xs j = some rv := by
          have q := atI_nat (j := j.toNat) hrv
          rw [Int.toNat_of_nonneg h0] at q
          exact q
        have fL : Ev (tFld K (tVar 0) "_lists") (start ["self", "router"] [.ref p, .int j]) H1 (.ref a) := fun H2 e2 Q2 q => ⟨.ref p, rfl, p, CW, dx, _, _, rfl, e2 _ _ (e _ _ hp), T.cl, T.nL, wf_lists _ _, q H2 (Ex.refl H2)⟩
        exact s_ret (ev_op fL v1 (rv_ixT (st_of (e _ _ ha)) hat)) fun H2 e2 => kQ hR rv _ H2 hrow hdr (e.trans e2)
end
end Wk

set_option Elab.async false
set_option linter.all false
set_option maxRecDepth 100000
set_option maxHeartbeats 4000000
namespace Wk
open PySem PySem.Spec PyProof.Rows L2 Evl SeqAt
/-! == of a sequence and the empty one: by the lengths alone -/
section
variable {X : Cx}
def rEqEL (K : PySem.W.Frag) : R2 := fun x y H Q => ∃ a b xs, x = .ref a ∧ y = .ref b ∧ SqL K H a xs ∧ SqL K H b [] ∧ Q (.bl xs.isEmpty) H
theorem op_eqEL (hu : X.A.units < cLine) : OpR X (compareOp .Eq) (rEqEL X.K) := fun pins s σ H x y v u Q I rx ry h => by
  obtain ⟨a, b, xs, rfl, rfl, ha, hb, q⟩ := h
  cases rx
  cases ry
  obtain ⟨its, r1, p1, _⟩ := I.list ha
  obtain ⟨its2, r2, p2, _⟩ := I.list hb
  cases r2
  cases r1 with
  | nil => exact eq_listAt (e := fun _ => true) p1.isList p2.isList rfl hu (fun j h1 _ => absurd h1 (by simp)) ⟨.bl true, H, I, rfl, q⟩
  | cons r rr => exact eq_list_lengthsAt p1.isList p2.isList (by simp) hu ⟨.bl false, H, I, rfl, q⟩
def rEqEU (K : PySem.W.Frag) : R2 := fun x y H Q => ∃ a b xs, x = .ref a ∧ y = .ref b ∧ SqT K H a xs ∧ SqT K H b [] ∧ Q (.bl xs.isEmpty) H
theorem op_eqEU (hu : X.A.units < cLine) : OpR X (compareOp .Eq) (rEqEU X.K) := fun pins s σ H x y v u Q I rx ry h => by
  obtain ⟨a, b, xs, rfl, rfl, ha, hb, q⟩ := h
  cases rx
  cases ry
  obtain ⟨its, r1, p1, _⟩ := I.tuple ha
  obtain ⟨its2, r2, p2, _⟩ := I.tuple hb
  cases r2
  refine eq_tupleAt (e := fun _ => true) p1 p2 hu (fun j _ h2 => absurd h2 (by simp)) ⟨.bl xs.isEmpty, H, I, ?_, q⟩
  cases r1 <;> rfl
def rNeEU (K : PySem.W.Frag) : R2 := fun x y H Q => ∃ a b xs, x = .ref a ∧ y = .ref b ∧ SqT K H a xs ∧ SqT K H b [] ∧ Q (.bl (!xs.isEmpty)) H
theorem op_neEU (hu : X.A.units < cLine) : OpR X (compareOp .NotEq) (rNeEU X.K) := fun pins s σ H x y v u Q I rx ry h => by
  obtain ⟨a, b, xs, rfl, rfl, ha, hb, q⟩ := h
  cases rx
  cases ry
  obtain ⟨its, r1, p1, _⟩ := I.tuple ha
  obtain ⟨its2, r2, p2, _⟩ := I.tuple hb
  cases r2
  refine RcNeAt.tuples (e := fun _ => true) p1 p2 hu (fun j _ h2 => absurd h2 (by simp)) X.prog X.w _ _ ⟨.bl (!xs.isEmpty), H, I, ?_, q⟩
  cases r1 <;> rfl
end
/-! a dict and a tuple are unlike -/
theorem dictEqTup (l b : Addr) (o : Obj) (hoc : o.cls = .type "dict") (its : Array Value) (n : Nat) (dd : Option Addr) (sl : Array (Option Value)) :
    Meets (Builtin.«dict.__eq__» ⟨[.ref l, .ref b], []⟩) (fun _ R s => s.heap.get? l = some o ∧ s.heap.get? b = some { cls := .type "tuple", dict := dd, data := .seq its n, slots := sl } ∧ R (.ok (.ret .notImplemented)) s) :=
  .of_wp fun prog w A R s h => by
    obtain ⟨hp, g, d, tk, os⟩ := s
    obtain ⟨hl, hb, h⟩ := h
    obtain ⟨oc, od, dt, os2⟩ := o
    simp only at hoc
    subst hoc
    have f1 := F.sub_tuple_dict
    wp_walk using wpAny_loadPart' hl, wpAny_loadPart' hb
    exact ⟨_, rfl, h⟩
theorem tupEqDict (l b : Addr) (o : Obj) (hoc : o.cls = .type "dict") (its : Array Value) (n : Nat) (dd : Option Addr) (sl : Array (Option Value)) :
    Meets (Builtin.«tuple.__eq__» ⟨[.ref b, .ref l], []⟩) (fun _ R s => s.heap.get? b = some { cls := .type "tuple", dict := dd, data := .seq its n, slots := sl } ∧ s.heap.get? l = some o ∧ R (.ok (.ret .notImplemented)) s) :=
  .of_wp fun prog w A R s h => by
    obtain ⟨hp, g, d, tk, os⟩ := s
    obtain ⟨hb, hl, h⟩ := h
    obtain ⟨oc, od, dt, os2⟩ := o
    simp only at hoc
    subst hoc
    have f1 := F.sub_dict_tuple
    wp_walk using wpAny_loadPart' hl, wpAny_loadPart' hb
    exact ⟨_, rfl, h⟩
section
variable {A : Around} {s : Shared}
theorem eqAt_dictTup {l b : Addr} {o : Obj} {its : Array Value} (hl : s.heap.get? l = some o) (hoc : o.cls = .type "dict") (hb : s.heap.IsTuple b its) (hu : A.units < cLine) : EqAt A s (.ref l) (.ref b) false := by
  obtain ⟨⟨c2, dd, dt, sl⟩, ho2, hc2, n, hd2⟩ := hb
  simp only at hc2 hd2
  subst hc2 hd2
  have hne : l ≠ b := fun z => by
    rw [z, ho2] at hl
    cases hl
    exact absurd hoc (by simp)
  refine EqAt.of_refs hne fun prog w E Q h => ?_
  exact rc_eq_decline_or (k := false) ⟨_, hl, hoc⟩ ⟨_, ho2, rfl⟩ (by decide) F.sub_tuple_dict F.slot_dict_eq F.slot_tuple_eq_refl
    (fun _ hq => call_meets F.slot_dict_eq ⟨_, hl, hoc⟩ F.entry_dict_eq (F.args_dict_eq_2 _ _) (dictEqTup l b o hoc its n dd sl) ⟨hl, ho2, hq⟩)
    (fun _ hq => call_meets F.slot_tuple_eq_refl ⟨_, ho2, rfl⟩ F.entry_tuple_eq (F.args_tuple_eq_2 _ _) (tupEqDict l b o hoc its n dd sl) ⟨ho2, hl, hq⟩)
    (fun _ hq => wpAny_isSame_ref_other hne hl ho2 (by rw [hoc]; simp) hq) (.inr hu) h
end
/-- an item of an edited row -/
def Itm (d : PyData) : Prop := d = .dict [] ∨ (d.canLay0 = true ∧ d.depth ≤ 8)
section
variable {X : Cx}
/-- x not in l, l a list of such items, x a tuple: a flag -/
def rNotInX (K : PySem.W.Frag) : R2 := fun x y H Q => ∃ a p ds vs es, x = .ref a ∧ y = .ref p ∧ H p = some (.lst vs) ∧ DqA H vs ds ∧ (∀ d ∈ ds, Itm d) ∧ Dq H (.ref a) (.tuple es) ∧ PyData.canLay0 (.tuple es) = true ∧ ∀ b : Bool, Q (.bl b) H
theorem op_notInX (hu : X.A.units + 66 < cLine) : OpR X (compareOp .NotIn) (rNotInX X.K) := fun pins s σ H x y v u Q I rx ry h => by
  obtain ⟨a, p, ds, vs, es, rfl, rfl, hp, hds, hi, hx, cx, q⟩ := h
  cases rx
  cases ry
  obtain ⟨its, r1, p1, _⟩ := I.list (sq_of hp)
  have hxp := hx
  cases hxp with
  | tup h1 h2 =>
    obtain ⟨as, rx⟩ := Dp.reads I (.tuple es) (.ref a) (.ref a) (Dq.dp (K := X.K) cx hx) rfl
    obtain ⟨its2, r2, p2, _⟩ := I.tuple (st_of h1)
    have key : ∀ y ∈ its, ∃ b, EqAt X.A.in1 s y (.ref a) b := fun y hy => by
      obtain ⟨i, hiy⟩ := List.mem_iff_getElem?.mp hy
      have hil : i < vs.length := by
        have := (List.getElem?_eq_some_iff.mp hiy).1
        rw [r1.length]; exact this
      have hv : vs[i]? = some vs[i] := List.getElem?_eq_getElem hil
      obtain ⟨u2, hu2, ru⟩ := r1.get hv
      rw [hiy] at hu2
      cases hu2
      obtain ⟨d, ed, hd⟩ := hds.get hv
      rcases hi d (List.mem_of_getElem? ed) with z | ⟨z, zd⟩
      · subst z
        generalize hvv : vs[i] = vv at *
        cases hd with
        | dic hdd =>
          cases ru
          obtain ⟨_, _, vs2, _, o, es2, ep, g1, g2, _⟩ := (show ObjOk X.prog X.w H s.heap _ (.dK []) from I.hok _ _ hdd)
          exact ⟨false, eqAt_dictTup g1 g2.1 p2 (by show X.A.in1.units < cLine; simp; omega)⟩
      · obtain ⟨bs, ry⟩ := Dp.reads I d vs[i] y (Dq.dp (K := X.K) z hd) ru
        exact ⟨_, eqAt_reads d (.tuple es) X.A.in1 s y (.ref a) bs as ry rx z cx (by
          have hm := Nat.min_le_left d.depth (PyData.tuple es).depth
          show X.A.in1.units + _ < cLine
          simp
          omega)⟩
    have key2 : ∃ e : Value → Bool, ∀ y, y ∈ its.toArray → EqAt X.A.in1 s y (.ref a) (e y) := by
      refine ⟨fun y => @decide (EqAt X.A.in1 s y (.ref a) true) (Classical.propDecidable _), fun y hy => ?_⟩
      obtain ⟨b, hb⟩ := key y (by simpa using hy)
      by_cases c : EqAt X.A.in1 s y (.ref a) true
      · simp only [c, decide_true]
      · simp only [c, decide_false]
        cases b with
        | false => exact hb
        | true => exact absurd hb c
    obtain ⟨e, he⟩ := key2
    exact notIn_listAt e p1.isList he ⟨.bl _, H, I, rfl, q _⟩
end
end Wk

set_option Elab.async false
set_option linter.all false
set_option maxRecDepth 100000
set_option maxHeartbeats 2000000
namespace Wk
open PySem PySem.Spec PyProof.Rows L2 Evl
theorem eqv_ints : ∀ a b : List Int, PyData.eqvAll (a.map PyData.int) (b.map PyData.int) = decide (a = b)
  | [], [] => by simp [PyData.eqvAll]
  | [], _ :: _ => by simp [PyData.eqvAll]
  | _ :: _, [] => by simp [PyData.eqvAll]
  | x :: a, y :: b => by
    have ih := eqv_ints a b
    simp only [List.map_cons, PyData.eqvAll, PyData.eqv, ih]
    by_cases h : x = y
    · subst h; simp
    · have : (x == y) = false := by simpa using h
      simp [this, h]
theorem eqv_way {n r m q : Int} {d e : PyData} (h1 : wayB n r d = true) (h2 : wayB m q e = true) : PyData.eqv d e = decide (rts d = rts e) := by
  have e1 := (way_ints h1).1
  have e2 := (way_ints h2).1
  generalize hx : rts d = a at *
  generalize hy : rts e = b at *
  rw [e1, e2]
  show PyData.eqvAll _ _ = _
  exact eqv_ints a b
theorem inV_ints (x : Int) : ∀ ns : List Int, inV (.int x) (ns.map V.int) = decide (x ∈ ns)
  | [] => rfl
  | n :: ns => by
    have ih := inV_ints x ns
    unfold inV at *
    rw [List.map_cons, List.any_cons, ih]
    show ((n == x) || _) = _
    by_cases h : n = x
    · subst h; simp
    · have : (n == x) = false := by simpa using h
      rw [this]
      simp [Ne.symm h]
theorem cut_to (xs : List V) (i : Nat) (h : i ≤ xs.length) : cutV xs none (some (i : Int)) = xs.take i := by
  unfold cutV
  rw [HT.sIx_none, HT.sIx_nat, Nat.min_eq_left h]
  simp
theorem flat_ints (ns : List Int) : (ns.map V.int).all flatV = true := by
  rw [List.all_map, List.all_eq_true]
  intro x _
  rfl
theorem nd_take {α : Type} : ∀ {l : List α} {i : Nat} {x : α}, l.Nodup → l[i]? = some x → x ∉ l.take i
  | [], i, x, _, h, _ => by simp at h
  | y :: l, 0, x, _, _, hm => by simp at hm
  | y :: l, i + 1, x, hn, h, hm => by
    have hn' := List.nodup_cons.mp hn
    have h' : l[i]? = some x := by simpa using h
    rcases List.mem_cons.mp (show x ∈ y :: l.take i from hm) with e | e
    · exact hn'.1 (e ▸ List.mem_of_getElem? h')
    · exact nd_take hn'.2 h' e
theorem nd_snoc {α : Type} {l : List α} {x : α} (h : l.Nodup) (hx : x ∉ l) : (l ++ [x]).Nodup := by
  unfold List.Nodup
  rw [List.pairwise_append]
  refine ⟨h, List.pairwise_singleton _ _, fun a ha b hb => ?_⟩
  rw [List.mem_singleton] at hb
  intro e
  rw [← hb, ← e] at hx
  exact hx ha
theorem take_snoc {α : Type} {l : List α} {i : Nat} {x : α} (h : l[i]? = some x) : l.take (i + 1) = l.take i ++ [x] := by
  rw [List.take_add_one, h]
  rfl
theorem ev_inS {K : PySem.W.Frag} {σ : L2.St} {H : Hp} {ta tb : TE} {x : V} {xs : List V} (ha : Ev ta σ H x) (hb : EvS tb σ H xs) (hx : flatV x = true) (hf : xs.all flatV = true) : Ev (tOp (rIn K false) ta tb) σ H (.bl (inV x xs)) := fun H1 e Q q =>
  ha H1 e _ fun H2 e2 => hb H2 (e.trans e2) _ fun p H3 e3 hp => ⟨p, xs, rfl, .inr (st_of hp), hx, hf, q H3 (e2.trans e3)⟩
theorem any_rts {n r : Int} {d : PyData} (hd : wayB n r d = true) : ∀ {ds : List PyData}, ds.all (wayB n r) = true → (ds.any fun z => PyData.eqv z d) = decide (rts d ∈ ds.map rts)
  | [], _ => rfl
  | x :: ds, h => by
    have h' : wayB n r x = true ∧ ds.all (wayB n r) = true := by simpa using h
    rw [List.any_cons, any_rts hd h'.2, eqv_way h'.1 hd, List.map_cons]
    by_cases c : rts x = rts d
    · rw [decide_eq_true c, Bool.true_or]
      exact (decide_eq_true (by rw [c]; exact List.mem_cons_self)).symm
    · rw [decide_eq_false c, Bool.false_or]
      rw [decide_eq_decide]
      constructor
      · exact fun z => List.mem_cons_of_mem _ z
      · intro z
        rcases List.mem_cons.mp z with e | e
        · exact absurd e.symm c
        · exact e
theorem way_second {n r : Int} {w : PyData} (h : wayB n r w = true) : (rts w).getD 1 0 = 0 ↔ (rts w).length = 2 := by
  obtain ⟨_, _, h2, _, _, hlast, hnd⟩ := way_ints h
  generalize rts w = ns at *
  cases ns with
  | nil => simp at h2
  | cons a l =>
    cases l with
    | nil => simp at h2
    | cons b l =>
      cases l with
      | nil =>
        simp at hlast
        simp [hlast]
      | cons c l =>
        have hb : b ∉ c :: l := (List.nodup_cons.mp (List.nodup_cons.mp hnd).2).1
        have h0 : (0 : Int) ∈ c :: l := by
          have e : (c :: l).getLast? = some 0 := by
            rw [← hlast]
            simp [List.getLast?_cons_cons]
          exact List.mem_of_getLast? e
        constructor
        · intro z
          have z' : b = 0 := z
          rw [z'] at hb
          exact absurd h0 hb
        · intro z
          simp at z
/-- None, or the router -/
def dueV (o : Option Int) : V := match o with
  | none => .non
  | some r => .int r
/-- plain data: ints, texts, tuples of such -/
inductive Smp : Nat → PyData → Prop
  | int (n : Nat) (i : Int) : Smp n (.int i)
  | str (n : Nat) (z : Str) : Smp n (.str z)
  | tup (n : Nat) (ds : List PyData) : (∀ d ∈ ds, Smp n d) → ds.length ≤ 100 → Smp (n + 1) (.tuple ds)
section
variable {K : PySem.W.Frag} {σ : L2.St} {H : Hp} {ta : TE}
theorem ev_isi2 {v : V} {d : PyData} {n m : String} {b c : Bool} (h : Ev ta σ H v) (hd : Dq H v d) (h1 : kitB (tyN d) n = some b) (h2 : kitB (tyN d) m = some c) :
    Ev (tCB (rIsiT K) (tCons ta (tCons (tTup (tCons (tC (.ty n)) (tCons (tC (.ty m)) tNil))) tNil))) σ H (.bl (b || c)) := fun H1 e Q q =>
  h H1 e _ fun H2 e2 => ⟨by show 2 ≤ sizeLine; decide, fun p hp => ⟨v, p, [.ty n, .ty m], .type (tyN d), [.type n, .type m], b || c, rfl, upd_same, .cons (.ty n) (.cons (.ty m) .nil), (hd.mono ((e.trans e2).trans (Ex.new hp))).ty,
    kitAny_cons (kit_ty h1) (fun hb => kitAny_cons (kit_ty h2) (fun hc => by rw [hb, hc]; exact kitAny_nil) (fun hc => by rw [hc]; simp)) (fun hb => by rw [hb]; rfl), q _ (e2.trans (Ex.new hp))⟩⟩
end
theorem k_tl : kitB "tuple" "list" = some false := by decide +kernel
theorem k_tt : kitB "tuple" "tuple" = some true := by decide +kernel
theorem k_il : kitB "int" "list" = some false := by decide +kernel
theorem k_it : kitB "int" "tuple" = some false := by decide +kernel
theorem k_sl : kitB "str" "list" = some false := by decide +kernel
theorem k_st : kitB "str" "tuple" = some false := by decide +kernel
theorem k_ii : kitB "int" "int" = some true := by decide +kernel
theorem k_ib : kitB "int" "bool" = some false := by decide +kernel
theorem k_si : kitB "str" "int" = some false := by decide +kernel
theorem k_ss : kitB "str" "str" = some true := by decide +kernel
/-! the pool of numbers: the list at p with a count and the list at q of cells; G is what stays -/
structure Pl (G H : Hp) (p q : Addr) : Prop where
  ex : Ex G H
  gp : G p = none
  gq : G q = none
  ne : p ≠ q
  at_ : ∃ (n : Int) (cs : List Int), H p = some (.lst [.int n, .ref q]) ∧ H q = some (.lst (cs.map V.int)) ∧ cs ≠ [] ∧ cs.length ≤ 63
theorem Pl.np {G H : Hp} {p q a : Addr} (h : Pl G H p q) (ha : H a = none) : a ≠ p := fun z => by
  obtain ⟨n, cs, h1, _⟩ := h.at_
  rw [z, h1] at ha
  cases ha
theorem Pl.nq {G H : Hp} {p q a : Addr} (h : Pl G H p q) (ha : H a = none) : a ≠ q := fun z => by
  obtain ⟨n, cs, _, h2, _⟩ := h.at_
  rw [z, h2] at ha
  cases ha
theorem Pl.ext {G H H' : Hp} {p q : Addr} (h : Pl G H p q) (e : Ex H H') : Pl G H' p q := by
  obtain ⟨n, cs, h1, h2, r⟩ := h.at_
  exact ⟨h.ex.trans e, h.gp, h.gq, h.ne, n, cs, e _ _ h1, e _ _ h2, r⟩
/-- a new object that stays -/
theorem Pl.new {G H : Hp} {p q a : Addr} {o : HO} (h : Pl G H p q) (ha : H a = none) : Pl (upd G a o) (upd H a o) p q := by
  obtain ⟨n, cs, h1, h2, r⟩ := h.at_
  have np := h.np ha
  have nq := h.nq ha
  refine ⟨fun b u hb => ?_, by rw [upd_ne (Ne.symm np)]; exact h.gp, by rw [upd_ne (Ne.symm nq)]; exact h.gq, h.ne, n, cs, by rw [upd_ne (Ne.symm np)]; exact h1, by rw [upd_ne (Ne.symm nq)]; exact h2, r⟩
  by_cases c : b = a
  · rw [c, upd_same] at hb ⊢
    exact hb
  · rw [upd_ne c] at hb ⊢
    exact h.ex _ _ hb
/-- an object that does not stay is changed -/
theorem Pl.mut {G H : Hp} {p q a : Addr} {o : HO} (h : Pl G H p q) (ga : G a = none) (np : a ≠ p) (nq : a ≠ q) : Pl G (upd H a o) p q := by
  obtain ⟨n, cs, h1, h2, r⟩ := h.at_
  exact ⟨Ex.mut h.ex ga, h.gp, h.gq, h.ne, n, cs, by rw [upd_ne (Ne.symm np)]; exact h1, by rw [upd_ne (Ne.symm nq)]; exact h2, r⟩
/-- what an object holds now stays for a while -/
theorem Pl.hold {G H : Hp} {p q a : Addr} {o : HO} (h : Pl G H p q) (ha : H a = some o) (np : a ≠ p) (nq : a ≠ q) : Pl (upd G a o) H p q := by
  refine ⟨fun b u hb => ?_, by rw [upd_ne (Ne.symm np)]; exact h.gp, by rw [upd_ne (Ne.symm nq)]; exact h.gq, h.ne, h.at_⟩
  by_cases c : b = a
  · rw [c, upd_same] at hb
    cases hb
    rw [c]
    exact ha
  · rw [upd_ne c] at hb
    exact h.ex _ _ hb
/-- less stays -/
theorem Pl.less {G G' H : Hp} {p q : Addr} (h : Pl G H p q) (e : Ex G' G) : Pl G' H p q := ⟨e.trans h.ex, fresh_back e h.gp, fresh_back e h.gq, h.ne, h.at_⟩
theorem Ex.upd2 {G : Hp} {a : Addr} {o : HO} (h : G a = none) : Ex G (upd G a o) := Ex.new h
/-- all but the pool stays -/
def Off (p q : Addr) (H H' : Hp) : Prop := ∀ b o, b ≠ p → b ≠ q → H b = some o → H' b = some o
theorem Off.refl (p q : Addr) (H : Hp) : Off p q H H := fun _ _ _ _ h => h
theorem Off.trans {p q : Addr} {H H1 H2 : Hp} (a : Off p q H H1) (b : Off p q H1 H2) : Off p q H H2 := fun c o h1 h2 h => b c o h1 h2 (a c o h1 h2 h)
theorem Off.ex {p q : Addr} {H H1 : Hp} (e : Ex H H1) : Off p q H H1 := fun c o _ _ h => e c o h
open Classical in
noncomputable def Hd (H : Hp) (p q : Addr) : Hp := fun b => if b = p ∨ b = q then none else H b
theorem hd_none {H : Hp} {p q a : Addr} (h : Hd H p q a = none) (hp : a ≠ p) (hq : a ≠ q) : H a = none := by
  unfold Hd at h
  rw [if_neg (by simp [hp, hq])] at h
  exact h
theorem Pl.hd {G H : Hp} {p q : Addr} (h : Pl G H p q) : Pl (Hd H p q) H p q :=
  ⟨fun b o hb => by
    unfold Hd at hb
    split at hb
    · cases hb
    · exact hb, by unfold Hd; rw [if_pos (.inl rfl)], by unfold Hd; rw [if_pos (.inr rfl)], h.ne, h.at_⟩
theorem Pl.off {H H' : Hp} {p q : Addr} (h : Pl (Hd H p q) H' p q) : Off p q H H' := fun b o hp hq hb => h.ex b o (by unfold Hd; rw [if_neg (by simp [hp, hq])]; exact hb)
theorem Pl.back {G H H' : Hp} {p q : Addr} (h0 : Pl G H p q) (h : Pl (Hd H p q) H' p q) : Pl G H' p q := h.less fun b o hb => by
  have hp : b ≠ p := fun z => by rw [z, h0.gp] at hb; cases hb
  have hq : b ≠ q := fun z => by rw [z, h0.gq] at hb; cases hb
  unfold Hd
  rw [if_neg (by simp [hp, hq])]
  exact h0.ex _ _ hb
theorem eraseIdx_mp {α β : Type} (f : α → β) : ∀ (l : List α) (k : Nat), (l.map f).eraseIdx k = (l.eraseIdx k).map f
  | [], _ => rfl
  | _ :: _, 0 => rfl
  | x :: l, k + 1 => by
    show f x :: (l.map f).eraseIdx k = f x :: (l.eraseIdx k).map f
    rw [eraseIdx_mp f l k]
theorem seqIx {k n : Nat} (h : k < n) : seqIndex? (k : Int) n = some k := by
  have q := ixN_seq (n := n) (i := (k : Int)) (j := k) (by
    unfold ixN
    rw [if_pos (by omega), if_pos (by omega)]
    simp)
  exact q.1
theorem ix_listK {X : Cx} {K : PySem.W.Frag} (hK : X.K = K) : IxR X (rIxL K) := by
  subst hK
  exact ix_list
theorem ixNat {n : Nat} {x : Int} (h0 : 0 ≤ x) (h1 : x < n) : ixN n x = some x.toNat := by
  unfold ixN
  rw [if_pos h0, if_pos h1]
theorem at_ints {os : List Int} {j : Nat} (h : j < os.length) : atI (os.map V.int) (j : Int) = some (.int os[j]) := atI_nat (by rw [List.getElem?_map, List.getElem?_eq_getElem h]; rfl)
theorem g_name {i : Nat} {x : V} {σ : L2.St} {H : Hp} {k : L2.St → Hp → Prop} (h : k (σ.set i (some x)) H) : gName i x σ H k := h
theorem asg_lst1 {te : TE} {g : TG} {D : Ends} {σ : L2.St} {H : Hp} (h : te σ H fun x H1 => 1 ≤ sizeLine ∧ ∀ b, H1 b = none → g (.ref b) σ (upd H1 b (.lst [x])) D.nx) : tAsg (tLst (tCons te tNil)) g D σ H := h
theorem cb1 {r : List V → Hp → VK → Prop} {ta : TE} {σ : L2.St} {H : Hp} {Q : VK} (h : ta σ H fun x H1 => r [x] H1 Q) : tCB r (tCons ta tNil) σ H Q := h
theorem q_c {i : Nat} {v : V} {tz : TS} {D : Ends} {σ : L2.St} {H : Hp} (h : tz D (σ.set i (some v)) H) : tSeq (tAsg (tC v) (gName i)) tz D σ H := h
theorem call_tupleK {X : Cx} {K : PySem.W.Frag} (hK : X.K = K) : CallR X (.type "tuple") (fun xs H Q => ∃ p ys, xs = [.ref p] ∧ ((SqL K H p ys ∧ ∀ l, H l = none → Q (.ref l) (upd H l (.tup ys))) ∨ (SqT K H p ys ∧ Q (.ref p) H))) := by
  subst hK
  exact call_tuple_of
theorem ret_cb {r : List V → Hp → VK → Prop} {ta : TE} {D : Ends} {σ : L2.St} {H : Hp} (h : ta σ H fun x H1 => r [x] H1 D.rt) : tRet (tCB r (tCons ta tNil)) D σ H := h
/-! what stays grows by new things only -/
structure Gr (p q : Addr) (G H G' H' : Hp) : Prop where
  ex : Ex G G'
  nw : ∀ b, G b = none → H b ≠ none → G' b = none
  off : Off p q H H'
  pl : Pl G' H' p q
theorem Gr.refl {p q : Addr} {G H : Hp} (h : Pl G H p q) : Gr p q G H G H := ⟨Ex.refl _, fun _ h _ => h, Off.refl _ _ _, h⟩
theorem Gr.trans {p q : Addr} {G H G1 H1 G2 H2 : Hp} (a : Gr p q G H G1 H1) (b : Gr p q G1 H1 G2 H2) : Gr p q G H G2 H2 := by
  refine ⟨a.ex.trans b.ex, fun c hc hh => ?_, a.off.trans b.off, b.pl⟩
  by_cases cp : c = p
  · rw [cp]; exact b.pl.gp
  by_cases cq : c = q
  · rw [cq]; exact b.pl.gq
  refine b.nw c (a.nw c hc hh) ?_
  cases hx : H c with
  | none => exact absurd hx hh
  | some o => rw [a.off c o cp cq hx]; simp
theorem Gr.new {p q t : Addr} {G H : Hp} {o : HO} (h : Pl G H p q) (ht : H t = none) : Gr p q G H (upd G t o) (upd H t o) := by
  refine ⟨Ex.new (fresh_back h.ex ht), fun b hb hh => ?_, Off.ex (Ex.new ht), h.new ht⟩
  have nb : b ≠ t := fun z => hh (by rw [z]; exact ht)
  rw [upd_ne nb]
  exact hb
theorem Gr.ext {p q : Addr} {G H H' : Hp} (h : Pl G H p q) (e : Ex H H') : Gr p q G H G H' := ⟨Ex.refl _, fun _ h _ => h, Off.ex e, h.ext e⟩
theorem Gr.draw {p q : Addr} {G H H' : Hp} (h : Pl G H p q) (h' : Pl (Hd H p q) H' p q) : Gr p q G H G H' := ⟨Ex.refl _, fun _ h _ => h, h'.off, h.back h'⟩
/-! displays -/
def EvDt (p q : Addr) (te : TE) (σ : L2.St) (d : PyData) : Prop := ∀ G H, Pl G H p q → ∀ Q : VK, (∀ G' H' v, Gr p q G H G' H' → Dq G' v d → Q v H') → te σ H Q
def EvDA (p q : Addr) (ta : TA) (σ : L2.St) (ds : List PyData) : Prop := ∀ G H, Pl G H p q → ∀ Q : List V → Hp → Prop, (∀ G' H' vs, Gr p q G H G' H' → DqA G' vs ds → Q vs H') → ta σ H Q
section
variable {p q : Addr} {σ : L2.St} {te tb : TE} {ta : TA} {d : PyData} {ds es : List PyData}
theorem ed_c {v : V} (h : ∀ G, Dq G v d) : EvDt p q (tC v) σ d := fun G H hP Q k => k G H v (Gr.refl hP) (h G)
theorem ed_int {i : Nat} {x : Int} (h : σ[i]? = some (some (.int x))) : EvDt p q (tVar i) σ (.int x) := fun G H hP Q k => ⟨.int x, h, k G H _ (Gr.refl hP) (.int x)⟩
theorem ed_nil : EvDA p q tNil σ [] := fun G H hP Q k => k G H [] (Gr.refl hP) .nil
theorem ed_cons (h : EvDt p q te σ d) (hr : EvDA p q ta σ ds) : EvDA p q (tCons te ta) σ (d :: ds) := fun G H hP Q k =>
  h G H hP _ fun G1 H1 v g1 hv => hr G1 H1 g1.pl _ fun G2 H2 vs g2 hvs => k G2 H2 (v :: vs) (g1.trans g2) (.cons (hv.mono g2.ex) hvs)
theorem ed_tup (h : EvDA p q ta σ ds) (hl : ds.length ≤ 1000) : EvDt p q (tTup ta) σ (.tuple ds) := fun G H hP Q k =>
  h G H hP _ fun G1 H1 vs g1 hvs => ⟨by have := hvs.length; rw [sizeLine_eq]; omega, fun t ht => k (upd G1 t (.tup vs)) _ (.ref t) (g1.trans (Gr.new g1.pl ht)) (.tup upd_same (hvs.mono (Gr.new (o := .tup vs) g1.pl ht).ex))⟩
theorem ed_lst (h : EvDA p q ta σ ds) (hl : ds.length ≤ 1000) : EvDt p q (tLst ta) σ (.list ds) := fun G H hP Q k =>
  h G H hP _ fun G1 H1 vs g1 hvs => ⟨by have := hvs.length; rw [sizeLine_eq]; omega, fun t ht => k (upd G1 t (.lst vs)) _ (.ref t) (g1.trans (Gr.new g1.pl ht)) (.lst upd_same (hvs.mono (Gr.new (o := .lst vs) g1.pl ht).ex))⟩
theorem ed_dict : EvDt p q tDNewK σ (.dict []) := fun G H hP Q k t ht => k (upd G t (.dK [])) _ (.ref t) (Gr.new hP ht) (.dic upd_same)
/-- things + [..] -/
theorem ed_cat (G0 : Hp) {v : V} {i : Nat} (hv : σ[i]? = some (some v)) (h0 : Dq G0 v (.list ds)) (hb : EvDt p q tb σ (.list es)) (hl : ds.length + es.length ≤ 1000) {H : Hp} (hP : Pl G0 H p q) {Q : VK} (k : ∀ G' H' v, Gr p q G0 H G' H' → Dq G' v (.list (ds ++ es)) → Q v H') : tOp rCat (tVar i) tb σ H Q := by
  refine ⟨v, hv, hb G0 H hP _ fun G1 H1 u g1 hu => ?_⟩
  have h1 := h0.mono g1.ex
  cases h1 with
  | lst a1 a2 =>
    cases hu with
    | lst b1 b2 =>
      rename_i aa xs ab ys
      have l1 := a2.length
      have l2 := b2.length
      refine ⟨aa, ab, xs, ys, rfl, rfl, g1.pl.ex _ _ a1, g1.pl.ex _ _ b1, by rw [sizeLine_eq]; omega, fun t ht => ?_⟩
      have gn := Gr.new (o := .lst (xs ++ ys)) g1.pl ht
      exact k _ _ (.ref t) (g1.trans gn) (.lst upd_same ((a2.append b2).mono gn.ex))
end
theorem q_asgD {p q : Addr} {i : Nat} {te : TE} {tz : TS} {D : Ends} {σ : L2.St} {G H : Hp} {d : PyData} (h : EvDt p q te σ d) (hP : Pl G H p q) (k : ∀ G' H' v, Gr p q G H G' H' → Dq G' v d → tz D (σ.set i (some v)) H') : tSeq (tAsg te (gName i)) tz D σ H := h G H hP _ k
theorem q_catD {p q : Addr} {i j : Nat} {tb : TE} {tz : TS} {D : Ends} {σ : L2.St} {H : Hp} {ds es : List PyData} (G0 : Hp) {v : V} (hv : σ[i]? = some (some v)) (h0 : Dq G0 v (.list ds)) (hb : EvDt p q tb σ (.list es)) (hl : ds.length + es.length ≤ 1000) (hP : Pl G0 H p q) (k : ∀ G' H' v, Gr p q G0 H G' H' → Dq G' v (.list (ds ++ es)) → tz D (σ.set j (some v)) H') : tSeq (tAsg (tOp rCat (tVar i) tb) (gName j)) tz D σ H := ed_cat G0 hv h0 hb hl hP k
theorem DqA.set {G : Hp} {v : V} {d : PyData} (hv : Dq G v d) : ∀ {ds : List PyData} {vs : List V} (i : Nat), DqA G vs ds → DqA G (vs.set i v) (ds.set i d)
  | [], _, i, .nil => by simp; exact .nil
  | _ :: _, _, 0, .cons h t => .cons hv t
  | _ :: _, _, i + 1, .cons h t => .cons h (DqA.set hv i t)
theorem DqA.erase {G : Hp} : ∀ {ds : List PyData} {vs : List V} (i : Nat), DqA G vs ds → DqA G (vs.eraseIdx i) (ds.eraseIdx i)
  | [], _, i, .nil => by simp; exact .nil
  | _ :: _, _, 0, .cons h t => t
  | _ :: _, _, i + 1, .cons h t => .cons h (DqA.erase i t)
theorem layAll : ∀ {ds : List PyData}, PyData.canLayAll0 ds = true ↔ ∀ d ∈ ds, d.canLay0 = true
  | [] => by simp [PyData.canLayAll0]
  | d :: ds => by
    have ih := layAll (ds := ds)
    simp [PyData.canLayAll0, ih]
theorem depAll {k : Nat} : ∀ {ds : List PyData}, PyData.depthAll ds ≤ k ↔ ∀ d ∈ ds, d.depth ≤ k
  | [] => by simp [PyData.depthAll]
  | d :: ds => by
    have ih := depAll (k := k) (ds := ds)
    simp only [PyData.depthAll, List.mem_cons, forall_eq_or_imp, ← ih]
    omega
theorem cut_from (xs : List V) (i : Nat) (h : i ≤ xs.length) : cutV xs (some (i : Int)) none = xs.drop i := by
  unfold cutV
  rw [HT.sIx_nat, HT.sIx_none, Nat.min_eq_left h]
  exact List.take_of_length_le (by simp)
theorem call_listK {X : Cx} {K : PySem.W.Frag} (hK : X.K = K) : CallR X (.type "list") (rListS K) := by
  subst hK
  exact call_list_of
theorem ret_op {r : R2} {ta tb : TE} {D : Ends} {σ : L2.St} {H : Hp} (h : ta σ H fun x H1 => tb σ H1 fun y H2 => r x y H2 D.rt) : tRet (tOp r ta tb) D σ H := h
theorem call_listK2 {X : Cx} {K : PySem.W.Frag} (hK : X.K = K) : CallR X (.type "list") (fun xs H Q => ∃ p ys, xs = [.ref p] ∧ (SqL K H p ys ∨ SqT K H p ys) ∧ ∀ l, H l = none → Q (.ref l) (upd H l (.lst ys))) := by
  subst hK
  exact call_list_of
theorem smp_ints (ns : List Int) (h : ns.length ≤ 100) : Smp 1 (.tuple (ns.map PyData.int)) := .tup 0 _ (fun d hd => by
  obtain ⟨i, _, rfl⟩ := List.mem_map.mp hd
  exact .int 0 i) (by rw [List.length_map]; exact h)
theorem smp_row {n r : Int} {d : PyData} (h : rowB n r d = true) : Smp 2 d := by
  obtain ⟨ws, rfl, _, hl, h1, h2⟩ := row_lay h
  refine .tup 1 ws (fun w hw => ?_) (by omega)
  by_cases hr : r = 0
  · rw [h2 hr] at hw
    cases hw
  · have := way_ints (List.all_eq_true.mp (h1 hr) w hw)
    rw [this.1]
    exact smp_ints _ (by omega)
theorem due_good {rows : List PyData} (h : dueD (.tuple rows) = none) : 2 ≤ rows.length ∧ rows.length ≤ 8 ∧ Good rows := by
  obtain ⟨_, h1, h2, h3⟩ := due_none h
  refine ⟨h1, h2, ?_⟩
  unfold due2 at h3
  cases hf : fb ((itemsT (.tuple rows)).length : Int) 0 (itemsT (.tuple rows)) with
  | some r => rw [hf] at h3; cases h3
  | none => exact fb_Good hf
/-- for x in a list that is made on the way -/
theorem q_forC {K : PySem.W.Frag} {tl : TE} {g : TG} {tu tz : TS} {D : Ends} {σ : L2.St} {H : Hp} (C : Addr → List V → Hp → Prop) (h : ∀ Q : VK, (∀ l xs H1, C l xs H1 → Q (.ref l) H1) → tl σ H Q)
    (hC : ∀ l xs H1, C l xs H1 → SqL K H1 l xs ∧ ∃ Pv : Nat → L2.St → Hp → Prop, Pv 0 σ H1 ∧ (∀ i σ' H', i ≤ xs.length → Pv i σ' H' → SqL K H' l xs) ∧ (∀ i x σ' H', xs[i]? = some x → Pv i σ' H' → g x σ' H' fun σ2 H2 => tu { D with nx := Pv (i + 1), ct := Pv (i + 1), bk := tz D } σ2 H2) ∧ (∀ σ' H', Pv xs.length σ' H' → tz D σ' H')) : tSeq (tFor (iList K tl) g tu) tz D σ H :=
  h _ fun l xs H1 c => by
    obtain ⟨hs, Pv, h0, hl, ht, hd⟩ := hC l xs H1 c
    exact ⟨l, rfl, ⟨xs, hs⟩, for_list Pv h0 hl ht hd⟩
end Wk

set_option Elab.async false
set_option linter.all false
set_option maxRecDepth 100000
set_option maxHeartbeats 2000000
namespace Wk
open PySem PySem.Spec PyProof.Rows L2 Evl
/-! lists of ways, as plain rows of ints -/
abbrev Wy := List Int
def wd (w : Wy) : PyData := .tuple (w.map PyData.int)
def rd (row : List Wy) : PyData := .tuple (row.map wd)
def pd (rows : List (List Wy)) : PyData := .tuple (rows.map rd)
/-- a way of router r below n -/
structure WyOk (n r : Nat) (w : Wy) : Prop where
  l2 : 2 ≤ w.length
  l8 : w.length ≤ 8
  hd : w[0]? = some (r : Int)
  lt : w.getLast? = some 0
  nd : w.Nodup
  rg : ∀ x ∈ w, 0 ≤ x ∧ x < (n : Int)
/-- good lists -/
structure GW (rows : List (List Wy)) : Prop where
  goal : ∀ row, rows[0]? = some row → row = []
  nd : ∀ (i : Nat) (row : List Wy), rows[i]? = some row → row.Nodup
  ok : ∀ (i : Nat) (row : List Wy), rows[i]? = some row → ∀ w ∈ row, WyOk rows.length i w
  rest : ∀ (i : Nat) (row : List Wy), rows[i]? = some row → ∀ w ∈ row, w.drop 1 = [0] ∨ ∃ (j : Nat) (row' : List Wy), w[1]? = some (j : Int) ∧ rows[j]? = some row' ∧ w.drop 1 ∈ row'
theorem rts_wd (w : Wy) : rts (wd w) = w := by
  simp [rts, wd, itemsT, valI, Function.comp_def]
theorem wayB_of {n r : Nat} {w : Wy} (h : WyOk n r w) : wayB (n : Int) (r : Int) (wd w) = true := by
  have e : (itemsT (wd w)).map valI = w := rts_wd w
  have hl : (itemsT (wd w)).length = w.length := by simp [wd, itemsT]
  have ha : (itemsT (wd w)).all (isR (n : Int)) = true := by
    rw [List.all_eq_true]
    intro d hd
    simp only [wd, itemsT, List.mem_map] at hd
    obtain ⟨x, hx, rfl⟩ := hd
    have := h.rg x hx
    show (true && (decide (0 ≤ x) && decide (x ≤ (n : Int) - 1))) = true
    rw [decide_eq_true this.1, decide_eq_true (show x ≤ (n : Int) - 1 by omega)]
    rfl
  unfold wayB
  rw [e, hl, ha, decide_eq_true h.l2, decide_eq_true h.l8, decide_eq_true h.hd, decide_eq_true h.lt, decide_eq_true h.nd]
  rfl
theorem wd_inj {a b : Wy} (h : wd a = wd b) : a = b := by
  rw [← rts_wd a, ← rts_wd b, h]
theorem map_rts (row : List Wy) : (row.map wd).map rts = row := by
  rw [List.map_map]
  exact (List.map_congr_left fun w _ => rts_wd w).trans (List.map_id row)
theorem rowB_of {rows : List (List Wy)} (h : GW rows) (h6 : ∀ row ∈ rows, row.length ≤ 6) {i : Nat} {row : List Wy} (e : rows[i]? = some row) : rowB (rows.length : Int) (i : Int) (rd row) = true := by
  have hi : itemsT (rd row) = row.map wd := rfl
  have hl : (itemsT (rd row)).length = row.length := by rw [hi, List.length_map]
  unfold rowB
  rw [hl, decide_eq_true (h6 row (List.mem_of_getElem? e)), hi, map_rts]
  by_cases c : (i : Int) = 0
  · rw [if_pos c]
    have i0 : i = 0 := by omega
    subst i0
    rw [h.goal row e]
    rfl
  · rw [if_neg c, decide_eq_true (h.nd i row e)]
    have ha : (row.map wd).all (wayB (rows.length : Int) (i : Int)) = true := by
      rw [List.all_eq_true]
      intro d hd
      obtain ⟨w, hw, rfl⟩ := List.mem_map.mp hd
      exact wayB_of (h.ok i row e w hw)
    rw [ha]
    rfl
theorem eqv_wd (a b : Wy) : PyData.eqv (wd a) (wd b) = decide (a = b) := eqv_ints a b
theorem getD_rows {rows : List (List Wy)} {j : Nat} {row : List Wy} (h : rows[j]? = some row) : (rows.map rd).getD j .none = rd row := by
  rw [List.getD_eq_getElem?_getD, List.getElem?_map, h]
  rfl
theorem restB_of {rows : List (List Wy)} (h : GW rows) {i : Nat} {row : List Wy} (e : rows[i]? = some row) {w : Wy} (hw : w ∈ row) : restB (rows.map rd) (wd w) = true := by
  unfold restB
  rw [rts_wd]
  have ok := h.ok i row e w hw
  rcases h.rest i row e w hw with z | ⟨j, row', h1, h2, h3⟩
  · have e1 : w.getD 1 0 = 0 := by
      have : w[1]? = some 0 := by
        have q : (w.drop 1)[0]? = some 0 := by rw [z]; rfl
        rw [List.getElem?_drop] at q
        exact q
      rw [List.getD_eq_getElem?_getD, this]
      rfl
    rw [e1]
    rfl
  · have e1 : w.getD 1 0 = (j : Int) := by rw [List.getD_eq_getElem?_getD, h1]; rfl
    rw [e1, Int.toNat_natCast, getD_rows h2]
    have : (itemsT (rd row')).any (fun z => PyData.eqv z (.tuple ((w.drop 1).map PyData.int))) = true := by
      rw [List.any_eq_true]
      refine ⟨wd (w.drop 1), List.mem_map.mpr ⟨_, h3, rfl⟩, ?_⟩
      show PyData.eqv (wd (w.drop 1)) (wd (w.drop 1)) = true
      rw [eqv_wd, decide_eq_true rfl]
    rw [this, Bool.or_true]
theorem fb_none {n : Int} : ∀ {ds : List PyData} {j : Nat}, (∀ (i : Nat) (d : PyData), ds[i]? = some d → rowB n ((j + i : Nat) : Int) d = true) → fb n j ds = none
  | [], _, _ => rfl
  | d :: ds, j, h => by
    have h0 := h 0 d rfl
    rw [Nat.add_zero] at h0
    unfold fb
    rw [if_pos h0]
    exact fb_none fun i d' e => by
      have q := h (i + 1) d' (by simpa using e)
      rw [show j + 1 + i = j + (i + 1) by omega]
      exact q
theorem sb_none {rows : List PyData} : ∀ {ds : List PyData} {j : Nat}, (∀ d ∈ ds, (itemsT d).all (restB rows) = true) → sb rows j ds = none
  | [], _, _ => rfl
  | d :: ds, j, h => by
    unfold sb
    rw [if_pos (h d List.mem_cons_self)]
    exact sb_none fun x hx => h x (List.mem_cons_of_mem _ hx)
/-- good lists are let -/
theorem due_pd {rows : List (List Wy)} (h : GW rows) (h2 : 2 ≤ rows.length) (h8 : rows.length ≤ 8) (h6 : ∀ row ∈ rows, row.length ≤ 6) : dueD (pd rows) = none := by
  have hl : (itemsT (pd rows)).length = rows.length := by simp [pd, itemsT]
  unfold dueD
  rw [if_pos ⟨rfl, by rw [hl]; exact h2, by rw [hl]; exact h8⟩]
  unfold due2
  rw [hl]
  have hf : fb (rows.length : Int) 0 (itemsT (pd rows)) = none := fb_none fun i d e => by
    have e' : (rows.map rd)[i]? = some d := e
    rw [List.getElem?_map] at e'
    cases hr : rows[i]? with
    | none => rw [hr] at e'; cases e'
    | some row =>
      rw [hr] at e'
      cases e'
      rw [Nat.zero_add]
      exact rowB_of h h6 hr
  rw [hf]
  refine sb_none fun d hd => ?_
  obtain ⟨row, hr, rfl⟩ := List.mem_map.mp (show d ∈ rows.map rd from hd)
  rw [List.all_eq_true]
  intro x hx
  obtain ⟨w, hw, rfl⟩ := List.mem_map.mp (show x ∈ row.map wd from hx)
  obtain ⟨i, hi⟩ := List.mem_iff_getElem?.mp hr
  exact restB_of h hi hw
/-- an order: 0 first, unlike routers -/
structure OsOk (n : Nat) (os : List Int) : Prop where
  len : os.length = n
  nd : os.Nodup
  hd : os[0]? = some 0
  rg : ∀ x ∈ os, 0 ≤ x ∧ x < (n : Int)
theorem OsOk.ne {n : Nat} {os : List Int} (h : OsOk n os) {i j : Nat} {x : Int} (hi : os[i]? = some x) (hj : os[j]? = some x) : i = j := by
  have hil := (List.getElem?_eq_some_iff.mp hi).1
  exact (List.getElem?_inj hil h.nd).mp (hi.trans hj.symm)
/-- a way more in the row of r -/
theorem gw_add {rows : List (List Wy)} (h : GW rows) {r : Nat} {row : List Wy} (hr : rows[r]? = some row) (h0 : r ≠ 0) {b : Wy} (hb : b = [0] ∨ ∃ (j : Nat) (row' : List Wy), rows[j]? = some row' ∧ b ∈ row') (hn : (r : Int) ∉ b) (hl : b.length ≤ 7) (hw : ((r : Int) :: b) ∉ row) (i : Nat) :
    GW (rows.set r (row.take i ++ [(r : Int) :: b] ++ row.drop i)) := by
  have hrl := (List.getElem?_eq_some_iff.mp hr).1
  have hmem : ∀ w, w ∈ row.take i ++ [(r : Int) :: b] ++ row.drop i ↔ w ∈ row ∨ w = (r : Int) :: b := fun w => by
    have q : w ∈ row ↔ w ∈ row.take i ∨ w ∈ row.drop i := by
      rw [← List.mem_append, List.take_append_drop]
    simp only [List.mem_append, List.mem_singleton, q]
    constructor
    · rintro ((z | z) | z)
      · exact .inl (.inl z)
      · exact .inr z
      · exact .inl (.inr z)
    · rintro ((z | z) | z)
      · exact .inl (.inl z)
      · exact .inr z
      · exact .inl (.inr z)
  have hget : ∀ (k : Nat) (row' : List Wy), (rows.set r (row.take i ++ [(r : Int) :: b] ++ row.drop i))[k]? = some row' → (k = r ∧ row' = row.take i ++ [(r : Int) :: b] ++ row.drop i) ∨ (k ≠ r ∧ rows[k]? = some row') := fun k row' e => by
    by_cases c : r = k
    · subst c
      rw [List.getElem?_set_self hrl] at e
      exact .inl ⟨rfl, (Option.some.inj e).symm⟩
    · rw [List.getElem?_set_ne c] at e
      exact .inr ⟨fun z => c z.symm, e⟩
  have hup : ∀ (k : Nat) (row' : List Wy) (w : Wy), rows[k]? = some row' → w ∈ row' → ∃ row2, (rows.set r (row.take i ++ [(r : Int) :: b] ++ row.drop i))[k]? = some row2 ∧ w ∈ row2 := fun k row' w e hm => by
    by_cases c : r = k
    · subst c
      rw [hr] at e
      cases e
      exact ⟨_, List.getElem?_set_self hrl, (hmem w).mpr (.inl hm)⟩
    · exact ⟨row', by rw [List.getElem?_set_ne c]; exact e, hm⟩
  have hlen : (rows.set r (row.take i ++ [(r : Int) :: b] ++ row.drop i)).length = rows.length := List.length_set ..
  have hbok : WyOk rows.length r ((r : Int) :: b) := by
    have hrg0 : (0 : Int) ≤ r ∧ (r : Int) < rows.length := ⟨by omega, by omega⟩
    rcases hb with rfl | ⟨j, row', hj, hbj⟩
    · refine ⟨by simp, by simp, rfl, rfl, ?_, fun x hx => ?_⟩
      · exact List.nodup_cons.mpr ⟨hn, by simp⟩
      · rcases List.mem_cons.mp hx with z | z
        · rw [z]; exact hrg0
        · rw [List.mem_singleton.mp z]; omega
    · have ok := h.ok j row' hj b hbj
      refine ⟨by have := ok.l2; simp; omega, by simp; omega, rfl, ?_, List.nodup_cons.mpr ⟨hn, ok.nd⟩, fun x hx => ?_⟩
      · cases b with
        | nil => have := ok.l2; simp at this
        | cons y l => rw [List.getLast?_cons_cons]; exact ok.lt
      · rcases List.mem_cons.mp hx with z | z
        · rw [z]; exact hrg0
        · exact ok.rg x z
  refine ⟨fun row' e => ?_, fun k row' e => ?_, fun k row' e w hm => ?_, fun k row' e w hm => ?_⟩
  · rcases hget 0 row' e with ⟨z, _⟩ | ⟨_, z⟩
    · exact absurd z.symm h0
    · exact h.goal row' z
  · rcases hget k row' e with ⟨_, z⟩ | ⟨_, z⟩
    · rw [z]
      have nd := h.nd r row hr
      have p1 : (row.take i ++ [(r : Int) :: b] ++ row.drop i).Perm (((r : Int) :: b) :: row) := by
        have p2 : (row.take i ++ [(r : Int) :: b] ++ row.drop i).Perm ([(r : Int) :: b] ++ row.take i ++ row.drop i) := List.Perm.append_right _ List.perm_append_comm
        have e2 : [(r : Int) :: b] ++ row.take i ++ row.drop i = ((r : Int) :: b) :: row := by
          rw [List.append_assoc, List.take_append_drop]
          rfl
        rw [e2] at p2
        exact p2
      exact p1.nodup_iff.mpr (List.nodup_cons.mpr ⟨hw, nd⟩)
    · exact h.nd k row' z
  · rw [hlen]
    rcases hget k row' e with ⟨z1, z2⟩ | ⟨_, z⟩
    · subst z1
      rw [z2] at hm
      rcases (hmem w).mp hm with y | y
      · exact h.ok k row hr w y
      · rw [y]; exact hbok
    · exact h.ok k row' z w hm
  · have key : ∀ (k' : Nat) (row'' : List Wy), rows[k']? = some row'' → w ∈ row'' → w.drop 1 = [0] ∨ ∃ (j : Nat) (row2 : List Wy), w[1]? = some (j : Int) ∧ (rows.set r (row.take i ++ [(r : Int) :: b] ++ row.drop i))[j]? = some row2 ∧ w.drop 1 ∈ row2 := fun k' row'' e' hm' => by
      rcases h.rest k' row'' e' w hm' with y | ⟨j, row3, y1, y2, y3⟩
      · exact .inl y
      · obtain ⟨row4, y4, y5⟩ := hup j row3 _ y2 y3
        exact .inr ⟨j, row4, y1, y4, y5⟩
    rcases hget k row' e with ⟨z1, z2⟩ | ⟨_, z⟩
    · subst z1
      rw [z2] at hm
      rcases (hmem w).mp hm with y | y
      · exact key k row hr y
      · rw [y]
        rcases hb with rfl | ⟨j, row3, hj, hbj⟩
        · exact .inl rfl
        · obtain ⟨row4, y4, y5⟩ := hup j row3 b hj hbj
          exact .inr ⟨j, row4, by show b[0]? = _; exact (h.ok j row3 hj b hbj).hd, y4, y5⟩
    · exact key k row' z hm
end Wk

set_option Elab.async false
set_option linter.all false
set_option maxRecDepth 100000
set_option maxHeartbeats 2000000
namespace Wk
open PySem PySem.Spec PyProof.Rows L2 Evl
section
variable {P : Program} {w : World} {K : PySem.W.Frag} {mg : Str → Option Value} {base : Heap} {f : Addr} {fd : FuncData}
/-! _law_pool -/
def spPool (K : PySem.W.Frag) : Sp := fun vs H Q _ => ∃ (a : Addr) (ns : List Int), vs = [.ref a] ∧ SqL K H a (ns.map V.int) ∧ ns.length ≤ 63 ∧ ∀ H' p q, Pl H H' p q → Q (.ref p) H'
abbrev nPool : List Str := ["_law_script", "_law_cells", "_law_cell"]
/-! _law_draw -/
def spDraw : Sp := fun vs H Q _ => ∃ (G : Hp) (p q : Addr) (z : Int), vs = [.ref p, .int z] ∧ Pl G H p q ∧ 0 < z ∧ z ≤ 1000 ∧ ∀ H' (i : Int), Pl G H' p q → 0 ≤ i → i < z → Q (.int i) H'
abbrev nDraw : List Str := ["_law_pool_here", "_law_size", "_law_place", "_law_cell", "_law_number"]
theorem modP (a b : Int) (h : 0 < b) : 0 ≤ a % b ∧ a % b < b := ⟨Int.emod_nonneg _ (by omega), Int.emod_lt_of_pos _ h⟩
end
/-- a draw, as a call -/
theorem ev_draw {G H : Hp} {p q : Addr} {z : Int} {Q : VK} (h : Pl G H p q) (hz : 0 < z) (hz2 : z ≤ 1000) (k : ∀ H' (i : Int), Pl G H' p q → Off p q H H' → 0 ≤ i → i < z → Q (.int i) H') (E : XK) : spDraw [.ref p, .int z] H Q E :=
  ⟨Hd H p q, p, q, z, rfl, h.hd, hz, hz2, fun H' i hP h0 h1 => k H' i (h.back hP) hP.off h0 h1⟩
end Wk

set_option Elab.async false
set_option linter.all false
set_option maxRecDepth 100000
set_option maxHeartbeats 2000000
namespace Wk
open PySem PySem.Spec PyProof.Rows L2 Evl
/-! the list at R of the rows' lists -/
structure Rz (G H : Hp) (p q R : Addr) (rs : List Addr) (rows : List (List Wy)) : Prop where
  at_ : H R = some (.lst (rs.map V.ref))
  gR : G R = none
  Rp : R ≠ p
  Rq : R ≠ q
  nin : R ∉ rs
  nd : rs.Nodup
  len : rs.length = rows.length
  row : ∀ (i : Nat) (r : Addr) (row : List Wy), rs[i]? = some r → rows[i]? = some row → G r = none ∧ r ≠ p ∧ r ≠ q ∧ ∃ vs, H r = some (.lst vs) ∧ DqA G vs (row.map wd)
section
variable {G H H' : Hp} {p q R : Addr} {rs : List Addr} {rows : List (List Wy)}
theorem Rz.off (h : Rz G H p q R rs rows) (o : Off p q H H') : Rz G H' p q R rs rows := by
  refine ⟨o _ _ h.Rp h.Rq h.at_, h.gR, h.Rp, h.Rq, h.nin, h.nd, h.len, fun i r row hr hw => ?_⟩
  obtain ⟨g, rp, rq, vs, h1, h2⟩ := h.row i r row hr hw
  exact ⟨g, rp, rq, vs, o _ _ rp rq h1, h2⟩
theorem Rz.ext (h : Rz G H p q R rs rows) (e : Ex H H') : Rz G H' p q R rs rows := h.off (Off.ex e)
theorem Rz.at (h : Rz G H p q R rs rows) {i : Nat} (hi : i < rows.length) : ∃ r, rs[i]? = some r ∧ r ∈ rs := by
  have hl : i < rs.length := by rw [h.len]; exact hi
  exact ⟨rs[i], List.getElem?_eq_getElem hl, List.getElem_mem hl⟩
theorem Rz.mem (h : Rz G H p q R rs rows) {r : Addr} (hr : r ∈ rs) : G r = none ∧ r ≠ p ∧ r ≠ q ∧ ∃ vs, H r = some (.lst vs) := by
  obtain ⟨i, hi⟩ := List.mem_iff_getElem?.mp hr
  have hl := (List.getElem?_eq_some_iff.mp hi).1
  have hl2 : i < rows.length := by rw [← h.len]; exact hl
  obtain ⟨g, rp, rq, vs, h1, _⟩ := h.row i r _ hi (List.getElem?_eq_getElem hl2)
  exact ⟨g, rp, rq, vs, h1⟩
theorem Rz.new {t : Addr} {o : HO} (h : Rz G H p q R rs rows) (ht : H t = none) (gt : G t = none) : Rz (upd G t o) (upd H t o) p q R rs rows := by
  have h2 := h.ext (Ex.new (o := o) ht)
  have nR : R ≠ t := ne_of_none h.at_ ht
  refine ⟨h2.at_, by rw [upd_ne nR]; exact h.gR, h.Rp, h.Rq, h.nin, h.nd, h.len, fun i r row hr hw => ?_⟩
  obtain ⟨g, rp, rq, vs, h1, hd⟩ := h.row i r row hr hw
  have nr : r ≠ t := ne_of_none h1 ht
  exact ⟨by rw [upd_ne nr]; exact g, rp, rq, vs, by rw [upd_ne nr]; exact h1, hd.mono (Ex.new gt)⟩
theorem Rz.grow {G' : Hp} (h : Rz G H p q R rs rows) (e : Ex G G') (gR : G' R = none) (gr : ∀ r ∈ rs, G' r = none) : Rz G' H p q R rs rows := by
  refine ⟨h.at_, gR, h.Rp, h.Rq, h.nin, h.nd, h.len, fun i r row hr hw => ?_⟩
  obtain ⟨g, rp, rq, vs, h1, hd⟩ := h.row i r row hr hw
  exact ⟨gr r (List.mem_of_getElem? hr), rp, rq, vs, h1, hd.mono e⟩
/-- a row is changed -/
theorem Rz.mut {i : Nat} {r : Addr} {row' : List Wy} {vs : List V} (h : Rz G H p q R rs rows) (hr : rs[i]? = some r) (hd : DqA G vs (row'.map wd)) : Rz G (upd H r (.lst vs)) p q R rs (rows.set i row') := by
  have hm := List.mem_of_getElem? hr
  have nR : R ≠ r := fun z => h.nin (by rw [z]; exact hm)
  have hil : i < rs.length := (List.getElem?_eq_some_iff.mp hr).1
  refine ⟨by rw [upd_ne nR]; exact h.at_, h.gR, h.Rp, h.Rq, h.nin, h.nd, by rw [List.length_set]; exact h.len, fun k r2 row2 h2 w2 => ?_⟩
  by_cases c : i = k
  · subst c
    rw [hr] at h2
    cases h2
    rw [List.getElem?_set_self (by rw [← h.len]; exact hil)] at w2
    cases w2
    obtain ⟨g, rp, rq, _⟩ := h.mem hm
    exact ⟨g, rp, rq, vs, upd_same, hd⟩
  · rw [List.getElem?_set_ne c] at w2
    obtain ⟨g, rp, rq, vs2, h3, h4⟩ := h.row k r2 row2 h2 w2
    have nr : r2 ≠ r := fun z => c ((List.getElem?_inj hil h.nd).mp (by rw [hr, h2, z]))
    exact ⟨g, rp, rq, vs2, by rw [upd_ne nr]; exact h3, h4⟩
theorem nodup_set {α : Type} : ∀ {l : List α} {i : Nat} {b : α}, l.Nodup → b ∉ l → (l.set i b).Nodup
  | [], _, _, h, _ => h
  | x :: l, 0, b, h, hb => List.nodup_cons.mpr ⟨fun z => hb (List.mem_cons_of_mem _ z), (List.nodup_cons.mp h).2⟩
  | x :: l, i + 1, b, h, hb => by
    have h' := List.nodup_cons.mp h
    refine List.nodup_cons.mpr ⟨fun z => ?_, nodup_set h'.2 fun z => hb (List.mem_cons_of_mem _ z)⟩
    rcases List.mem_or_eq_of_mem_set z with y | y
    · exact h'.1 y
    · exact hb (by rw [← y]; exact List.mem_cons_self)
/-- a new list in the place of a row -/
theorem Rz.put {i : Nat} {b : Addr} {row' : List Wy} {vs : List V} (hP : Pl G H p q) (h : Rz G H p q R rs rows) (hi : i < rows.length) (hb : H b = none) (hd : DqA G vs (row'.map wd)) :
    Pl G (upd (upd H b (.lst vs)) R (.lst ((rs.map V.ref).set i (.ref b)))) p q ∧ Rz G (upd (upd H b (.lst vs)) R (.lst ((rs.map V.ref).set i (.ref b)))) p q R (rs.set i b) (rows.set i row') := by
  have e : Ex H (upd H b (.lst vs)) := Ex.new hb
  have h2 := h.ext e
  have gb := fresh_back hP.ex hb
  have bR : b ≠ R := Ne.symm (ne_of_none h.at_ hb)
  have hbn : b ∉ rs := fun z => by
    obtain ⟨_, _, _, vs', h1⟩ := h.mem z
    rw [hb] at h1
    cases h1
  have hil : i < rs.length := by rw [h.len]; exact hi
  refine ⟨(hP.ext e).mut h.gR h.Rp h.Rq, by rw [upd_same, List.map_set], h.gR, h.Rp, h.Rq, fun z => ?_, nodup_set h.nd hbn, by rw [List.length_set, List.length_set]; exact h.len, fun k r2 row2 h3 w2 => ?_⟩
  · rcases List.mem_or_eq_of_mem_set z with y | y
    · exact h.nin y
    · exact bR y.symm
  · by_cases c : i = k
    · subst c
      rw [List.getElem?_set_self hil] at h3
      cases h3
      rw [List.getElem?_set_self hi] at w2
      cases w2
      exact ⟨gb, hP.np hb, hP.nq hb, vs, by rw [upd_ne bR, upd_same], hd⟩
    · rw [List.getElem?_set_ne c] at h3 w2
      obtain ⟨g, rp, rq, vs2, h4, h5⟩ := h2.row k r2 row2 h3 w2
      have nr : r2 ≠ R := fun z => h.nin (by rw [← z]; exact List.mem_of_getElem? h3)
      exact ⟨g, rp, rq, vs2, by rw [upd_ne nr]; exact h4, h5⟩
end
theorem erase_perm {α : Type} : ∀ (l : List α) (m : Nat) (h : m < l.length), (l[m] :: l.eraseIdx m).Perm l
  | x :: l, 0, h => List.Perm.refl _
  | x :: l, m + 1, h => by
    have h' : m < l.length := by simpa using h
    exact (List.Perm.swap x l[m] (l.eraseIdx m)).trans ((erase_perm l m h').cons x)
section
variable {P : Program} {w : World} {K : PySem.W.Frag} {mg : Str → Option Value} {base : Heap} {f : Addr} {fd : FuncData}
/-! _law_order -/
def spOrder : Sp := fun vs H Q _ => ∃ (G : Hp) (p q : Addr) (n : Nat), vs = [.ref p, .int (n : Int)] ∧ Pl G H p q ∧ 2 ≤ n ∧ n ≤ 8 ∧ ∀ H' a (os : List Int), Pl G H' p q → Off p q H H' → H a = none → H' a = some (.lst (os.map V.int)) → OsOk n os → Q (.ref a) H'
abbrev nOrder : List Str := ["_law_pool_here", "_law_size", "_law_left", "_law_order_here", "_law_count"]
end
end Wk

set_option Elab.async false
set_option linter.all false
set_option maxRecDepth 100000
set_option maxHeartbeats 2000000
namespace Wk
open PySem PySem.Spec PyProof.Rows L2 Evl
theorem GW.empty {rows : List (List Wy)} (h : ∀ row ∈ rows, row = []) : GW rows := by
  have key : ∀ (i : Nat) (row : List Wy), rows[i]? = some row → row = [] := fun i row e => h row (List.mem_of_getElem? e)
  refine ⟨fun row e => key 0 row e, fun i row e => by rw [key i row e]; exact List.nodup_nil, fun i row e w hw => ?_, fun i row e w hw => ?_⟩
  · rw [key i row e] at hw; cases hw
  · rw [key i row e] at hw; cases hw
/-! how many takings -/
def tks : List (List Wy) → Nat
  | [] => 1
  | r :: rs => (r.length + 1) * tks rs
theorem tks_pos : ∀ rows : List (List Wy), 1 ≤ tks rows
  | [] => Nat.le_refl 1
  | r :: rs => Nat.mul_pos (Nat.succ_pos _) (tks_pos rs)
theorem tks_set : ∀ {rows : List (List Wy)} {i : Nat} {row row' : List Wy}, rows[i]? = some row → tks (rows.set i row') * (row.length + 1) = tks rows * (row'.length + 1)
  | [], _, _, _, h => by simp at h
  | r :: rs, 0, row, row', h => by
    have e : r = row := by simpa using h
    subst e
    show (row'.length + 1) * tks rs * (r.length + 1) = (r.length + 1) * tks rs * (row'.length + 1)
    rw [Nat.mul_comm (row'.length + 1), Nat.mul_assoc, Nat.mul_comm (row'.length + 1), ← Nat.mul_assoc, Nat.mul_comm (tks rs)]
  | r :: rs, i + 1, row, row', h => by
    have h' : rs[i]? = some row := by simpa using h
    show (r.length + 1) * tks (rs.set i row') * (row.length + 1) = (r.length + 1) * tks rs * (row'.length + 1)
    rw [Nat.mul_assoc, tks_set h', ← Nat.mul_assoc]
theorem tks_set_le {rows : List (List Wy)} {i : Nat} {row' : List Wy} (hi : i < rows.length) : tks (rows.set i row') ≤ tks rows * (row'.length + 1) := by
  have h := tks_set (row' := row') (List.getElem?_eq_getElem hi)
  have h1 : tks (rows.set i row') * 1 ≤ tks (rows.set i row') * (rows[i].length + 1) := Nat.mul_le_mul_left _ (by omega)
  omega
theorem tks_empty : ∀ {rows : List (List Wy)}, (∀ row ∈ rows, row = []) → tks rows = 1
  | [], _ => rfl
  | r :: rs, h => by
    have e := h r List.mem_cons_self
    subst e
    show (0 + 1) * tks rs = 1
    rw [tks_empty fun x hx => h x (List.mem_cons_of_mem _ hx)]
theorem tks_append : ∀ (a b : List (List Wy)), tks (a ++ b) = tks a * tks b
  | [], b => by show tks b = 1 * tks b; rw [Nat.one_mul]
  | r :: a, b => by
    show (r.length + 1) * tks (a ++ b) = (r.length + 1) * tks a * tks b
    rw [tks_append a b, Nat.mul_assoc]
theorem tks_take {rows : List (List Wy)} {i : Nat} {row : List Wy} (h : rows[i]? = some row) : tks (rows.take (i + 1)) = tks (rows.take i) * (row.length + 1) := by
  rw [take_snoc h, tks_append]
  show _ * ((row.length + 1) * 1) = _
  rw [Nat.mul_one]
def tkM (n : Nat) : Nat := if n ≤ 6 then 81 else 128
/-- a ring that is being planted -/
structure RingI (n many : Nat) (os : List Int) (i : Nat) (rows : List (List Wy)) : Prop where
  len : rows.length = n
  shape : ∀ (j : Nat) (row : List Wy), rows[j]? = some row → row = [] ∨ ∃ (k : Nat) (x y : Int), 1 ≤ k ∧ k ≤ many ∧ os[k]? = some x ∧ os[k % many + 1]? = some y ∧ x = (j : Int) ∧ row = [[x, y, 0], [x, 0]]
  done : ∀ (k : Nat) (x : Int), 1 ≤ k → k ≤ i → os[k]? = some x → ∃ row, rows[x.toNat]? = some row ∧ [x, 0] ∈ row
  tk : tks rows ≤ 3 ^ i
theorem ring_start {n many : Nat} {os : List Int} {rows : List (List Wy)} (hl : rows.length = n) (h : ∀ row ∈ rows, row = []) : RingI n many os 0 rows :=
  ⟨hl, fun j row e => .inl (h row (List.mem_of_getElem? e)), fun k x h1 h2 => by omega, by rw [tks_empty h]; decide⟩
theorem ring_turn {n many : Nat} {os : List Int} {i : Nat} {rows : List (List Wy)} (ho : OsOk n os) (h : RingI n many os i rows) (hi : i + 1 ≤ many) {x y : Int} (hx : os[i + 1]? = some x) (hy : os[(i + 1) % many + 1]? = some y) : RingI n many os (i + 1) (rows.set x.toNat [[x, y, 0], [x, 0]]) := by
  have rx := ho.rg x (List.mem_of_getElem? hx)
  have hxl : x.toNat < rows.length := by rw [h.len]; omega
  refine ⟨by rw [List.length_set]; exact h.len, fun j row e => ?_, fun k z h1 h2 hz => ?_, by
    have z := tks_set_le (row' := [[x, y, 0], [x, 0]]) hxl
    have z2 := h.tk
    have e3 : ([[x, y, 0], [x, 0]] : List Wy).length + 1 = 3 := rfl
    rw [e3] at z
    rw [Nat.pow_succ]
    omega⟩
  · by_cases c : x.toNat = j
    · subst c
      rw [List.getElem?_set_self hxl] at e
      exact .inr ⟨i + 1, x, y, by omega, hi, hx, hy, by omega, (Option.some.inj e).symm⟩
    · rw [List.getElem?_set_ne c] at e
      exact h.shape j row e
  · by_cases c : k = i + 1
    · subst c
      rw [hx] at hz
      cases hz
      exact ⟨_, List.getElem?_set_self hxl, by simp⟩
    · obtain ⟨row, e1, e2⟩ := h.done k z h1 (by omega) hz
      have rz := ho.rg z (List.mem_of_getElem? hz)
      have ne : x.toNat ≠ z.toNat := fun q => c (ho.ne hz (by rw [hx]; congr 1; omega))
      exact ⟨row, by rw [List.getElem?_set_ne ne]; exact e1, e2⟩
theorem ring_end {n many : Nat} {os : List Int} {rows : List (List Wy)} (ho : OsOk n os) (h2 : 2 ≤ many) (hn : many + 1 ≤ n) (h : RingI n many os many rows) : GW rows ∧ ∀ row ∈ rows, row.length ≤ 2 := by
  have idx : ∀ k, 1 ≤ k → k ≤ many → 1 ≤ k % many + 1 ∧ k % many + 1 ≤ many ∧ k % many + 1 ≠ k := fun k k1 k2 => by
    by_cases c : k = many
    · subst c
      rw [Nat.mod_self]
      omega
    · rw [Nat.mod_eq_of_lt (by omega)]
      omega
  have nz : ∀ (k : Nat) (x : Int), 1 ≤ k → os[k]? = some x → x ≠ 0 := fun k x k1 hx z => by
    rw [z] at hx
    have := ho.ne hx ho.hd
    omega
  refine ⟨⟨fun row e => ?_, fun i row e => ?_, fun i row e w hw => ?_, fun i row e w hw => ?_⟩, fun row hr => ?_⟩
  · rcases h.shape 0 row e with z | ⟨k, x, y, k1, k2, hx, hy, e1, e2⟩
    · exact z
    · exact absurd e1 (nz k x k1 hx)
  · rcases h.shape i row e with z | ⟨k, x, y, k1, k2, hx, hy, e1, e2⟩
    · rw [z]; exact List.nodup_nil
    · rw [e2]
      simp
  · rcases h.shape i row e with z | ⟨k, x, y, k1, k2, hx, hy, e1, e2⟩
    · rw [z] at hw; cases hw
    · obtain ⟨m1, m2, m3⟩ := idx k k1 k2
      have x0 := nz k x k1 hx
      have y0 := nz _ y m1 hy
      have xy : x ≠ y := fun z => m3 (ho.ne hy (by rw [hx, z]))
      have rx := ho.rg x (List.mem_of_getElem? hx)
      have ry := ho.rg y (List.mem_of_getElem? hy)
      rw [h.len]
      rw [e2] at hw
      rcases List.mem_cons.mp hw with z | z
      · rw [z]
        refine ⟨by simp, by simp, by simp [e1], rfl, by simp [xy, x0, y0], fun u hu => ?_⟩
        simp only [List.mem_cons, List.not_mem_nil, or_false] at hu
        rcases hu with rfl | rfl | rfl <;> omega
      · rw [List.mem_singleton.mp z]
        refine ⟨by simp, by simp, by simp [e1], rfl, by simp [x0], fun u hu => ?_⟩
        simp only [List.mem_cons, List.not_mem_nil, or_false] at hu
        rcases hu with rfl | rfl <;> omega
  · rcases h.shape i row e with z | ⟨k, x, y, k1, k2, hx, hy, e1, e2⟩
    · rw [z] at hw; cases hw
    · obtain ⟨m1, m2, m3⟩ := idx k k1 k2
      have ry := ho.rg y (List.mem_of_getElem? hy)
      rw [e2] at hw
      rcases List.mem_cons.mp hw with z | z
      · rw [z]
        obtain ⟨row', r1, r2⟩ := h.done _ y m1 m2 hy
        refine .inr ⟨y.toNat, row', ?_, r1, r2⟩
        show some y = some ((y.toNat : Nat) : Int)
        congr 1
        omega
      · rw [List.mem_singleton.mp z]
        exact .inl rfl
  · obtain ⟨i, hi⟩ := List.mem_iff_getElem?.mp hr
    rcases h.shape i row hi with z | ⟨k, x, y, k1, k2, hx, hy, e1, e2⟩
    · rw [z]; simp
    · rw [e2]; simp
/-- a chain that is being planted -/
def chn (os : List Int) (k : Nat) : Wy := (os.take (k + 1)).reverse
structure ChI (n : Nat) (os : List Int) (i : Nat) (rows : List (List Wy)) : Prop where
  len : rows.length = n
  shape : ∀ (j : Nat) (row : List Wy), rows[j]? = some row → row = [] ∨ ∃ (k : Nat) (x : Int), 1 ≤ k ∧ k ≤ i ∧ os[k]? = some x ∧ x = (j : Int) ∧ row = [chn os k]
  done : ∀ (k : Nat) (x : Int), 1 ≤ k → k ≤ i → os[k]? = some x → rows[x.toNat]? = some [chn os k]
  tk : tks rows ≤ 2 ^ i
theorem ch_start {n : Nat} {os : List Int} {rows : List (List Wy)} (hl : rows.length = n) (h : ∀ row ∈ rows, row = []) : ChI n os 0 rows :=
  ⟨hl, fun j row e => .inl (h row (List.mem_of_getElem? e)), fun k x h1 h2 => by omega, by rw [tks_empty h]; decide⟩
theorem ch_turn {n : Nat} {os : List Int} {i : Nat} {rows : List (List Wy)} (ho : OsOk n os) (h : ChI n os i rows) {x : Int} (hx : os[i + 1]? = some x) : ChI n os (i + 1) (rows.set x.toNat [chn os (i + 1)]) := by
  have rx := ho.rg x (List.mem_of_getElem? hx)
  have hxl : x.toNat < rows.length := by rw [h.len]; omega
  refine ⟨by rw [List.length_set]; exact h.len, fun j row e => ?_, fun k z h1 h2 hz => ?_, by
    have z := tks_set_le (row' := [chn os (i + 1)]) hxl
    have z2 := h.tk
    have e3 : ([chn os (i + 1)] : List Wy).length + 1 = 2 := rfl
    rw [e3] at z
    rw [Nat.pow_succ]
    omega⟩
  · by_cases c : x.toNat = j
    · subst c
      rw [List.getElem?_set_self hxl] at e
      exact .inr ⟨i + 1, x, by omega, by omega, hx, by omega, (Option.some.inj e).symm⟩
    · rw [List.getElem?_set_ne c] at e
      rcases h.shape j row e with z | ⟨k, y, k1, k2, r⟩
      · exact .inl z
      · exact .inr ⟨k, y, k1, by omega, r⟩
  · by_cases c : k = i + 1
    · subst c
      rw [hx] at hz
      cases hz
      exact List.getElem?_set_self hxl
    · have e1 := h.done k z h1 (by omega) hz
      have rz := ho.rg z (List.mem_of_getElem? hz)
      have ne : x.toNat ≠ z.toNat := fun q => c (ho.ne hz (by rw [hx]; congr 1; omega))
      rw [List.getElem?_set_ne ne]
      exact e1
theorem chn_len {os : List Int} {k : Nat} (h : k < os.length) : (chn os k).length = k + 1 := by
  unfold chn
  rw [List.length_reverse, List.length_take]
  omega
theorem chn_get {os : List Int} {k i : Nat} (h : k < os.length) (hi : i ≤ k) : (chn os k)[i]? = os[k - i]? := by
  unfold chn
  rw [List.getElem?_reverse (by rw [List.length_take]; omega), List.length_take, Nat.min_eq_left (by omega), List.getElem?_take, if_pos (by omega)]
  congr 1
theorem chn_drop {os : List Int} {k : Nat} (h : k + 1 < os.length) : (chn os (k + 1)).drop 1 = chn os k := by
  have e : os.take (k + 1 + 1) = os.take (k + 1) ++ [os[k + 1]] := by
    rw [List.take_add_one, List.getElem?_eq_getElem h]
    rfl
  unfold chn
  rw [e, List.reverse_append]
  rfl
theorem ch_end {n : Nat} {os : List Int} {i : Nat} {rows : List (List Wy)} (ho : OsOk n os) (h8 : n ≤ 8) (h : ChI n os i rows) : GW rows ∧ ∀ row ∈ rows, row.length ≤ 2 := by
  have nz : ∀ (k : Nat) (x : Int), 1 ≤ k → os[k]? = some x → x ≠ 0 := fun k x k1 hx z => by
    rw [z] at hx
    have := ho.ne hx ho.hd
    omega
  have hol := ho.len
  refine ⟨⟨fun row e => ?_, fun i row e => ?_, fun i row e w hw => ?_, fun i row e w hw => ?_⟩, fun row hr => ?_⟩
  · rcases h.shape 0 row e with z | ⟨k, x, k1, k2, hx, e1, e2⟩
    · exact z
    · exact absurd e1 (nz k x k1 hx)
  · rcases h.shape i row e with z | ⟨k, x, k1, k2, hx, e1, e2⟩
    · rw [z]; exact List.nodup_nil
    · rw [e2]
      simp
  · rcases h.shape i row e with z | ⟨k, x, k1, k2, hx, e1, e2⟩
    · rw [z] at hw; cases hw
    · have hk := (List.getElem?_eq_some_iff.mp hx).1
      rw [h.len]
      rw [e2] at hw
      rw [List.mem_singleton.mp hw]
      refine ⟨by rw [chn_len hk]; omega, by rw [chn_len hk]; omega, by rw [chn_get hk (Nat.zero_le k), Nat.sub_zero, hx, e1], ?_, ?_, fun u hu => ?_⟩
      · rw [List.getLast?_eq_getElem?, chn_len hk, chn_get hk (by omega), show k - (k + 1 - 1) = 0 by omega]
        exact ho.hd
      · unfold chn List.Nodup
        rw [List.pairwise_reverse]
        exact ((List.take_sublist (k + 1) os).nodup ho.nd).imp (fun h e => h e.symm)
      · unfold chn at hu
        exact ho.rg u (List.mem_of_mem_take (List.mem_reverse.mp hu))
  · rcases h.shape i row e with z | ⟨k, x, k1, k2, hx, e1, e2⟩
    · rw [z] at hw; cases hw
    · have hk := (List.getElem?_eq_some_iff.mp hx).1
      rw [e2] at hw
      rw [List.mem_singleton.mp hw]
      obtain ⟨k', rfl⟩ : ∃ k', k = k' + 1 := ⟨k - 1, by omega⟩
      by_cases c : k' = 0
      · subst c
        left
        rw [chn_drop hk]
        cases os with
        | nil => simp at hk
        | cons a l =>
          have := ho.hd
          simp at this
          simp [chn, this]
      · right
        have hk' : k' < os.length := by omega
        have hy : os[k']? = some os[k'] := List.getElem?_eq_getElem hk'
        have ry := ho.rg _ (List.mem_of_getElem? hy)
        refine ⟨(os[k']).toNat, [chn os k'], ?_, h.done k' _ (by omega) (by omega) hy, by rw [chn_drop hk]; exact List.mem_singleton.mpr rfl⟩
        rw [chn_get hk (by omega), show k' + 1 - 1 = k' by omega, hy]
        congr 1
        omega
  · obtain ⟨j, hj⟩ := List.mem_iff_getElem?.mp hr
    rcases h.shape j row hj with z | ⟨k, x, k1, k2, hx, e1, e2⟩
    · rw [z]; simp
    · rw [e2]; simp
theorem chn_range {os : List Int} {i : Nat} (h : 1 + i < os.length) : (List.range (1 + (i : Int) + 1).toNat).map (fun s => os.getD (1 + i - s) 0) = chn os (i + 1) := by
  apply List.ext_getElem?
  intro j
  have e : (1 + (i : Int) + 1).toNat = i + 2 := by omega
  rw [e, List.getElem?_map]
  by_cases c : j < i + 2
  · rw [List.getElem?_range c, chn_get (by omega) (by omega)]
    have hl : 1 + i - j < os.length := by omega
    show some (os.getD (1 + i - j) 0) = os[i + 1 - j]?
    rw [List.getD_eq_getElem?_getD, show i + 1 - j = 1 + i - j by omega, List.getElem?_eq_getElem hl]
    rfl
  · rw [List.getElem?_eq_none (by simp; omega), List.getElem?_eq_none (by rw [chn_len (by omega)]; omega)]
    rfl
theorem tk_ring {rows : List (List Wy)} {n many : Nat} (h : tks rows ≤ 3 ^ many) (h4 : many ≤ 4) : tks rows ≤ tkM n := by
  have : (3 : Nat) ^ many ≤ 3 ^ 4 := Nat.pow_le_pow_right (by decide) h4
  have e : (3 : Nat) ^ 4 = 81 := by decide
  unfold tkM
  split <;> omega
theorem tk_ch {rows : List (List Wy)} {n i : Nat} (h8 : n ≤ 8) (hi : i + 1 ≤ n) (h : tks rows ≤ 2 ^ i) : tks rows ≤ tkM n := by
  unfold tkM
  split
  · have : (2 : Nat) ^ i ≤ 2 ^ 5 := Nat.pow_le_pow_right (by decide) (by omega)
    have e : (2 : Nat) ^ 5 = 32 := by decide
    omega
  · have : (2 : Nat) ^ i ≤ 2 ^ 7 := Nat.pow_le_pow_right (by decide) (by omega)
    have e : (2 : Nat) ^ 7 = 128 := by decide
    omega
section
variable {P : Program} {w : World} {K : PySem.W.Frag} {mg : Str → Option Value} {base : Heap} {f : Addr} {fd : FuncData}
/-! _law_planted -/
def spPlanted : Sp := fun vs H Q _ => ∃ (G : Hp) (p q : Addr) (n : Nat), vs = [.ref p, .int (n : Int)] ∧ Pl G H p q ∧ 2 ≤ n ∧ n ≤ 8 ∧ ∀ G' H' R rs rows, Ex G G' → Pl G' H' p q → Rz G' H' p q R rs rows → rows.length = n → GW rows → (∀ row ∈ rows, row.length ≤ 2) → tks rows ≤ tkM n → Q (.ref R) H'
abbrev nPlanted : List Str := ["_law_pool_here", "_law_size", "_law_lists_here", "_law_kind", "_law_order_here", "_law_many", "_law_k", "_law_router", "_law_step"]
end
end Wk

set_option Elab.async false
set_option linter.all false
set_option maxRecDepth 100000
set_option maxHeartbeats 2000000
namespace Wk
open PySem PySem.Spec PyProof.Rows L2 Evl
theorem lay_wds (ws : List Wy) : PyData.canLayAll0 (ws.map wd) = true := layAll.mpr fun d hd => by
  obtain ⟨w, _, rfl⟩ := List.mem_map.mp hd
  simp [wd, PyData.canLay0, lay_ints]
theorem dep_wds (ws : List Wy) : PyData.depthAll (ws.map wd) ≤ 1 := depAll.mpr fun d hd => by
  obtain ⟨w, _, rfl⟩ := List.mem_map.mp hd
  simp [wd, PyData.depth, depth_ints]
theorem shaped_wds (ws : List Wy) : SeqAt.shaped (.list (ws.map wd)) = true := by
  unfold SeqAt.shaped
  have h1 := lay_wds ws
  have h2 := dep_wds ws
  have : decide ((PyData.list (ws.map wd)).depth ≤ 64) = true := decide_eq_true (by simp only [PyData.depth]; omega)
  rw [this]
  simp [PyData.canLay0, h1]
theorem any_wd (ws : List Wy) (x : Wy) : ((ws.map wd).any fun z => PyData.eqv z (wd x)) = decide (x ∈ ws) := by
  induction ws with
  | nil => rfl
  | cons a l ih =>
    rw [List.map_cons, List.any_cons, ih, eqv_wd]
    by_cases h : a = x
    · subst h; simp
    · rw [decide_eq_false h, Bool.false_or, decide_eq_decide]
      constructor
      · exact fun z => List.mem_cons_of_mem _ z
      · intro z
        rcases List.mem_cons.mp z with e | e
        · exact absurd e.symm h
        · exact e
theorem DqA.wds_inv {G : Hp} : ∀ {ws : List Wy} {vs : List V} {i : Nat} {v : V}, DqA G vs (ws.map wd) → vs[i]? = some v → ∃ w, ws[i]? = some w ∧ Dq G v (wd w) := fun {ws vs i v} h e => by
  obtain ⟨d, e1, e2⟩ := h.get e
  rw [List.getElem?_map] at e1
  cases hw : ws[i]? with
  | none => rw [hw] at e1; cases e1
  | some w =>
    rw [hw] at e1
    cases e1
    exact ⟨w, rfl, e2⟩
theorem wd_ref {G : Hp} {v : V} {w : Wy} (h : Dq G v (wd w)) : ∃ a, v = .ref a ∧ G a = some (.tup (w.map V.int)) := by
  unfold wd at h
  cases h with
  | tup h1 h2 => exact ⟨_, rfl, by rw [h1, h2.int_inv]⟩
theorem wd_of {G : Hp} {a : Addr} {w : Wy} (h : G a = some (.tup (w.map V.int))) : Dq G (.ref a) (wd w) := .tup h (DqA.ints w)
theorem tk_cap {a b l l' : Nat} {cap : Int} (h : a * (l + 1) = b * (l' + 1)) (hl : l' = l + 1) (hc : (b : Int) / ((l : Int) + 1) * ((l : Int) + 2) ≤ cap) : (a : Int) ≤ cap := by
  subst hl
  have h2 : (a : Int) * ((l : Int) + 1) = (b : Int) * ((l : Int) + 2) := by
    have z : ((a * (l + 1) : Nat) : Int) = ((b * (l + 1 + 1) : Nat) : Int) := by rw [h]
    rw [Int.natCast_mul, Int.natCast_mul] at z
    exact z
  generalize (a : Int) = A at *
  generalize (b : Int) = B at *
  generalize hL : (l : Int) = L at *
  have hL0 : 0 ≤ L := by omega
  have e1 : A * (L + 1) = A * L + A := by rw [Int.mul_add, Int.mul_one]
  have e2 : B * (L + 2) = B * L + B * 2 := by rw [Int.mul_add]
  have e3 : (A - B) * (L + 1) = A * L - B * L + (A - B) := by rw [Int.mul_add, Int.mul_one, Int.sub_mul]
  have e4 : (A - B) * (L + 2) = A * L - B * L + (A - B) * 2 := by rw [Int.mul_add, Int.sub_mul]
  have hB : B = (A - B) * (L + 1) := by omega
  have hd : B / (L + 1) = A - B := by
    conv => lhs; rw [hB]
    exact Int.mul_ediv_cancel _ (by omega)
  rw [hd, e4] at hc
  omega
/-- what may stand behind a new router -/
def Bs (rows : List (List Wy)) (b : Wy) : Prop := b = [0] ∨ ∃ (j : Nat) (row' : List Wy), rows[j]? = some row' ∧ b ∈ row'
section
variable {P : Program} {w : World} {K : PySem.W.Frag} {mg : Str → Option Value} {base : Heap} {f : Addr} {fd : FuncData}
/-! _law_add -/
def spAdd : Sp := fun vs H Q _ => ∃ (G : Hp) (p q R : Addr) (rs : List Addr) (rows : List (List Wy)) (L : Nat) (cap : Int), vs = [.ref p, .ref R, .int (L : Int), .int cap] ∧ Pl G H p q ∧ Rz G H p q R rs rows ∧ 2 ≤ rows.length ∧ rows.length ≤ 8 ∧ L ≤ 6 ∧ GW rows ∧ (∀ row ∈ rows, row.length ≤ L) ∧
  ∀ G' H' rows', Ex G G' → Pl G' H' p q → Rz G' H' p q R rs rows' → rows'.length = rows.length → GW rows' → (∀ row ∈ rows', row.length ≤ L) → ((tks rows : Int) ≤ cap → (tks rows' : Int) ≤ cap) → Q .non H'
abbrev nAdd : List Str := ["_law_pool_here", "_law_lists_here", "_law_limit", "_law_cap", "_law_bases", "_law_takings_here", "_law_row", "_law_router", "_law_base", "_law_place", "_law_way"]
/-! _law_lists -/
def spLists : Sp := fun vs H Q _ => ∃ (G : Hp) (p q : Addr) (M L : Nat) (cap : Int), vs = [.ref p, .int (M : Int), .int (L : Int), .int cap] ∧ Pl G H p q ∧ 2 ≤ M ∧ M ≤ 8 ∧ 2 ≤ L ∧ L ≤ 6 ∧ (∀ n, n ≤ M → (tkM n : Int) ≤ cap) ∧ ∀ G' H' v rows, Ex G G' → Pl G' H' p q → Dq G' v (pd rows) → 2 ≤ rows.length → rows.length ≤ M → GW rows → (∀ row ∈ rows, row.length ≤ L) → (tks rows : Int) ≤ cap → Q v H'
abbrev nLists : List Str := ["_law_pool_here", "_law_most", "_law_limit", "_law_cap", "_law_size", "_law_lists_here", "_law_count", "_law_row"]
/-- tuple(row) for each row: the new tuples stay -/
structure Tupz (G0 H : Hp) (p q R : Addr) (rs : List Addr) (rows : List (List Wy)) (D : Addr) (i : Nat) : Prop where
  ex : ∃ (G : Hp) (ts : List V), Ex G0 G ∧ Pl G H p q ∧ Rz G H p q R rs rows ∧ H D = some (.lst ts) ∧ G D = none ∧ D ≠ p ∧ D ≠ q ∧ DqA G ts ((rows.take i).map rd)
theorem tupz_start {G H : Hp} {p q R D : Addr} {rs : List Addr} {rows : List (List Wy)} (hP : Pl G H p q) (hW : Rz G H p q R rs rows) (hD : H D = none) : Tupz G (upd H D (.lst [])) p q R rs rows D 0 :=
  ⟨G, [], Ex.refl _, hP.ext (Ex.new hD), hW.ext (Ex.new hD), upd_same, fresh_back hP.ex hD, hP.np hD, hP.nq hD, .nil⟩
theorem tupz_turn {K : PySem.W.Frag} {G0 H : Hp} {p q R D r : Addr} {rs : List Addr} {rows : List (List Wy)} {i : Nat} (hi : i < 1000) (h : Tupz G0 H p q R rs rows D i) (hr : rs[i]? = some r) (hDr : D ∉ rs) (hDR : D ≠ R) :
    ∃ pa ys, [V.ref r] = [.ref pa] ∧ ((SqL K H pa ys ∧ ∀ l, H l = none → ∃ acc, (upd H l (.tup ys)) D = some (.lst acc) ∧ acc.length < sizeLine ∧ Tupz G0 (upd (upd H l (.tup ys)) D (.lst (acc ++ [.ref l]))) p q R rs rows D (i + 1)) ∨
      (SqT K H pa ys ∧ ∃ acc, H D = some (.lst acc) ∧ acc.length < sizeLine ∧ Tupz G0 (upd H D (.lst (acc ++ [.ref pa]))) p q R rs rows D (i + 1))) := by
  obtain ⟨G, ts, eG, hP, hW, hD, gD, Dp, Dq', hts⟩ := h.ex
  have hil : i < rs.length := (List.getElem?_eq_some_iff.mp hr).1
  have hil2 : i < rows.length := by rw [← hW.len]; exact hil
  have hrw : rows[i]? = some rows[i] := List.getElem?_eq_getElem hil2
  obtain ⟨gr, rp, rq, vs, h1, h2⟩ := hW.row i r _ hr hrw
  refine ⟨r, vs, rfl, .inl ⟨sq_of h1, fun l hl' => ?_⟩⟩
  have gl := fresh_back hP.ex hl'
  have nDl : D ≠ l := ne_of_none hD hl'
  have hP1 := hP.new (o := .tup vs) hl'
  have hW1 := hW.new (o := .tup vs) hl' gl
  have tl := hts.length
  rw [List.length_map, List.length_take] at tl
  refine ⟨ts, by rw [upd_ne nDl]; exact hD, by rw [sizeLine_eq]; omega, upd G l (.tup vs), ts ++ [.ref l], eG.trans (Ex.new gl), hP1.mut (by rw [upd_ne nDl]; exact gD) Dp Dq', ?_, upd_same, by rw [upd_ne nDl]; exact gD, Dp, Dq', ?_⟩
  · refine ⟨by rw [upd_ne (Ne.symm hDR)]; exact hW1.at_, hW1.gR, hW1.Rp, hW1.Rq, hW1.nin, hW1.nd, hW1.len, fun k r' row' hr' hw' => ?_⟩
    obtain ⟨g', rp', rq', vs', h1', h2'⟩ := hW1.row k r' row' hr' hw'
    have nr : r' ≠ D := fun z => hDr (by rw [← z]; exact List.mem_of_getElem? hr')
    exact ⟨g', rp', rq', vs', by rw [upd_ne nr]; exact h1', h2'⟩
  · rw [take_snoc hrw, List.map_append]
    exact (hts.mono (Ex.new gl)).append (.cons (.tup upd_same (h2.mono (Ex.new gl))) .nil)
end
end Wk

set_option Elab.async false
set_option linter.all false
set_option maxRecDepth 100000
set_option maxHeartbeats 2000000
namespace Wk
open PySem PySem.Spec PyProof.Rows L2 Evl
mutual
theorem Dp.up {K : PySem.W.Frag} {G H : Hp} (e : Ex G H) : ∀ {d : PyData} {v : V}, Dp K G v d → Dp K H v d
  | .none, _, .non => .non
  | .bool _, _, .bl b => .bl b
  | .int _, _, .int i => .int i
  | .str _, _, .str x => .str x
  | .list _, _, .lst h a => .lst (ex_l e h) (DpAll.up e a)
  | .tuple _, _, .tup h a => .tup (ex_t e h) (DpAll.up e a)
theorem DpAll.up {K : PySem.W.Frag} {G H : Hp} (e : Ex G H) : ∀ {ds : List PyData} {vs : List V}, DpAll K G vs ds → DpAll K H vs ds
  | [], _, .nil => .nil
  | _ :: _, _, .cons h t => .cons (Dp.up e h) (DpAll.up e t)
end
theorem dpa_len {K : PySem.W.Frag} {G : Hp} : ∀ {ds : List PyData} {vs : List V}, DpAll K G vs ds → vs.length = ds.length
  | [], _, .nil => rfl
  | _ :: _, _, .cons _ t => congrArg Nat.succ (dpa_len t)
theorem dpa_at {K : PySem.W.Frag} {G : Hp} : ∀ {ds : List PyData} {vs : List V} {i : Nat} {d : PyData}, DpAll K G vs ds → ds[i]? = some d → ∃ v, vs[i]? = some v ∧ Dp K G v d
  | [], _, i, d, .nil, e => by simp at e
  | x :: _, v :: _, 0, d, .cons h t, e => ⟨v, rfl, by simp at e; subst e; exact h⟩
  | _ :: _, _ :: _, i + 1, d, .cons h t, e => by
    obtain ⟨v, e1, e2⟩ := dpa_at t (i := i) (by simpa using e)
    exact ⟨v, by simpa using e1, e2⟩
theorem dpa_app {K : PySem.W.Frag} {G : Hp} : ∀ {ds es : List PyData} {vs us : List V}, DpAll K G vs ds → DpAll K G us es → DpAll K G (vs ++ us) (ds ++ es)
  | [], _, _, _, .nil, h => h
  | _ :: _, _, _, _, .cons h t, u => .cons h (dpa_app t u)
theorem dpa_ints {K : PySem.W.Frag} {G : Hp} : ∀ {ns : List Int} {vs : List V}, DpAll K G vs (ns.map PyData.int) → vs = ns.map V.int
  | [], _, .nil => rfl
  | _ :: _, _, .cons (.int n) t => by rw [dpa_ints t]; rfl
theorem dp_wd {K : PySem.W.Frag} {G : Hp} {v : V} {w : Wy} (h : Dp K G v (wd w)) : ∃ a, v = .ref a ∧ SqT K G a (w.map V.int) := by
  unfold wd at h
  cases h with
  | tup h1 h2 =>
    rw [dpa_ints h2] at h1
    exact ⟨_, rfl, h1⟩
theorem dp_of_wd {K : PySem.W.Frag} {G : Hp} {a : Addr} {w : Wy} (h : SqT K G a (w.map V.int)) : Dp K G (.ref a) (wd w) := .tup h (DqA.dp (lay_ints w) (DqA.ints w))
section
variable {K : PySem.W.Frag} {σ : L2.St} {H : Hp} {te tl : TE}
/-- [e for i, x in enumerate(t)] -/
theorem el_lcEnT {a : Addr} {xs : List V} {i j : Nat} {vs : List Nat} (v : Nat → V) (h : Ev tl σ H (.ref a)) (hx : SqT K H a xs) (hz : xs.length ≤ 40000) (hw : ∀ x y, wipe (((wipe σ vs).set i (some x)).set j (some y)) vs = wipe σ vs)
    (he : ∀ (k : Nat) (x : V) H1, Ex H H1 → xs[k]? = some x → Ev te (((wipe σ vs).set i (some (.int (k : Nat)))).set j (some x)) H1 (v k)) :
    EvL (tLc (iEnumT K (tCons tl tNil)) (gTup K 2 (gCons (gName i) (gCons (gName j) gNil))) tYes te vs) σ H (given xs.length (fun _ => true) v) := fun H0 e Q q => h H0 e _ fun H1 e1 => ⟨a, xs, rfl, ex_t (e.trans e1) hx, fun Dl hD =>
  lc_it (walk_enumT (K := K) (a := a) (xs := xs)) (Cw H1 (fun _ => true) v Dl) ⟨hD, Ex.new hD, upd_same⟩ (fun i H' _ p => ex_t ((e.trans e1).trans p.2.1) hx)
    (fun k z H' H2 hk p y => by
      obtain ⟨T, u, y, rfl, hT, rfl, hu, hy⟩ := y
      cases hu
      have eT : Ex H' (upd H' T (.tup [.int (k : Nat), y])) := Ex.new hT
      refine ⟨T, _, rfl, st_of upd_same, rfl, g_two ⟨hw _ _, ?_⟩⟩
      exact cw_turn ⟨p.1, p.2.1.trans eT, eT _ _ p.2.2⟩ (by omega) et_yes (fun _ => he k y H1 (e.trans e1) hy))
    (fun H' p => q Dl H' (fresh_back e1 p.1) (e1.trans p.2.1) p.2.2)⟩
theorem ev_allEnT {a : Addr} {xs : List V} {i j : Nat} {vs : List Nat} (g : Nat → Bool) (h : Ev tl σ H (.ref a)) (hx : SqT K H a xs) (hz : xs.length ≤ 40000) (hw : ∀ x y, wipe (((wipe σ vs).set i (some x)).set j (some y)) vs = wipe σ vs)
    (he : ∀ (k : Nat) (x : V) H1, Ex H H1 → xs[k]? = some x → Ev te (((wipe σ vs).set i (some (.int (k : Nat)))).set j (some x)) H1 (.bl (g k))) :
    Ev (tCB (rAll K) (tCons (tLc (iEnumT K (tCons tl tNil)) (gTup K 2 (gCons (gName i) (gCons (gName j) gNil))) tYes te vs) tNil)) σ H (.bl (((List.range xs.length).map g).all id)) :=
  ev_allL (by
    have q := el_lcEnT (K := K) (te := te) (fun k => .bl (g k)) h hx hz hw he
    rw [given_all] at q
    rw [List.map_map]
    exact q)
/-- a tuple that is read: an old one, a new one, one of the module's -/
def EvQ (K : PySem.W.Frag) (te : TE) (σ : L2.St) (H : Hp) (xs : List V) : Prop := ∀ H1, Ex H H1 → ∀ Q : VK, (∀ p H2, Ex H1 H2 → SqT K H2 p xs → Q (.ref p) H2) → te σ H1 Q
theorem eq_sl {a : Addr} {xs : List V} {tl th : TO} {lo hi : Option Int} (h : Ev te σ H (.ref a)) (h1 : EvO tl σ H lo) (h2 : EvO th σ H hi) (hs : SqT K H a xs) : EvQ K (tSl (rSlA K) te tl th) σ H (cutV xs lo hi) := fun H1 e Q q =>
  h H1 e _ fun H2 e2 => h1 H2 (e.trans e2) _ fun H3 e3 => h2 H3 ((e.trans e2).trans e3) _ fun H4 e4 => by
    have hs4 := ex_t (((e.trans e2).trans e3).trans e4) hs
    refine ⟨a, xs, rfl, hs4, fun hw => ?_, fun hw p hp => q p _ (((e2.trans e3).trans e4).trans (Ex.new hp)) (st_of upd_same)⟩
    have ec : cutV xs lo hi = xs := by
      unfold cutV
      rw [hw.1, hw.2]
      simp
    rw [ec] at q
    exact q a H4 ((e2.trans e3).trans e4) hs4
theorem ev_opQ {ta tb : TE} {r : R2} {x z : V} {xs : List V} (ha : Ev ta σ H x) (hb : EvQ K tb σ H xs) (hr : ∀ p H1, SqT K H1 p xs → Ex H H1 → RV r x (.ref p) H1 z) : Ev (tOp r ta tb) σ H z := fun H1 e Q q =>
  ha H1 e _ fun H2 e2 => hb H2 (e.trans e2) _ fun p H3 e3 hp => hr p H3 hp ((e.trans e2).trans e3) H3 (Ex.refl H3) Q fun H4 e4 => q H4 ((e2.trans e3).trans e4)
/-- for x in a tuple that is told on the way -/
theorem q_forCT {g : TG} {tu tz : TS} {D : Ends} (C : Addr → List V → Hp → Prop) (h : ∀ Q : VK, (∀ l xs H1, C l xs H1 → Q (.ref l) H1) → tl σ H Q)
    (hC : ∀ l xs H1, C l xs H1 → SqT K H1 l xs ∧ ∃ Pv : Nat → L2.St → Hp → Prop, Pv 0 σ H1 ∧ (∀ i σ' H', i ≤ xs.length → Pv i σ' H' → SqT K H' l xs) ∧ (∀ i x σ' H', xs[i]? = some x → Pv i σ' H' → g x σ' H' fun σ2 H2 => tu { D with nx := Pv (i + 1), ct := Pv (i + 1), bk := tz D } σ2 H2) ∧ (∀ σ' H', Pv xs.length σ' H' → tz D σ' H')) : tSeq (tFor (iTup K tl) g tu) tz D σ H :=
  h _ fun l xs H1 c => by
    obtain ⟨hs, Pv, h0, hl, ht, hd⟩ := hC l xs H1 c
    exact ⟨l, rfl, ⟨xs, hs⟩, for_tup Pv h0 hl ht hd⟩
end
/-! wishes in the heap -/
structure WO (CW : Addr) (H : Hp) (v : V) (rows : List (List Wy)) : Prop where
  ex : ∃ w dx lv, v = .ref w ∧ H w = some (.ins CW dx (wf (rows.length : Int) lv)) ∧ Dq H lv (pd rows)
  g : GW rows
  n2 : 2 ≤ rows.length
  n8 : rows.length ≤ 8
  r6 : ∀ row ∈ rows, row.length ≤ 6
theorem WO.up {CW : Addr} {H H' : Hp} {v : V} {rows : List (List Wy)} (h : WO CW H v rows) (e : Ex H H') : WO CW H' v rows := by
  obtain ⟨w, dx, lv, h1, h2, h3⟩ := h.ex
  exact ⟨⟨w, dx, lv, h1, e _ _ h2, h3.mono e⟩, h.g, h.n2, h.n8, h.r6⟩
theorem ev_wsize {K : PySem.W.Frag} {mg : Str → Option Value} {CW : Addr} {σ : L2.St} {H : Hp} {te : TE} {v : V} {rows : List (List Wy)} (T : WTx K mg CW) (h : Ev te σ H v) (hw : WO CW H v rows) : Ev (tFld K te "size") σ H (.int (rows.length : Int)) := fun H1 e Q q =>
  h H1 e _ fun H2 e2 => by
    obtain ⟨w, dx, lv, rfl, h2, h3⟩ := (hw.up (e.trans e2)).ex
    exact ⟨w, CW, dx, _, _, rfl, h2, T.cl, T.nS, wf_size _ _, q H2 e2⟩
/-- wishes.ways(router) -/
theorem t_ways {CW CN : Addr} {W : L2.St → XK} {σ : L2.St} {H : Hp} {ta ti : TE} {v : V} {rows : List (List Wy)} {i : Nat} {row : List Wy} {Q : VK} (ha : Ev ta σ H v) (hw : WO CW H v rows) (hi : Ev ti σ H (.int (i : Int))) (hr : rows[i]? = some row) (k : ∀ u H', Ex H H' → Dq H' u (rd row) → Q u H') :
    tMeAt CW "ways" (spWays CW CN) W ta (tCons ti tNil) σ H Q := ha H (Ex.refl H) _ fun H1 e1 => by
  obtain ⟨w, dx, lv, rfl, h2, h3⟩ := (hw.up e1).ex
  refine ⟨w, dx, _, rfl, h2, wf_no _ _ (by decide +kernel) (by decide +kernel), hi H1 e1 _ fun H2 e2 => ?_⟩
  have hil := (List.getElem?_eq_some_iff.mp hr).1
  have hR : isR (((rows.map rd).length : Nat) : Int) (.int (i : Int)) = true := by
    rw [List.length_map]
    show (true && (decide (0 ≤ (i : Int)) && decide ((i : Int) ≤ (rows.length : Int) - 1))) = true
    rw [decide_eq_true (show 0 ≤ (i : Int) by omega), decide_eq_true (show (i : Int) ≤ (rows.length : Int) - 1 by omega)]
    rfl
  refine ⟨w, dx, lv, .int (i : Int), .int (i : Int), rows.map rd, rfl, by rw [List.length_map]; exact e2 _ _ h2, h3.mono e2, .int _, fun _ u d H3 hd hu e3 => ?_, fun z => ?_⟩
  · have ed : d = rd row := by
      rw [show (valI (.int (i : Int))).toNat = i by simp [valI], List.getElem?_map, hr] at hd
      exact (Option.some.inj hd).symm
    subst ed
    exact k u H3 ((e1.trans e2).trans e3) (hu.mono e3)
  · rw [hR] at z
    cases z
/-! data or wishes -/
def Tg (CW : Addr) (H : Hp) (v : V) : Option PyData → Prop
  | some d => Dq H v d
  | none => ∃ a dx fs, v = .ref a ∧ H a = some (.ins CW dx fs)
theorem Tg.up {CW : Addr} {H H' : Hp} {v : V} {o : Option PyData} (h : Tg CW H v o) (e : Ex H H') : Tg CW H' v o := by
  cases o with
  | some d => exact Dq.mono e h
  | none =>
    obtain ⟨a, dx, fs, h1, h2⟩ := h
    exact ⟨a, dx, fs, h1, e _ _ h2⟩
/-- what isinstance asks of the class -/
structure ITx (K : PySem.W.Frag) (CW : Addr) : Prop where
  cl : Cls K CW
  ha : PySem.W.findIn K (.ref CW) "__class__" = some (some (.builtin "object.__class__"))
  hn : PySem.W.specialIn K (.builtin "object.__class__") "__get__" = some (some (.builtin "getset_descriptor.__get__"))
  ht : PySem.W.takesIn K (.builtin "object.__class__") = some true
  hm : PySem.W.mroIn K CW (.type "object") = some true
  kt : PySem.W.kitOne K (.ref CW) (.type "tuple") = some false
def tgT : Option PyData → Bool
  | some d => isTu d
  | none => false
theorem ev_isiT {K : PySem.W.Frag} {CW : Addr} {σ : L2.St} {H : Hp} {ta : TE} {v : V} {o : Option PyData} (T : ITx K CW) (h : Ev ta σ H v) (hv : Tg CW H v o) : Ev (tCB (rIsi K) (tCons ta (tCons (tC (.ty "tuple")) tNil))) σ H (.bl (tgT o)) := by
  cases o with
  | some d => exact ev_isi h hv (kit_tup d)
  | none =>
    obtain ⟨a, dx, fs, rfl, h2⟩ := hv
    exact fun H1 e Q q => h H1 e _ fun H2 e2 => ⟨.ref a, .ty "tuple", .ref CW, .type "tuple", false, rfl, .ty "tuple", .base (.ins ((e.trans e2) _ _ h2) T.cl T.ha T.hn T.ht T.hm), T.kt, q H2 e2⟩
/-! takings, as plain rows -/
def od : Option Wy → PyData
  | none => .none
  | some w => wd w
def chW (rows : List (List Wy)) (i : Nat) : List Wy := if i = 0 then [[0]] else rows.getD i [] ++ [[]]
structure TkO (rows : List (List Wy)) (t : List (Option Wy)) : Prop where
  len : t.length = rows.length
  ok : ∀ (i : Nat) (x : Wy), t[i]? = some (some x) → x ∈ chW rows i
def hit (t : List (Option Wy)) (w : Wy) : Bool := decide (t.getD (w.getD 1 0).toNat none = some (w.drop 1))
def csL (t : List (Option Wy)) (own : Wy) : List Wy → Bool
  | [] => false
  | w :: ws => if w = own then false else if hit t w = true then true else csL t own ws
def csB (rows : List (List Wy)) (t : List (Option Wy)) (i : Nat) : Bool := match t.getD i none with
  | none => false
  | some own => if own ≠ [] ∧ t.getD (own.getD 1 0).toNat none ≠ none ∧ hit t own = false then true else csL t own (rows.getD i [])
theorem csL_drop {t : List (Option Wy)} {own : Wy} : ∀ {ws : List Wy} {i : Nat} {w : Wy}, ws[i]? = some w → csL t own (ws.drop i) = if w = own then false else if hit t w = true then true else csL t own (ws.drop (i + 1))
  | [], i, w, h => by simp at h
  | x :: ws, 0, w, h => by
    simp at h
    subst h
    rfl
  | x :: ws, i + 1, w, h => by
    simp only [List.drop_succ_cons]
    exact csL_drop (by simpa using h)
theorem ways_in {rows : List (List Wy)} (hG : GW rows) {i : Nat} {row : List Wy} {w : Wy} (hr : rows[i]? = some row) (hw : w ∈ row) : ∃ j : Nat, w[1]? = some (j : Int) ∧ w.getD 1 0 = (j : Int) ∧ j < rows.length ∧ w ≠ [] := by
  have ok := hG.ok i row hr w hw
  have h1 : w[1]? = some (w[1]'(by have := ok.l2; omega)) := List.getElem?_eq_getElem _
  have rg := ok.rg _ (List.mem_of_getElem? h1)
  generalize w[1]'(by have := ok.l2; omega) = x at *
  refine ⟨x.toNat, by rw [h1]; congr 1; omega, by rw [List.getD_eq_getElem?_getD, h1]; show x = _; omega, by omega, fun z => ?_⟩
  have := ok.l2
  rw [z] at this
  simp at this
theorem shaped_wd (w : Wy) : SeqAt.shaped (wd w) = true := shaped_ints w
theorem shaped_od (o : Option Wy) : SeqAt.shaped (od o) = true := by
  cases o with
  | none => rfl
  | some w => exact shaped_wd w
theorem eqv_od (o : Option Wy) (w : Wy) : PyData.eqv (od o) (wd w) = decide (o = some w) := by
  cases o with
  | none => simp [od, wd, PyData.eqv]
  | some u =>
    show PyData.eqv (wd u) (wd w) = _
    rw [eqv_wd]
    simp
end Wk

set_option Elab.async false
set_option linter.all false
set_option maxRecDepth 100000
set_option maxHeartbeats 4000000
namespace Wk
open PySem PySem.Spec PyProof.Rows L2 Evl
/-! facts of own errors -/
def exB (K : PySem.W.Frag) (C : Addr) : Bool := (match K.lookup C with
  | some o => (match o.cls, o.data, o.slots.toList with
    | .type t, .cls cd, [_, _, _, _, some (.builtin n), _] => decide (t = "type") && (decide (n = "ValueError.__new__") && (cd.hasDict && (!cd.hasDel && (match cd.mro with
      | .ref c :: bm => decide (c = C) && PySem.HandSPX.refsVE bm
      | _ => false))))
    | _, _, _ => false)
  | none => false) && (He.eqO (PySem.W.findIn K (.ref C) "__setattr__") (some (some (.builtin "object.__setattr__"))) && (decide (PySem.W.subIn K (.ref C) (.type "BaseException") = some true) && (decide (PySem.W.typeIn K (.ref C) = some (.type "type")) && (PySem.W.keepIn K (.ref C) && xfB K C))))
theorem exB_ok {K : PySem.W.Frag} {C : Addr} (h : exB K C = true) : OexC K C ∧ XfC K C := by
  unfold exB at h
  obtain ⟨h1, h⟩ := He.ba h
  obtain ⟨h2, h⟩ := He.ba h
  obtain ⟨h3, h⟩ := He.ba h
  obtain ⟨h4, h⟩ := He.ba h
  obtain ⟨h5, h6⟩ := He.ba h
  refine ⟨⟨?_, He.eqO_ok h2, of_decide_eq_true h3, of_decide_eq_true h4, h5⟩, xfB_ok h6⟩
  cases hl : K.lookup C with
  | none =>
    rw [hl] at h1
    cases h1
  | some o =>
    rw [hl] at h1
    obtain ⟨oc, od, dt, ⟨sl⟩⟩ := o
    dsimp only at h1
    split at h1
    · rename_i t cd k0 k1 k2 k3 n k5
      obtain ⟨z1, h1⟩ := He.ba h1
      obtain ⟨z2, h1⟩ := He.ba h1
      obtain ⟨z3, h1⟩ := He.ba h1
      obtain ⟨z4, h1⟩ := He.ba h1
      split at h1
      · rename_i c bm hm
        obtain ⟨z5, z6⟩ := He.ba h1
        obtain ⟨x1, x2, x3, x4, x5, x6, x7, x8, x9, x10, x11⟩ := cd
        dsimp only at z3 z4 hm
        have y1 := of_decide_eq_true z1
        have y2 := of_decide_eq_true z2
        have y5 := of_decide_eq_true z5
        have y4 : x11 = false := by simpa using z4
        subst y1 y2 y5 y4 z3 hm
        exact ⟨x1, x5, x4, x2, bm, x7, x8, x9, x10, od, k0, k1, k2, k3, k5, rfl, z6⟩
      · cases h1
    · cases h1
/-! what isinstance asks of an own class -/
def insB (K : PySem.W.Frag) (C : Addr) : Bool := He.eqO (PySem.W.findIn K (.ref C) "__class__") (some (some (.builtin "object.__class__"))) && (He.eqO (PySem.W.specialIn K (.builtin "object.__class__") "__get__") (some (some (.builtin "getset_descriptor.__get__"))) && (decide (PySem.W.takesIn K (.builtin "object.__class__") = some true) &&
  (decide (PySem.W.mroIn K C (.type "object") = some true) && decide (PySem.W.kitOne K (.ref C) (.type "tuple") = some false))))
theorem insB_ok {K : PySem.W.Frag} {C : Addr} (cl : Cls K C) (h : insB K C = true) : ITx K C := by
  obtain ⟨h1, h⟩ := He.ba h
  obtain ⟨h2, h⟩ := He.ba h
  obtain ⟨h3, h⟩ := He.ba h
  obtain ⟨h4, h5⟩ := He.ba h
  exact ⟨cl, He.eqO_ok h1, He.eqO_ok h2, of_decide_eq_true h3, of_decide_eq_true h4, of_decide_eq_true h5⟩
/-! the head's facts with more of them -/
abbrev AlX : Type := He.AlD × Bool
def obsX (n : Nat) (fa : List He.Fa) (fn : List He.DefD) (eb : PySem.W.Frag → Bool) (g : Addr → Option Obj) : AlX := (He.obsDG n fa fn g, eb (He.frG g (He.asD g n)))
def hookX (n : Nat) (fa : List He.Fa) (fn : List He.DefD) (eb : PySem.W.Frag → Bool) : PySem.W.Hook where
  α := AlX
  obs := fun s => obsX n fa fn eb s.heap.get?
  val := fun _ => (He.valD fn, true)
  says := fun _ h => ∃ K : PySem.W.Frag, K.In h ∧ He.SaysD fa fn K ∧ eb K = true
  of := fun _ _ e => ⟨_, He.frG_in, congrArg Prod.fst e, congrArg Prod.snd e⟩
  keeps := fun _ _ _ ⟨K, hK, c⟩ k => ⟨K, PySem.W.Frag.In.keeps hK k, c⟩
theorem obsX_eq {n : Nat} {fa : List He.Fa} {fn : List He.DefD} {eb : PySem.W.Frag → Bool} {g : Addr → Option Obj} {s : Shared} (h : ∀ a, g a = s.heap.get? a) : obsX n fa fn eb g = (hookX n fa fn eb).obs s := by
  have e : g = s.heap.get? := funext h
  rw [e]
  rfl
theorem calOf {P : Program} {w : World} {K : PySem.W.Frag} {mg : Str → Option Value} {base : Heap} {x q : Str} {params : Arguments} {body : List Stmt} {scope : Scope} {f : Addr} {fd : FuncData} {ps : List Str} {k : Nat} {sp : Sp} (F : FunD K x q params body scope [] [] f fd) (o : FnOk P w K mg base CX0 k f fd ps sp) (g : mg x = some (.ref f)) (b : Binds K fd ps []) : Cal P w K mg base x ps k sp := ⟨⟨f, fd, o, g, F.kp, b⟩⟩
def dG (x : Str) (i : Nat) : He.DefD := ⟨(x, none), x, x, defArgs (top i), defBody (top i), defScope (top i), [], []⟩
def dM (c m q : Str) (i j : Nat) : He.DefD := ⟨(c, some m), m, q, defArgs (inClass (top i) j), defBody (inClass (top i) j), defScope (inClass (top i) j), [], []⟩
end Wk

set_option Elab.async false
set_option linter.all false
set_option maxRecDepth 100000
set_option maxHeartbeats 2000000
namespace Wk
open PySem PySem.Spec PyProof.Rows L2 Evl
def errB (K : PySem.W.Frag) (C : Addr) : Bool := PySem.W.excIn K C [.type "ValueError", .type "Exception", .type "BaseException", .type "object"] "ValueError.__new__" && (PySem.W.keepIn K (.ref C) && (decide (PySem.W.subIn K (.ref C) (.type "BaseException") = some true) && decide (PySem.W.typeIn K (.ref C) = some (.type "type"))))
def excB (K : PySem.W.Frag) (C : Addr) : Bool := He.eqO (PySem.W.findIn K (.ref C) "__getattribute__") (some (some (.builtin "BaseException.__getattribute__"))) && (He.eqO (PySem.W.findIn K (.ref C) "__getattr__") (some none) && (decide (PySem.W.subIn K (.ref C) (.type "BaseException") = some true) && (PySem.W.hasDictIn K C &&
  (He.eqO (PySem.W.findIn K (.ref C) "__class__") (some (some (.builtin "object.__class__"))) && (He.eqO (PySem.W.specialIn K (.builtin "object.__class__") "__get__") (some (some (.builtin "getset_descriptor.__get__"))) && (decide (PySem.W.takesIn K (.builtin "object.__class__") = some true) && decide (PySem.W.mroIn K C (.type "object") = some true)))))))
def ek2B (K : PySem.W.Frag) (C CW : Addr) : Bool := excB K C && (decide (PySem.W.kitOne K (.ref C) (.ref CW) = some true) && decide (PySem.W.kitOne K (.ref C) (.type "ValueError") = some true))
end Wk

set_option Elab.async false
set_option linter.all false
set_option maxRecDepth 100000
set_option maxHeartbeats 0
namespace Wk
open PySem PySem.Spec PyProof.Rows L2 Evl
def fn : List He.DefD := ([dG "is_integer" 8, dG "is_between" 9, dG "is_tuple_of" 10, dG "is_integer_tuple" 11, dG "is_router" 12, dG "refuse_no_router" 13, dG "is_size" 14, dG "is_way" 15, dG "choices" 18, dG "is_taking" 19, dG "is_choice" 20, dG "cannot_stay" 21, dG "first_that_cannot_stay" 22, dG "is_outcome" 24, dG "comes" 26, dG "refuse_wrong_lists" 31, dG "is_way_list" 32, dG "has_let_rest" 33, dG "let_ways" 34, dG "_law_pool" 36, dG "_law_draw" 37, dG "_law_order" 38, dG "_law_add" 39, dG "_law_lists" 40, dG "_law_eased" 41, dG "_law_wishes" 42, dG "_law_forest" 43, dG "_law_lines" 44, dG "_law_steps" 45, dG "_law_begin" 46] : List He.DefD) ++ ([dG "_law_is_open" 47, dG "_law_moved" 48, dG "_law_moves" 49, dG "_law_rows" 51, dG "_law_is_outcome" 52, dG "_law_is_step" 53, dG "_law_refused" 54, dG "_law_comes" 55, dG "_law_flagged" 56, dG "_law_odd" 57, dG "_law_pairs" 58, dG "law" 59, dM "Wishes" "__init__" "Wishes.__init__" 30 0, dM "Wishes" "ways" "Wishes.ways" 30 2, dM "Wishes" "lines" "Wishes.lines" 30 3, dM "NoRouter" "__init__" "NoRouter.__init__" 3 0, dM "BadWishes" "__init__" "BadWishes.__init__" 4 0] : List He.DefD)
def fa : List He.Fa := ([.glo "is_integer", .glo "is_between", .glo "is_tuple_of", .glo "is_integer_tuple", .glo "is_router", .glo "refuse_no_router", .glo "is_size", .glo "is_way", .glo "choices", .glo "is_taking", .glo "is_choice", .glo "cannot_stay", .glo "first_that_cannot_stay", .glo "is_outcome", .glo "comes", .glo "refuse_wrong_lists", .glo "is_way_list", .glo "has_let_rest", .glo "let_ways", .glo "_law_pool", .glo "_law_draw", .glo "_law_order", .glo "_law_add", .glo "_law_lists", .glo "_law_eased", .glo "_law_wishes", .glo "_law_forest", .glo "_law_lines", .glo "_law_steps", .glo "_law_begin"] : List He.Fa) ++ ([.glo "_law_is_open", .glo "_law_moved", .glo "_law_moves", .glo "_law_rows", .glo "_law_is_outcome", .glo "_law_is_step", .glo "_law_refused", .glo "_law_comes", .glo "_law_flagged", .glo "_law_odd", .glo "_law_pairs", .glo "law", .free "isinstance", .free "len", .free "tuple", .free "list", .free "int", .free "bool", .free "str", .free "all", .free "set", .free "enumerate", .free "range", .free "abs", .free "min", .free "repr", .int "MOST_ROUTERS" 8, .int "MOST_WAYS" 6, .int "LEAST_ROUTERS" 2, .glo "Wishes"] : List He.Fa) ++ ([.cls "Wishes", .mkr "Wishes", .meth "Wishes" "ways", .meth "Wishes" "lines", .noat "Wishes" "size", .noat "Wishes" "_lists", .glo "BadWishes", .glo "NoRouter", .exm "BadWishes" "BadWishes" true, .exm "NoRouter" "NoRouter" true, .noat "NoRouter" "router", .noat "BadWishes" "router", .meth "NoRouter" "__init__", .meth "BadWishes" "__init__", .glo "GOAL_WAY", .free "max", .free "sorted", .free "ValueError", .glo "WishError", .glo "BadTaking", .exm "BadTaking" "BadTaking" true] : List He.Fa)
def eb (K : PySem.W.Frag) : Bool := exB K (He.ga K "NoRouter") && (exB K (He.ga K "BadWishes") && (errB K (He.ga K "BadTaking") && (ek2B K (He.ga K "BadTaking") (He.ga K "WishError") && (insB K (He.ga K "Wishes") && He.tupB K "GOAL_WAY" [.int 0]))))
abbrev R : PySem.W.OpenRow := PySem.W.OpenLaw.row PySem.Challenge.rw_wishreels_k22_steps_to_an_outcome
abbrev hk : PySem.W.Hook := hookX 4 fa fn eb
def ob (s : PySem.W.SharedT) : AlX := obsX 4 fa fn eb (HandSHeadRun.getT s)
theorem ob_eq (s : PySem.W.SharedT) : ob s = hk.obs s.abs := obsX_eq (HandSHeadRun.getT_eq s)
def loose0 : List Str := ["_wall", "__name__", "WishError", "NoRouter", "BadWishes", "BadTaking", "MOST_ROUTERS", "is_integer", "is_between", "is_tuple_of", "is_integer_tuple", "is_router", "refuse_no_router", "is_size", "is_way", "GOAL_WAY", "choices", "is_taking", "is_choice", "cannot_stay", "first_that_cannot_stay", "is_outcome", "comes", "LEAST_ROUTERS", "MOST_WAYS", "Wishes", "refuse_wrong_lists", "is_way_list", "has_let_rest", "let_ways"]
def loose1 : List Str := ["_law_pool", "_law_draw", "_law_order", "_law_add", "_law_lists", "_law_eased", "_law_wishes", "_law_forest", "_law_lines", "_law_steps", "_law_begin", "_law_is_open", "_law_moved", "_law_moves", "_law_explored", "_law_rows", "_law_is_outcome", "_law_is_step", "_law_refused", "_law_comes", "_law_flagged", "_law_odd", "_law_pairs"]
def loose : List Str := loose0 ++ loose1
theorem run (w : World) : HandSHeadRun.RunEq R (PySem.W.view R.prog [59]) hk ob 8000 loose w := by
  intro os
  kernel_rfl
end Wk


set_option Elab.async false
set_option linter.all false
set_option maxRecDepth 100000
set_option maxHeartbeats 2000000
namespace Wk
open L2 PySem PySem.Spec PyProof.Rows
section
variable {X : Cx}
/-- one entry more by a comprehension, in a dict of either kind of keys -/
theorem put_dp {ps : List (Addr × Obj)} {σ : L2.St} {H Hn : Hp} {s : Shared} {D : Addr} {y z : V} {u r : Value}
    {E : Value → Shared → Prop} {Q : Unit → Shared → Prop} (hu : X.A.units < cLine) (I : Inv X ps σ H s)
    (g : DPut H D y z Hn) (ry : L2.RelV y u) (rz : L2.RelV z r) (h : ∀ s', Inv X ps σ Hn s' → Q () s') :
    wpAny (model X.prog X.w) X.A (dictSet D u r) Q E s := by
  rcases g with ⟨kvs, k, e, rfl, l, rfl⟩ | ⟨kvs, k, b, e, rfl, eb, l, rfl⟩
  · exact d_dictSet I e l ry rz h
  · obtain rfl : u = Value.ref b := ry
    obtain ⟨z1, nd, xs, rel, dd⟩ := dt_of I.hok e
    have l1 := length_putK kvs k z
    refine wpAny_dictSet_heap (hsz := by rw [← Paired.length rel]; exact z1) hu (key_of I.hok eb) dd
      fun h1 d1 sb => h _ ?_
    obtain ⟨q, es, ep, hq, a1, a2, a3, _, a4⟩ := d1
    refine d_write I (by rw [e]; trivial) sb ⟨q, hq⟩ ⟨by omega, nd, _, (rel.put k eb rz).keeps ?_, q, es, ep, hq, a1, a2, a3, a4⟩
    intro c ys ec
    exact (upd_ne (ne_of ec e (by intro z; cases z))).trans ec
end
/-- what one item does: the target, the tests, then key, value and the entry -/
def dqStep (g : TG) (tt : TT) (tk tv : TE) (vs : List Nat) (D : Addr) (Nx : Hp → Prop) (σ : L2.St) (x : V) (H : Hp) : Prop :=
  g x (wipe σ vs) H fun σa Ha => wipe σa vs = wipe σ vs ∧ tt σa Ha fun b Hb =>
    if b = true then tk σa Hb fun y Hc => tv σa Hc fun z Hd => ∃ Hn, DPut Hd D y z Hn ∧ Nx Hn
    else Nx Hb
/-- the walk of such a comprehension by a measure -/
def dqWalk (J : It) (step : (Hp → Prop) → V → Hp → Prop) (Qs : Hp → Prop) (W : Nat → Nat → Hp → Prop) : Prop :=
  ∀ i m H, W i m H → (J.stop i H ∧ Qs H) ∨
    (J.go i H ∧ ∃ Nx : Hp → Prop, (∀ Ha, Nx Ha → ∃ k, k < m ∧ W (i + 1) k Ha) ∧ ∀ x Ha, J.yld i H x Ha → step Nx x Ha)
theorem dq_loop {Y : Cx} {σ : L2.St} {vs : List Nat} {R : Result → Shared → Prop} {J : It} {fp : List Addr} {it D : Addr}
    {tn : Nat → Heap → Prop} {kx vx tg iter : Expr} {ifs : List Expr} {scope : Scope} {pos : Pos} {g : TG} {tt : TT} {tk tv : TE}
    {W : Nat → Nat → Hp → Prop} {Qs : Hp → Prop} (hc : Y.calm = true) (hx : Y.xe = fun _ _ => False) (hu : Y.A.units < cLine)
    (T : Turn Y.prog Y.w Y.K tg J fp it tn) (pg : PG Y tg g) (pt : PTs Y ifs tt) (pk : PE Y kx tk) (pv : PE Y vx tv)
    (own : ∀ {σ' : L2.St} {H' : Hp} {s' : Shared}, Inv Y [] σ' H' s' → (∀ b ∈ fp, H' b = none) → ∀ b ∈ fp, FpOk Y [] H' b)
    (walk : dqWalk J (fun Nx x H => dqStep g tt tk tv vs D Nx σ x H) Qs W)
    (last : ∀ H s, Inv Y [] (wipe σ vs) H s → Qs H → R (.ok .next) s)
    {m : Nat} {H : Hp} {s : Shared} (I : Inv Y [] (wipe σ vs) H s) (st : tn 0 s.heap) (nf : ∀ b ∈ fp, H b = none) (w : W 0 m H) :
    codeAny (model Y.prog Y.w) Y.A
      (.compLoop (.DictComp kx vx [⟨tg, iter, ifs, 0⟩] scope pos) 0 (.ref it) (.ref D) Y.env) R s := by
  refine compLoop_anyD (fun k s1 => ∃ i H1, Inv Y [] (wipe σ vs) H1 s1 ∧ tn i s1.heap ∧ (∀ b ∈ fp, H1 b = none) ∧ W i k H1)
    (fun k s1 hk => ?_) m ⟨0, H, I, st, nf, w⟩
  obtain ⟨i, H1, I1, st1, nf1, w1⟩ := hk
  cases walk i k H1 w1 with
  | inl e =>
    refine thnF (T.done Y rfl rfl rfl hc i [] s1 _ H1 (fun _ _ => False) I1 (own I1 nf1) st1 e.1) ?_
    rintro _ s2 ⟨rfl, I2⟩
    exact last H1 s2 I2 e.2
  | inr e =>
    obtain ⟨go, Nx, less, step⟩ := e
    refine thnF (T.item Y rfl rfl rfl hc i [] s1 _ H1 (fun _ _ => False) I1 (own I1 nf1) st1 go) ?_
    rintro _ s2 ⟨u, rfl, it2⟩
    refine thnF it2 ?_
    rintro _ s3 ⟨x, H3, I3, rx, yx, st3, nf3⟩
    have pin := I3.pinned (own I3 nf3) (T.obj _ _ st3)
    have t1 := pg.run _ s3 _ H3 x u _ pin rx (step x H3 yx)
    rw [hx] at t1
    refine thnF t1 ?_
    rintro _ s4 ⟨σ4, H4, I4, ew, q4⟩
    have back : ∀ {s9 : Shared} {H9 : Hp}, Inv Y ([] ++ pinsAt fp s3.heap) σ4 H9 s9 → Nx H9 →
        ∃ j, j < k ∧ ∃ i' H', Inv Y [] (wipe σ vs) H' s9 ∧ tn i' s9.heap ∧ (∀ b ∈ fp, H' b = none) ∧ W i' j H' := by
      intro s9 H9 I9 nx
      obtain ⟨j, lt, wj⟩ := less H9 nx
      have same : ∀ b ∈ fp, ∀ o, s3.heap.get? b = some o → s9.heap.get? b = some o ∧ H9 b = none := by
        intro b hb o eo
        have a := I9.pin (b, o) (List.mem_append_right _ (List.mem_append_right _ (mem_pinsAt hb eo)))
        exact ⟨a.1, a.2.1⟩
      refine ⟨j, lt, i + 1, H9, ?_, T.keep _ _ _ st3 fun b hb o eo => (same b hb o eo).1, ?_, wj⟩
      · refine (I9.unpinned (pins := [])).weak (by rw [← ew, wipe_length]) ?_
        intro n v en
        rw [← ew] at en
        exact (wipe_some en).1
      · intro b hb
        obtain ⟨o, eo, _⟩ := T.obj _ _ st3 b hb
        exact (same b hb o eo).2
    have t2 := pt.run _ s4 σ4 H4 _ I4 q4
    rw [hx] at t2
    refine thnF t2 ?_
    rintro b s5 ⟨H5, I5, q5⟩
    cases b with
    | false => exact back I5 q5
    | true =>
      have t3 := pk.run _ s5 σ4 H5 _ I5 q5
      rw [hx] at t3
      refine thnF t3 ?_
      rintro ky s6 ⟨y, H6, I6, ry, q6⟩
      have t4 := pv.run _ s6 σ4 H6 _ I6 q6
      rw [hx] at t4
      refine thnF t4 ?_
      rintro vy s7 ⟨z, H7, I7, rz, Hn, put, nx⟩
      exact put_dp hu I7 put ry rz fun s8 I8 => back I8 nx
/-- {k: v for .. in .. if ..}, keys tuples -/
def tDq (wi : TI) (g : TG) (tt : TT) (tk tv : TE) (vs : List Nat) : TE := fun σ H Q => wi σ H fun J H1 => ∀ D, H1 D = none →
  ∃ W : Nat → Nat → Hp → Prop, (∃ m, W 0 m (upd H1 D (.dT []))) ∧
    dqWalk J (fun Nx x Ha => dqStep g tt tk tv vs D Nx σ x Ha) (fun Ha => Q (.ref D) Ha) W
/-- the context of the block -/
abbrev Bq (X : Cx) (scope : Scope) (s : Shared) (H : Hp) (C : Addr) (cl : List (Str × Addr)) (fp : List Addr) : Cx :=
  X.blk s H scope (compEnvC scope cl C X.env) fp
theorem pe_dq {X : Cx} {kx vx tg iter : Expr} {ifs : List Expr} {scope : Scope} {own : List (Str × Nat)} {pos : Pos}
    {wi : TI} {g : TG} {tt : TT} {tk tv : TE} (hc : X.calm = true) (hu : X.A.units + 1 < cLine) (hN : X.N.Nodup)
    (hi : PI X tg iter wi) (ok : BlkOk X.N X.env.scope scope own) (hg : ∀ s H C cl fp, PG (Bq X scope s H C cl fp) tg g)
    (ht : ∀ s H C cl fp, PTs (Bq X scope s H C cl fp) ifs tt) (hk : ∀ s H C cl fp, PE (Bq X scope s H C cl fp) kx tk)
    (he : ∀ s H C cl fp, PE (Bq X scope s H C cl fp) vx tv) (hs : ∀ x, foldedSetIterable iter X.env x = pure x := by intro _; rfl) :
    PE X (.DictComp kx vx [⟨tg, iter, ifs, 0⟩] scope pos) (tDq wi g tt tk tv (own.map (·.2))) := by
  constructor
  intro ps s σ H Q I h
  rw [arm_eval_DictComp]
  have look : ∀ y ∈ scope.names, y.2 = .free → ∃ c, X.env.cells.lookup y.1 = some c := by
    intro y hy e
    exact I.ok.has _ (ok.free y hy e)
  refine wpAny_comprehension_free (use := none) rfl hs (closure_ok look) ok.kind (fun y hy e => (ok.uniq y hy).trans (by rw [e])) ?_
  refine thn (hi.run ps s σ H _ I h) ?_
  intro xv s1 h1
  refine thn h1 ?_
  rintro _ s2 ⟨it, fp, tn, J, H2, rfl, I2, T, st2, f2, q⟩
  refine wpAny_newObj_type ?_
  refine newEnv_comp ?_
  obtain ⟨D, hD⟩ : ∃ D, D = s2.heap.objs.size := ⟨_, rfl⟩
  rw [← hD]
  obtain ⟨W, ⟨m0, w0⟩, walk⟩ := q D (I2.hok.fresh (Nat.le_of_eq hD.symm))
  obtain ⟨s3, e3⟩ : ∃ s3 : Shared, s3 = { s2 with heap := s2.heap.push { cls := .type "dict", data := .dict #[] } } := ⟨_, rfl⟩
  have g3 : ∀ b o, s2.heap.get? b = some o → s3.heap.get? b = some o := by
    intro b o e
    rw [e3]
    exact Heap.get?_push_of_some _ (by exact e)
  have I3 : Inv X ps σ (upd H2 D (.dT [])) s3 := by
    rw [e3, hD]
    exact I2.laid (t' := s2.toks) (fun b o e => Heap.get?_push_of_some _ e) (Nat.le_refl _) (dt_empty s2.heap I2.big)
  rw [← e3]
  obtain ⟨H3, eH3⟩ : ∃ H3, H3 = upd H2 D (.dT []) := ⟨_, rfl⟩
  rw [← eH3] at I3 w0
  have f3 : ∀ b ∈ fp, FpOk X ps H3 b ∧ b < s3.heap.objs.size := by
    intro b hb
    obtain ⟨o, e, _⟩ := T.obj 0 _ st2 b hb
    refine ⟨⟨?_, (f2 b hb).2⟩, Heap.lt_size (g3 b o e)⟩
    rw [eH3, upd_ne (by rw [hD]; exact Nat.ne_of_lt (Heap.lt_size e))]
    exact (f2 b hb).1
  have st3 : tn 0 s3.heap := T.keep _ _ _ st2 fun b _ o e => g3 b o e
  have Ib := block_start I3 ok hN f3
  obtain ⟨C, hC⟩ : ∃ C, C = s3.heap.objs.size := ⟨_, rfl⟩
  rw [← hC] at Ib ⊢
  obtain ⟨cl, ecl⟩ : ∃ cl, cl = cellsFrom (C + 1) scope.names (cloFrom X.env.cells scope.names []) := ⟨_, rfl⟩
  rw [← ecl] at Ib ⊢
  have st4 : tn 0 (pushCells (s3.heap.push { cls := .type "dict", data := .dict #[] }) scope.names) := T.keep _ _ _ st3 fun b _ o e =>
    pushCells_keeps _ _ _ _ (Heap.get?_push_of_some _ e)
  have loop : codeAny (model X.prog X.w) X.A
      (.compLoop (.DictComp kx vx [⟨tg, iter, ifs, 0⟩] scope pos) 0 (.ref it) (.ref D) (compEnvC scope cl C X.env))
      (compPost (model X.prog X.w) X.A X.xe none (EP X ps σ Q) (.ref D) C)
      { s3 with heap := pushCells (s3.heap.push { cls := .type "dict", data := .dict #[] }) scope.names } := by
    refine dq_loop (Y := Bq X scope s3 H3 C cl fp) (σ := σ) hc rfl (Nat.lt_of_succ_lt hu) T (hg s3 H3 C cl fp)
      (ht s3 H3 C cl fp) (hk s3 H3 C cl fp) (he s3 H3 C cl fp) ?_ walk ?_ Ib st4 (fun b hb => (f3 b hb).1.1) w0
    · intro σ' H' s' I' nf b hb
      refine ⟨nf b hb, (I'.ok.exf b hb).1, I'.ok.exfs b hb, .inl hb, fun x c e => (I'.ok.exf b hb).2 x c e, ?_⟩
      intro p hp
      exact absurd (show p ∈ ([] : List (Addr × Obj)) ++ [] from hp) (by simp)
    · intro H6 s6 I6 q6
      have I7 : Inv X ps σ H6 s6 := by
        refine I3.call' (ch := fp) I6.os I6.base I6.hok I6.bare ?_
        intro b hb
        obtain ⟨_, n1, _, n2, n3, n4⟩ := (f3 b hb).1
        exact ⟨n2, n1, n3, n4⟩
      obtain ⟨m, hn, _⟩ := I6.loc
      refine ⟨m, hn, fun h' sb => ?_⟩
      obtain ⟨n0, n1, n2, n3, n4, n5⟩ := I3.fpOk (b := C) (Nat.le_of_eq hC.symm) (show H6 C = none from I6.free)
      refine ⟨.ref D, H6, ?_, rfl, q6⟩
      exact I7.turned (t' := s6.toks) (fun b o hb e => (sb.2 b hb).trans e) n0 n1 n3 n4 n5
  exact codeAny_compStart_dict loop (T.self _ 0 _ _ _ st4 loop)
end Wk

set_option Elab.async false
set_option linter.all false
set_option maxRecDepth 100000
set_option maxHeartbeats 2000000
namespace Wk
open L2 PySem PySem.Spec PyProof.Rows Evl
/-- the items that a comprehension has put, item j of the source by Y j -/
def Grown (Y : Nat → V → Hp → Prop) (H : Hp) : List Nat → List V → Prop
  | [], us => us = []
  | j :: js, us => ∃ u r, us = u :: r ∧ Y j u H ∧ Grown Y H js r
def UpY (Y : Nat → V → Hp → Prop) : Prop := ∀ i u H H', Ex H H' → Y i u H → Y i u H'
theorem Grown.up {Y : Nat → V → Hp → Prop} (hY : UpY Y) {H H' : Hp} (e : Ex H H') : ∀ {js : List Nat} {us : List V}, Grown Y H js us → Grown Y H' js us
  | [], _, h => h
  | j :: js, _, ⟨u, r, h1, h2, h3⟩ => ⟨u, r, h1, hY j u H H' e h2, Grown.up hY e h3⟩
theorem Grown.snoc {Y : Nat → V → Hp → Prop} {H : Hp} {j : Nat} {u : V} (h : Y j u H) : ∀ {js : List Nat} {us : List V}, Grown Y H js us → Grown Y H (js ++ [j]) (us ++ [u])
  | [], _, h0 => by
    rw [show _ = [] from h0]
    exact ⟨u, [], rfl, h, rfl⟩
  | k :: js, _, ⟨v, r, h1, h2, h3⟩ => by
    subst h1
    exact ⟨v, r ++ [u], rfl, h2, Grown.snoc h h3⟩
theorem Grown.len {Y : Nat → V → Hp → Prop} {H : Hp} : ∀ {js : List Nat} {us : List V}, Grown Y H js us → us.length = js.length
  | [], _, h0 => by
    rw [show _ = [] from h0]
    rfl
  | k :: js, _, ⟨v, r, h1, h2, h3⟩ => by
    subst h1
    simp [Grown.len h3]
def upTo (f : Nat → Bool) (i : Nat) : List Nat := (List.range i).filter f
theorem upTo_yes {f : Nat → Bool} {i : Nat} (h : f i = true) : upTo f (i + 1) = upTo f i ++ [i] := by
  unfold upTo
  rw [List.range_succ, List.filter_append]
  simp [h]
theorem upTo_no {f : Nat → Bool} {i : Nat} (h : f i = false) : upTo f (i + 1) = upTo f i := by
  unfold upTo
  rw [List.range_succ, List.filter_append]
  simp [h]
theorem upTo_len (f : Nat → Bool) (i : Nat) : (upTo f i).length ≤ i := by
  unfold upTo
  have h := List.length_filter_le f (List.range i)
  rw [List.length_range] at h
  exact h
/-- what is evaluated is told by Y, the heap may grow -/
def EvY (te : TE) (σ : L2.St) (H : Hp) (Y : V → Hp → Prop) : Prop := ∀ H1, Ex H H1 → ∀ Q : VK, (∀ u H2, Ex H1 H2 → Y u H2 → Q u H2) → te σ H1 Q
def off (D : Addr) (H : Hp) : Hp := fun a => if a = D then none else H a
theorem off_ex {D : Addr} {H H' : Hp} (e : Ex H H') : Ex (off D H) (off D H') := fun a o h => by
  unfold off at h ⊢
  by_cases z : a = D
  · rw [if_pos z] at h
    cases h
  · rw [if_neg z] at h ⊢
    exact e a o h
theorem off_in (D : Addr) (H : Hp) : Ex (off D H) H := fun a o h => by
  unfold off at h
  split at h
  · cases h
  · exact h
theorem off_upd {D : Addr} {H : Hp} {o : HO} : off D (upd H D o) = off D H := by
  funext a
  unfold off upd
  split <;> rfl
theorem off_at {D a : Addr} {H : Hp} (h : a ≠ D) : off D H a = H a := by
  unfold off
  rw [if_neg h]
/-- a word of an item that outlives new objects and does not speak of lists -/
structure GoodY (Y : Nat → V → Hp → Prop) : Prop where
  up : UpY Y
  off : ∀ i u H D l, H D = some (.lst l) → Y i u H → Y i u (Wk.off D H)
def Gw (Y : Nat → V → Hp → Prop) (H : Hp) (f : Nat → Bool) (D : Addr) (i : Nat) (H' : Hp) : Prop :=
  H D = none ∧ Ex H H' ∧ ∃ us, H' D = some (.lst us) ∧ Grown Y (off D H') (upTo f i) us
theorem gw_turn {Y : Nat → V → Hp → Prop} (hY : GoodY Y) {H H' : Hp} {f : Nat → Bool} {D : Addr} {i : Nat} {t : TT} {te : TE} {σ2 : L2.St} (p : Gw Y H f D i H') (hi : i < 50000)
    (ht : EvT t σ2 H' (f i)) (he : f i = true → EvY te σ2 H' (Y i)) :
    t σ2 H' fun b H3 => if b = true then te σ2 H3 fun y H4 => ∃ acc, H4 D = some (.lst acc) ∧ acc.length < sizeLine ∧ Gw Y H f D (i + 1) (upd H4 D (.lst (acc ++ [y])))
      else Gw Y H f D (i + 1) H3 := by
  obtain ⟨p1, p2, us, p3, p4⟩ := p
  refine ht H' (Ex.refl _) _ fun H3 e3 => ?_
  cases hf : f i with
  | false =>
    refine ⟨p1, p2.trans e3, us, e3 _ _ p3, ?_⟩
    rw [upTo_no hf]
    exact p4.up hY.up (off_ex e3)
  | true =>
    refine he hf H3 e3 _ fun u H4 e4 y => ?_
    have d4 := e4 _ _ (e3 _ _ p3)
    have l1 := p4.len
    have l2 := upTo_len f i
    refine ⟨us, d4, sz_lt (by omega), p1, Ex.mut ((p2.trans e3).trans e4) p1, us ++ [u], upd_same, ?_⟩
    rw [upTo_yes hf, off_upd]
    exact Grown.snoc (hY.off i u H4 D us d4 y) (p4.up hY.up (off_ex (e3.trans e4)))
/-- a list comprehension whose items may be new objects -/
theorem grow_lc {J : It} {n : Nat} {Gd : Hp → Prop} {Yx : Nat → V → Prop} {Y : Nat → V → Hp → Prop} {j : Nat} {vs : List Nat} {σ : L2.St} {H : Hp} {D : Addr} {Qd : Hp → Prop} {t : TT} {te : TE}
    (w : Walk J n Gd (fun i H x H' => H' = H ∧ Yx i x)) (hY : GoodY Y) (f : Nat → Bool) (hD : H D = none) (hn : n ≤ 40000) (hG : ∀ H', Ex H H' → Gd H') (hw : ∀ x, wipe ((wipe σ vs).set j (some x)) vs = wipe σ vs)
    (ht : ∀ i x H', Ex H H' → i < n → Yx i x → EvT t ((wipe σ vs).set j (some x)) H' (f i)) (he : ∀ i x H', Ex H H' → i < n → Yx i x → f i = true → EvY te ((wipe σ vs).set j (some x)) H' (Y i))
    (hq : ∀ us H', Ex H H' → H' D = some (.lst us) → Grown Y H' (upTo f n) us → Qd H') :
    ∃ W : Nat → Nat → Hp → Prop, (∃ m, W 0 m (upd H D (.lst []))) ∧ ∀ i m H, W i m H →
      (J.stop i H ∧ Qd H) ∨ (J.go i H ∧ ∃ Nx : Hp → Prop, (∀ H', Nx H' → ∃ m', m' < m ∧ W (i + 1) m' H') ∧ ∀ x H', J.yld i H x H' → gName j x (wipe σ vs) H' fun σ2 H2 => wipe σ2 vs = wipe σ vs ∧ t σ2 H2 fun b H3 =>
        if b = true then te σ2 H3 fun y H4 => ∃ acc, H4 D = some (.lst acc) ∧ acc.length < sizeLine ∧ Nx (upd H4 D (.lst (acc ++ [y]))) else Nx H3) := by
  refine lc_it w (Gw Y H f D) ⟨hD, Ex.new hD, [], upd_same, rfl⟩ (fun i H' _ p => hG H' p.2.1) (fun i x H' H2 hi p y => ?_) (fun H' p => ?_)
  · obtain ⟨rfl, yx⟩ := y
    exact ⟨hw x, gw_turn hY p (by omega) (ht i x _ p.2.1 hi yx) (fun hf => he i x _ p.2.1 hi yx hf)⟩
  · obtain ⟨_, e, us, d, g⟩ := p
    exact hq us H' e d (g.up hY.up (off_in D H'))
/-- the keys of a dict are the first i of k, each with True -/
def KHas (k : Nat → List L2.Key) (i : Nat) (kvs : List (List L2.Key × V)) : Prop :=
  ∀ q, (valV kvs q = some (V.bl true) ∧ ∃ j, j < i ∧ k j = q) ∨ (valV kvs q = none ∧ ∀ j, j < i → k j ≠ q)
/-- the keys that a comprehension has put -/
def Kw (k : Nat → List L2.Key) (H : Hp) (D : Addr) (i : Nat) (H' : Hp) : Prop :=
  H D = none ∧ Ex H H' ∧ ∃ kvs, H' D = some (.dT kvs) ∧ kvs.length ≤ i ∧ KHas k i kvs
/-- {x: True for x in ..}, of tuples of whole numbers or texts -/
theorem grow_dq {J : It} {n : Nat} {Gd : Hp → Prop} {Yx : Nat → V → Prop} {k : Nat → List L2.Key} {j : Nat} {vs : List Nat} {σ : L2.St} {H : Hp} {D : Addr} {Qd : Hp → Prop} {tk tv : TE}
    (w : Walk J n Gd (fun i H x H' => H' = H ∧ Yx i x)) (hD : H D = none) (hn : n ≤ 40000) (hG : ∀ H', Ex H H' → Gd H') (hw : ∀ x, wipe ((wipe σ vs).set j (some x)) vs = wipe σ vs)
    (hk : ∀ i x H', Ex H H' → i < n → Yx i x → EvY tk ((wipe σ vs).set j (some x)) H' (fun u H2 => ∃ b, u = .ref b ∧ H2 b = some (.tup ((k i).map kV))))
    (hv : ∀ i x H', Ex H H' → i < n → Yx i x → Ev tv ((wipe σ vs).set j (some x)) H' (.bl true))
    (hq : ∀ kvs H', Ex H H' → H' D = some (.dT kvs) → KHas k n kvs → Qd H') :
    ∃ W : Nat → Nat → Hp → Prop, (∃ m, W 0 m (upd H D (.dT []))) ∧ dqWalk J (fun Nx x Ha => dqStep (gName j) tYes tk tv vs D Nx σ x Ha) Qd W := by
  refine ⟨fun i m H' => m = n - i ∧ i ≤ n ∧ Kw k H D i H', ⟨n, by simp, Nat.zero_le _, hD, Ex.new hD, [], upd_same, Nat.le_refl _, fun q => .inr ⟨rfl, fun j hj => absurd hj (Nat.not_lt_zero _)⟩⟩, ?_⟩
  rintro i m H1 ⟨rfl, hi, p1, p2, kvs, p3, p4, p5⟩
  by_cases lt : i < n
  · refine .inr ⟨w.goes i H1 lt (hG H1 p2), Kw k H D (i + 1), fun Ha q => ⟨n - (i + 1), by omega, rfl, lt, q⟩, fun x Ha y => ?_⟩
    obtain ⟨rfl, yx⟩ := w.yields i H1 x Ha lt (hG H1 p2) y
    refine ⟨hw x, ?_⟩
    show tk _ _ _
    refine hk i x _ p2 lt yx _ (Ex.refl _) _ fun u H2 e2 hu => ?_
    obtain ⟨b, rfl, hb⟩ := hu
    refine hv i x _ p2 lt yx H2 e2 _ fun H3 e3 => ?_
    have d3 := e3 _ _ (e2 _ _ p3)
    refine ⟨_, DPut.t d3 (e3 _ _ hb) (sz_lt (by omega)), p1, Ex.mut ((p2.trans e2).trans e3) p1, _, upd_same, ?_, fun q => ?_⟩
    · have := length_putK kvs (k i) (V.bl true)
      omega
    · rw [valV_put]
      by_cases e : q = k i
      · rw [if_pos e]
        exact .inl ⟨rfl, i, Nat.lt_succ_self i, e.symm⟩
      · rw [if_neg e]
        rcases p5 q with ⟨z, j', h1, h2⟩ | ⟨z, h2⟩
        · exact .inl ⟨z, j', by omega, h2⟩
        · refine .inr ⟨z, fun j' hj => ?_⟩
          rcases Nat.lt_succ_iff_lt_or_eq.mp hj with h3 | h3
          · exact h2 j' h3
          · subst h3
            exact fun z2 => e z2.symm
  · have e : i = n := by omega
    subst e
    exact .inl ⟨w.stops H1 (hG H1 p2), hq kvs H1 p2 p3 p5⟩
end Wk

set_option Elab.async false
set_option linter.all false
set_option maxRecDepth 100000
set_option maxHeartbeats 2000000
namespace Wk
open L2 PySem PySem.Spec PyProof.Rows Evl
/-- a tuple of two, turned about by a slice of step -1 -/
theorem get_back {prog : Program} {w : World} {A : Around} {E : Value → Shared → Prop} {s : Shared} {t sl : Addr} {x y vs : Value} {Q : Value → Shared → Prop}
    (ht : IsTup s.heap t #[x, y]) (hs : s.heap.IsSliceOf sl .none .none vs) (ps : IsPart vs (some (-1)))
    (h : Q (.ref s.heap.objs.size) { s with heap := s.heap.push { cls := .type "tuple", data := .seq #[y, x] } }) :
    wpAny (model prog w) A (getItem (.ref t) (.ref sl)) Q E s := by
  obtain ⟨os, hos, hcs, hds⟩ := id hs
  have ts : s.TypeIs (.ref sl) "slice" := ⟨os, hos, hcs⟩
  unfold getItem
  try with_reducible refine wpAny_holding ?_
  have tt := ht.typeIs
  refine wpAny_bind (wpAny_sequenceKey tt (by decide) (wpAny_bind (wpAny_callSpecial?_slot (name := Str.ofString "__getitem__") tt PyProof.Rows.slot_tuple_getitem ?_)))
  refine wpAny_call_entry PyProof.Rows.slot_tuple_getitem tt entry_tuple_getitem ?_ (args_tuple_getitem _ _)
  show wpAny _ _ (Builtin.Tuple.tupleItemsOf (.ref t) >>= _) _ _ s
  refine wpAny_bind (tupleItemsOf_ ht (wpAny_bind (wpAny_typeOf ts ?_)))
  rw [if_pos (by decide)]
  refine wpAny_bind ?_
  unfold Builtin.Slice.sliceApplied Builtin.Slice.sliceFields
  refine wpAny_bind (wpAny_bind (wpAny_field hos hds (x := .none) rfl (wpAny_bind (wpAny_field hos hds (x := .none) rfl (wpAny_bind (wpAny_field hos hds (x := vs) rfl (wpAny_pure ?_)))))))
  refine wpAny_bind (HT.slicePart_ ps ?_)
  show wpAny _ _ (if ((-1 : Int) == 0) = true then _ else _) _ _ s
  rw [if_neg (by decide)]
  refine wpAny_bind (slicePart_none (wpAny_bind (slicePart_none (wpAny_bind (wpAny_pure ?_)))))
  have e1 : Builtin.Slice.sliceAdjust none none (-1) (2 : Int) = (1, -1) := by first | rfl | decide
  have e2 : Builtin.Slice.slicePlaces 1 (-1) (-1) = 2 := by first | rfl | decide
  show wpAny _ _ (match Builtin.Slice.sliceAdjust none none (-1) (2 : Int) with | (lo, hi) => pure (lo, (-1 : Int), Builtin.Slice.slicePlaces lo hi (-1))) _ _ s
  rw [e1]
  show wpAny _ _ (pure ((1 : Int), (-1 : Int), Builtin.Slice.slicePlaces 1 (-1) (-1))) _ _ s
  rw [e2]
  refine wpAny_pure ?_
  show wpAny _ _ (if ((1 : Int) == 0 && (-1 : Int) == 1 && (2 : Nat) == 2) = true then _ else _) _ _ s
  rw [if_neg (by decide)]
  have e3 : ((List.range 2).filterMap fun (k : Nat) => #[x, y][((1 : Int) + (k : Int) * (-1)).toNat]?).toArray = #[y, x] := by first | rfl | simp [List.range, List.range.loop]
  rw [e3]
  have z : sizeOk (.seq #[y, x]) := by show (2 : Nat) ≤ sizeLine; decide
  first
    | exact wpAny_bind (m := Builtin.Tuple.tupleExact _) (wpAny_newObj_type (wpAny_pure ⟨_, rfl, wpAny_pure h⟩) z)
    | exact wpAny_bind (wpAny_newObj_type (wpAny_pure ⟨_, rfl, wpAny_pure h⟩) z)
/-- t[::-1] of a tuple of two -/
def tBack (K : PySem.W.Frag) (te : TE) : TE := fun σ H Q => te σ H fun x H1 => ∃ a u v, x = .ref a ∧ SqT K H1 a [u, v] ∧
  ∀ p, H1 p = none → Q (.ref p) (upd H1 p (.tup [v, u]))
theorem pe_back {X : Cx} {e : Expr} {te : TE} {k : Nat} {p1 p2 p3 pos : Pos} (he : PE X e te) :
    PE X (.Subscript e (.Slice none none (some (.UnaryOp .USub (.Constant (.int 1) k p1) p2)) p3) pos) (tBack X.K te) := by
  constructor
  intro ps s σ H Q I h
  refine Subscript_ (thn (he.run ps s σ H _ I h) ?_)
  rintro v0 s1 ⟨_, H1, I1, rv, a, x, y, rfl, hx, q⟩
  obtain rfl : v0 = Value.ref a := rv
  have st : PO X (some (.UnaryOp .USub (.Constant (.int 1) k p1) p2)) (tPart (tUn (rU fun i => .int (-i)) (tC (.int 1)))) := po_some (pe_un un_neg pe_int)
  refine wpAny_Slice (thn (po_none.run ps s1 σ H1 (fun o H2 => o = none ∧ H2 = H1) I1 ⟨rfl, rfl⟩) ?_)
  rintro vl s2 ⟨_, _, I2, pl, rfl, rfl⟩
  refine thn (po_none.run ps s2 σ _ (fun o H3 => o = none ∧ H3 = _) I2 ⟨rfl, rfl⟩) ?_
  rintro vu s3 ⟨_, _, I3, pu, rfl, rfl⟩
  refine thn (st.run ps s3 σ _ (fun o H4 => o = some (-1) ∧ H4 = _) I3 ⟨1, rfl, -1, rfl, rfl, rfl⟩) ?_
  rintro vs s4 ⟨_, _, I4, pz, rfl, rfl⟩
  cases pl
  cases pu
  have I5 := I4.kept (h' := s4.heap.push { cls := .type "slice", data := .fields #[.none, .none, vs] }) (t' := s4.toks) fun b ob z => Heap.get?_push_of_some _ z
  obtain ⟨its, r, ht, hz⟩ := I5.tuple hx
  cases r with
  | cons r1 r' =>
    cases r' with
    | cons r2 r'' =>
      cases r''
      refine tail_any (ops := [.ref a, .ref s4.heap.objs.size]) ht.typeIs (PyProof.Rows.slot_tuple_getitem.lookup) ?_ (by with_unfolding_all rfl)
      refine get_back ht (Heap.IsSliceOf.new _ .none .none vs) pz ?_
      refine ⟨.ref _, _, I5.laid (t' := s4.toks) (o := .tup [y, x]) (fun b ob z => Heap.get?_push_of_some _ z) (Nat.le_refl _) ?_, rfl, q _ (I5.hok.fresh (Nat.le_refl _))⟩
      exact ⟨by show (2 : Nat) ≤ sizeLine; decide, _, .cons r2 (.cons r1 .nil), IsTup.new _ _⟩
end Wk

set_option Elab.async false
set_option linter.all false
set_option maxRecDepth 100000
set_option maxHeartbeats 2000000
namespace Wk
open L2 PySem PySem.Spec PyProof.Rows Evl
theorem sl_tupK {X : Cx} {K : PySem.W.Frag} (hK : X.K = K) : SlR X (rSlA K) := by
  subst hK
  exact sl_tupA
theorem ret_any {te : TE} {D : Ends} {σ : L2.St} {H : Hp} (h : te σ H D.rt) : tRet te D σ H := h
theorem ey_sl {K : PySem.W.Frag} {σ : L2.St} {H : Hp} {te : TE} {tl th : TO} {a : Addr} {xs : List V} {lo hi : Option Int} (h : Ev te σ H (.ref a)) (h1 : EvO tl σ H lo) (h2 : EvO th σ H hi)
    (ha : H a = some (.tup xs)) : EvY (tSl (rSlA K) te tl th) σ H (fun u H2 => ∃ b, u = .ref b ∧ H2 b = some (.tup (cutV xs lo hi))) := fun H1 e Q q =>
  h H1 e _ fun H2 e2 => h1 H2 (e.trans e2) _ fun H3 e3 => h2 H3 ((e.trans e2).trans e3) _ fun H4 e4 => by
    have e14 := (e2.trans e3).trans e4
    have ha4 := (e.trans e14) _ _ ha
    refine ⟨a, xs, rfl, st_of ha4, fun hw => ?_, fun hw p hp => q _ _ (e14.trans (Ex.new hp)) ⟨p, rfl, upd_same⟩⟩
    have ec : cutV xs lo hi = xs := by
      unfold cutV
      rw [hw.1, hw.2]
      simp
    exact q _ _ e14 ⟨a, rfl, by rw [ec]; exact ha4⟩
def TupY (z : Nat → List V) : Nat → V → Hp → Prop := fun i u H => ∃ b, u = .ref b ∧ H b = some (.tup (z i))
theorem tupY_good (z : Nat → List V) : GoodY (TupY z) := by
  refine ⟨fun i u H H' e h => ?_, fun i u H D l hD h => ?_⟩
  · obtain ⟨b, h1, h2⟩ := h
    exact ⟨b, h1, e _ _ h2⟩
  · obtain ⟨b, h1, h2⟩ := h
    refine ⟨b, h1, (off_at ?_).trans h2⟩
    intro hb
    rw [hb, hD] at h2
    cases h2
theorem grown_wds {ws : Nat → Wy} {H : Hp} : ∀ {js : List Nat} {us : List V}, Grown (TupY fun i => (ws i).map V.int) H js us → DqA H us ((js.map ws).map wd)
  | [], us, h => by
    rw [show us = [] from h]
    exact .nil
  | j :: js, us, ⟨u, r, h1, ⟨b, h2, h3⟩, h4⟩ => by
    subst h1 h2
    exact .cons (wd_of h3) (grown_wds h4)
theorem upTo_all (n : Nat) : upTo (fun _ => true) n = List.range n := by
  unfold upTo
  simp
/-- [e for i in range(n)], the items new tuples of whole numbers -/
theorem q_lcR {ta : TA} {te : TE} {j : Nat} {vs : List Nat} {n : Int} {σ : L2.St} {H : Hp} {Q : VK} {Y : Nat → V → Hp → Prop} (h : EvA ta σ H [.int n]) (hn0 : -1 ≤ n) (hn : n ≤ 40000) (hY : GoodY Y)
    (hw : ∀ x, wipe ((wipe σ vs).set j (some x)) vs = wipe σ vs) (he : ∀ (i : Nat) H', Ex H H' → (i : Int) < n → EvY te ((wipe σ vs).set j (some (.int (i : Int)))) H' (Y i))
    (k : ∀ l us H', Ex H H' → H l = none → H' l = some (.lst us) → Grown Y H' (List.range n.toNat) us → Q (.ref l) H') : tLc (iRng1 ta) (gName j) tYes te vs σ H Q :=
  h H (Ex.refl H) _ fun H1 e1 => ⟨n, rfl, by omega, by omega, fun D hD => grow_lc (Yx := fun i x => x = .int ((0 : Int) + (i : Int))) walk_range hY (fun _ => true) hD (by omega) (fun _ _ => True.intro) hw (fun i x H' e hi hx => et_yes)
    (fun i x H' e hi hx _ => by
      have z : x = .int (i : Int) := by rw [hx, Int.zero_add]
      rw [z]
      exact he i H' (e1.trans e) (by omega))
    (fun us H' e hd g => k D us H' (e1.trans e) (fresh_back e1 hD) hd (by rw [upTo_all] at g; exact g))⟩
end Wk

set_option Elab.async false
set_option linter.all false
set_option maxRecDepth 100000
set_option maxHeartbeats 2000000
namespace Wk
open PySem PySem.Spec PyProof.Rows L2 Evl
/-- wishes' methods and names, for one who calls them -/
structure WC (P : Program) (w : World) (K : PySem.W.Frag) (mg : Str → Option Value) (base : Heap) (CW CN : Addr) : Prop where
  tx : WTx K mg CW
  it : ITx K CW
  wy : ∃ (fM : Addr) (fd : FuncData), Meth K CW "ways" fM ∧ FnOk P w K mg base (L2.CX P w) 5 fM fd ["self", "router"] (spWays CW CN) ∧ Binds K fd ["self", "router"] []
def intsB (d : PyData) : Bool := isTu d && (itemsT d).all isI
theorem intsB_wd {d : PyData} (h : intsB d = true) : d = wd (rts d) := by
  unfold intsB at h
  obtain ⟨h1, h2⟩ := Bool.and_eq_true_iff.mp h
  cases d <;> first | (simp [isTu] at h1; done) | skip
  rename_i ds
  have h2' : ds.all isI = true := h2
  unfold wd rts itemsT
  congr 1
  clear h1 h2 h
  induction ds with
  | nil => rfl
  | cons x l ih =>
    have h3 : isI x = true ∧ l.all isI = true := by simpa using h2'
    show x :: l = .int (valI x) :: (l.map valI).map PyData.int
    rw [← ih h3.2, ← isI_eq h3.1]
def chB (rows : List (List Wy)) (i : Nat) (d : PyData) : Bool := intsB d && decide (rts d ∈ chW rows i)
def tgN (n : Int) : Option PyData → Bool
  | some d => isTu d && decide (V.int ((itemsT d).length : Int) = V.int n)
  | none => false
def tkB (rows : List (List Wy)) (o : Option PyData) : Bool := tgN (rows.length : Int) o && match o with
  | some d => ((List.range (itemsT d).length).map fun k => (((itemsT d)[k]?).map (chB rows k)).getD false).all id
  | none => true
section
variable {P : Program} {w : World} {K : PySem.W.Frag} {mg : Str → Option Value} {base : Heap} {f : Addr} {fd : FuncData} {CW CN : Addr}
/-! is_tuple_of, is_integer_tuple -/
abbrev spTupOf (CW : Addr) : Sp := spP fun H vs z => ∃ (n : Int) (v : V) (o : Option PyData), vs = [.int n, v] ∧ Tg CW H v o ∧ z = .bl (tgN n o)
abbrev sTupOf : Stmt := top 10
theorem scTupOf : FnScope ["many", "thing"] ["many", "thing"] (defScope sTupOf) := ⟨rfl, rfl, rfl, by decide +kernel, rfl, by decide +kernel, by decide +kernel⟩
theorem ok_tupOf (B : Bl mg) (T : ITx K CW) (F : FnP K "is_tuple_of" sTupOf f fd) : FnOk P w K mg base CX0 1 f fd ["many", "thing"] (spTupOf CW) := by
  refine F.ok scTupOf (fun vs H Q E h => ?_) (fun cdv A outer s H vs Q E hr h => ?_)
  · obtain ⟨z, ⟨n, v, o, rfl, _⟩, _⟩ := h
    rfl
  · obtain ⟨z, ⟨n, v, o, rfl, hv, rfl⟩, k⟩ := h
    refine ⟨_, pss_one (ps_ret (pe_and (pe_callB call_isi (by rfl) B.isi boot_isinstance (pa_cons (pv 1) (pa_cons (pe_bltn (v := .ty "tuple") (by rfl) B.tuple PyProof.Rows.boot_tuple rfl) pa_nil)))
      (pe_one (pe_cmpR op_eq (pe_callB call_len_seq (by rfl) B.len PySem.boot_len (pa_cons (pv 1) pa_nil)) (pv 0) (nomark _))))), ?_⟩
    have e : tgN n o = (tgT o && tgN n o) := by
      cases o with
      | none => rfl
      | some d =>
        show (isTu d && _) = (isTu d && (isTu d && _))
        cases isTu d <;> rfl
    rw [e] at k
    refine s_ret (ev_andV (ev_isiT T (ev_var rfl) hv) fun ht => ?_) k
    cases o with
    | none => cases ht
    | some d =>
      have ht' : isTu d = true := ht
      have hv' : Dq H v d := hv
      cases hv' <;> first | (simp [isTu] at ht'; done) | skip
      rename_i a xs ds h1 h2
      have q := ev_op (H := H) (σ := start ["many", "thing"] [.int n, .ref a]) (ev_lenT (K := K) (ta := tVar 1) (ev_var rfl) (st_of h1)) (ev_var (i := 0) rfl) (rv_eq (x := .int (xs.length : Int)) (y := .int n) rfl)
      rw [h2.length] at q
      exact q
abbrev spIntTup : Sp := spP fun H vs z => ∃ (v : V) (d : PyData), vs = [v] ∧ Dq H v d ∧ (itemsT d).length ≤ 1000 ∧ z = .bl (intsB d)
abbrev sIntTup : Stmt := top 11
theorem scIntTup : FnScope ["thing", "item"] ["thing"] (defScope sIntTup) := ⟨rfl, rfl, rfl, by decide +kernel, rfl, by decide +kernel, by decide +kernel⟩
theorem ok_intTup (B : Bl mg) (C : Cal P w K mg base "is_integer" ["thing"] 1 spIsInt) (F : FnP K "is_integer_tuple" sIntTup f fd) : FnOk P w K mg base CX0 2 f fd ["thing"] spIntTup := by
  refine F.ok scIntTup (fun vs H Q E h => ?_) (fun cdv A outer s H vs Q E hr h => ?_)
  · obtain ⟨z, ⟨v, d, rfl, _⟩, _⟩ := h
    rfl
  · obtain ⟨z, ⟨v, d, rfl, hv, hl, rfl⟩, k⟩ := h
    refine ⟨_, pss_one (ps_ret (pe_and (pe_callB call_isi (by rfl) B.isi boot_isinstance (pa_cons (pv 0) (pa_cons (pe_bltn (v := .ty "tuple") (by rfl) B.tuple PyProof.Rows.boot_tuple rfl) pa_nil)))
      (pe_one (pe_callB (cr_all rfl) (by rfl) B.all boot_all (pa_cons (pe_lc (own := [("item", 1)]) (g := gName 1) (tt := tYes) rfl scIntTup.nd (pi_tup (pv 0)) (blkOk_by (N := ["thing", "item"]) (sc := defScope sIntTup) (by decide +kernel))
          (fun _ _ _ _ _ => pg_name (i := 1) scIntTup.nd rfl (Or.inl rfl)) (fun _ _ _ _ _ => pts_nil) (fun _ _ _ _ _ => pe_cal C hr (by rfl) (pa_cons (pv 1) pa_nil))) pa_nil))))), ?_⟩
    refine s_ret (ev_andV (a := isTu d) (ev_isi (ev_var rfl) hv (kit_tup d)) fun ht => ?_) k
    cases hv <;> first | (simp [isTu] at ht; done) | skip
    rename_i a xs ds h1 h2
    have hxl := h2.length
    have hl' : ds.length ≤ 1000 := hl
    have q := ev_allT (K := K) (H := H) (j := 1) (vs := [1]) (σ := start ["thing", "item"] [.ref a]) (tl := tVar 0) (te := tCall spIsInt [] E0 (tCons (tVar 1) tNil)) (fun i => ((ds[i]?).map isI).getD false) (ev_var rfl) (st_of h1) (by omega) (fun x => rfl)
      (fun i x H2 e2 hx => by
        obtain ⟨dx, e3, e4⟩ := h2.get hx
        rw [e3]
        exact ev_call (ea_cons (ev_var rfl) ea_nil) (spP_v fun H3 e5 => ⟨x, dx, rfl, (e4.mono e2).mono e5, rfl⟩))
    rw [hxl, all_get] at q
    exact q
/-! choices, is_choice -/
def spChoices (K : PySem.W.Frag) (CW : Addr) : Sp := fun vs H Q _ => ∃ (v : V) (i : Nat) (rows : List (List Wy)), vs = [v, .int (i : Int)] ∧ WO CW H v rows ∧ i < rows.length ∧ ∀ H' l us, Ex H H' → H l = none → H' l = some (.lst us) → DpAll K H' us ((chW rows i).map wd) → Q (.ref l) H'
abbrev sChoices : Stmt := top 18
theorem scChoices : FnScope ["wishes", "router"] ["wishes", "router"] (defScope sChoices) := ⟨rfl, rfl, rfl, by decide +kernel, rfl, by decide +kernel, by decide +kernel⟩
theorem ok_choices (B : Bl mg) (W : WC P w K mg base CW CN) {ag : Addr} (hG : mg "GOAL_WAY" = some (.ref ag)) (hGt : ∀ H, SqT K H ag [.int 0]) (F : FnP K "choices" sChoices f fd) : FnOk P w K mg base CX0 6 f fd ["wishes", "router"] (spChoices K CW) := by
  obtain ⟨fM, fdM, me, FM, bM⟩ := W.wy
  refine F.ok scChoices (fun vs H Q E h => ?_) (fun cdv A outer s H vs Q E hr h => ?_)
  · obtain ⟨v, i, rows, rfl, _⟩ := h
    rfl
  · obtain ⟨v, i, rows, rfl, hw, hi, k⟩ := h
    refine ⟨_, pss_cons (ps_if (pt_cmpR op_eq (pv 1) pe_int (nomark _)) (pss_one (ps_ret (pe_lst (pa_cons (pe_glob (v := .ref ag) (by rfl) hG rfl) pa_nil)))) pss_nil)
      (pss_one (ps_ret (pe_op op_cat (pe_callTy (call_listK2 (K := K) rfl) (by rfl) B.list PyProof.Rows.boot_list (pa_cons (pe_meAt (pv 0) W.tx.cl me FM hr bM (fun σ => passAt takes0 σ) (pa_cons (pv 1) pa_nil)) pa_nil)) (pe_lst (pa_cons (pe_tup pa_nil) pa_nil))))), ?_⟩
    refine q_when (b := decide (V.int (i : Int) = V.int 0)) (et_test (ev_op (ev_var rfl) ev_c (rv_eq rfl))) (fun hb H1 e1 => ?_) (fun hb H1 e1 => ?_)
    · have i0 : i = 0 := by have := of_decide_eq_true hb; injection this; omega
      subst i0
      refine ⟨by show 1 ≤ sizeLine; decide, fun l hl => k _ l _ (e1.trans (Ex.new hl)) (fresh_back e1 hl) upd_same ?_⟩
      exact .cons (dp_of_wd (w := [0]) (hGt _)) .nil
    · have i0 : i ≠ 0 := fun z => by rw [z] at hb; simp at hb
      have hrw : rows[i]? = some rows[i] := List.getElem?_eq_getElem hi
      have hec : chW rows i = rows[i] ++ [[]] := by
        unfold chW
        rw [if_neg i0, List.getD_eq_getElem?_getD, hrw]
        rfl
      have hr6 := hw.r6 _ (List.getElem_mem hi)
      rw [hec] at k
      generalize rows[i] = row at *
      refine ret_op (cb1 (t_ways (σ := start ["wishes", "router"] [v, .int (i : Int)]) (ev_var rfl) (hw.up e1) (ev_var rfl) hrw fun u H2 e2 hu => ?_))
      unfold rd at hu
      cases hu with
      | tup h1 h2 =>
        rename_i a xs
        have hxl := h2.length
        rw [List.length_map] at hxl
        refine ⟨a, xs, rfl, .inr (st_of h1), fun l hl => ⟨by show 0 ≤ sizeLine; decide, fun t ht => ⟨by show 1 ≤ sizeLine; decide, fun b hb2 => ?_⟩⟩⟩
        have e3 := Ex.new (o := .lst xs) hl
        have e4 := Ex.new (o := .tup ([] : List V)) ht
        have e5 := Ex.new (o := .lst [V.ref t]) hb2
        refine ⟨l, b, xs, [.ref t], rfl, rfl, e5 _ _ (e4 _ _ upd_same), upd_same, by rw [sizeLine_eq]; show xs.length + 1 ≤ _; omega, fun c hc => ?_⟩
        have e6 := Ex.new (o := .lst (xs ++ [V.ref t])) hc
        have e36 := ((e3.trans e4).trans e5).trans e6
        refine k _ c _ ((e1.trans e2).trans e36) ?_ upd_same ?_
        · exact fresh_back ((e1.trans e2).trans ((e3.trans e4).trans e5)) hc
        · rw [List.map_append]
          refine dpa_app (DpAll.up e36 (DqA.dp (lay_wds row) h2)) (.cons (dp_of_wd (w := []) (st_of ?_)) .nil)
          exact (e5.trans e6) _ _ upd_same
abbrev spChoice (CW : Addr) : Sp := spP fun H vs z => ∃ (wv : V) (i : Nat) (v : V) (d : PyData) (rows : List (List Wy)), vs = [wv, .int (i : Int), v] ∧ WO CW H wv rows ∧ i < rows.length ∧ Dq H v d ∧ (itemsT d).length ≤ 1000 ∧ z = .bl (chB rows i d)
abbrev sChoice : Stmt := top 20
theorem scChoice : FnScope ["wishes", "router", "thing"] ["wishes", "router", "thing"] (defScope sChoice) := ⟨rfl, rfl, rfl, by decide +kernel, rfl, by decide +kernel, by decide +kernel⟩
theorem ok_choice (C : Cal P w K mg base "is_integer_tuple" ["thing"] 2 spIntTup) (C2 : Cal P w K mg base "choices" ["wishes", "router"] 6 (spChoices K CW)) (F : FnP K "is_choice" sChoice f fd) : FnOk P w K mg base CX0 7 f fd ["wishes", "router", "thing"] (spChoice CW) := by
  refine F.ok scChoice (fun vs H Q E h => ?_) (fun cdv A outer s H vs Q E hr h => ?_)
  · obtain ⟨z, ⟨wv, i, v, d, rows, rfl, _⟩, _⟩ := h
    rfl
  · obtain ⟨z, ⟨wv, i, v, d, rows, rfl, hw, hi, hv, hl, rfl⟩, k⟩ := h
    have hu : (A.deeper (envOfC "is_choice" (defScope sChoice) s.heap.objs.size f cdv)).units + 65 < cLine := by have := hr.un; omega
    refine ⟨_, pss_one (ps_ret (pe_and (pe_cal C hr (by rfl) (pa_cons (pv 2) pa_nil)) (pe_one (pe_cmpR (op_inD hu) (pv 2) (pe_cal C2 hr (by rfl) (pa_cons (pv 0) (pa_cons (pv 1) pa_nil))) rfl)))), ?_⟩
    refine s_ret (ev_andV (a := intsB d) (ev_call (ea_cons (ev_var rfl) ea_nil) (spP_v fun H1 e => ⟨v, d, rfl, hv.mono e, hl, rfl⟩)) fun hb => ?_) k
    have ed := intsB_wd hb
    intro H1 e1 Q2 q
    refine ⟨v, rfl, wv, rfl, .int (i : Int), rfl, wv, i, rows, rfl, hw.up e1, hi, fun H2 l us e2 _ hl2 hus => ?_⟩
    have hv2 := hv.mono (e1.trans e2)
    rw [ed] at hv2
    refine ⟨wd (rts d), (chW rows i).map wd, Dq.dp (SeqAt.canLay_of_shaped (shaped_wd _)) hv2, .lst (sq_of hl2) hus, shaped_wd _, shaped_wds _, ?_⟩
    rw [any_wd]
    exact q H2 e2
/-! is_taking -/
abbrev spTaking (CW : Addr) : Sp := spP fun H vs z => ∃ (wv v : V) (o : Option PyData) (rows : List (List Wy)), vs = [wv, v] ∧ WO CW H wv rows ∧ Tg CW H v o ∧ (∀ d, o = some d → ∀ x ∈ itemsT d, (itemsT x).length ≤ 1000) ∧ z = .bl (tkB rows o)
abbrev sTaking : Stmt := top 19
abbrev nTaking : List Str := ["wishes", "thing", "router", "item"]
theorem scTaking : FnScope nTaking ["wishes", "thing"] (defScope sTaking) := ⟨rfl, rfl, rfl, by decide +kernel, rfl, by decide +kernel, by decide +kernel⟩
theorem ok_taking (B : Bl mg) (W : WC P w K mg base CW CN) (C : Cal P w K mg base "is_tuple_of" ["many", "thing"] 1 (spTupOf CW)) (C2 : Cal P w K mg base "is_choice" ["wishes", "router", "thing"] 7 (spChoice CW)) (F : FnP K "is_taking" sTaking f fd) : FnOk P w K mg base CX0 8 f fd ["wishes", "thing"] (spTaking CW) := by
  refine F.ok scTaking (fun vs H Q E h => ?_) (fun cdv A outer s H vs Q E hr h => ?_)
  · obtain ⟨z, ⟨wv, v, o, rows, rfl, _⟩, _⟩ := h
    rfl
  · obtain ⟨z, ⟨wv, v, o, rows, rfl, hw, hv, hsm, rfl⟩, k⟩ := h
    refine ⟨_, pss_cons (ps_if (pt_not (pt_val (pe_cal C hr (by rfl) (pa_cons (pe_fld (pv 0) rfl) (pa_cons (pv 1) pa_nil))))) (pss_one (ps_ret pe_bl)) pss_nil)
      (pss_one (ps_ret (pe_callB (cr_all rfl) (by rfl) B.all boot_all (pa_cons (pe_lc (own := [("router", 2), ("item", 3)]) (g := gTup K 2 (gCons (gName 2) (gCons (gName 3) gNil))) (tt := tYes) rfl scTaking.nd (pi_enumT (by rfl) B.enum (pa_cons (pv 1) pa_nil)) (blkOk_by (N := nTaking) (sc := defScope sTaking) (by decide +kernel))
          (fun _ _ _ _ _ => pg_tup rfl (pgs_cons (pg_name (i := 2) scTaking.nd rfl (Or.inl rfl)) (pgs_cons (pg_name (i := 3) scTaking.nd rfl (Or.inl rfl)) pgs_nil))) (fun _ _ _ _ _ => pts_nil) (fun _ _ _ _ _ => pe_cal C2 hr (by rfl) (pa_cons (pv 0) (pa_cons (pv 2) (pa_cons (pv 3) pa_nil))))) pa_nil)))), ?_⟩
    have v0 : ∀ {H1 : Hp}, Ev (tVar 0) (start nTaking [wv, v]) H1 wv := ev_var rfl
    refine q_when (b := !tgN (rows.length : Int) o) (et_not (et_B (ev_call (ea_cons (ev_wsize W.tx v0 hw) (ea_cons (ev_var rfl) ea_nil)) (spP_v fun H1 e => ⟨_, v, o, rfl, hv.up e, rfl⟩)))) (fun hb H1 e1 => s_ret ev_c fun H2 e2 => ?_) (fun hb H1 e1 => ?_)
    · have ez : tkB rows o = false := by
        unfold tkB
        rw [show tgN (rows.length : Int) o = false by simpa using hb]
        rfl
      rw [ez] at k
      exact k H2 (e1.trans e2)
    · have hb' : tgN (rows.length : Int) o = true := by simpa using hb
      cases o with
      | none => cases hb'
      | some d =>
        obtain ⟨ht, hn⟩ := Bool.and_eq_true_iff.mp (show (isTu d && decide (V.int ((itemsT d).length : Int) = V.int (rows.length : Int))) = true from hb')
        have hn' : (itemsT d).length = rows.length := by have := of_decide_eq_true hn; injection this; omega
        have hv' : Dq H v d := hv
        have hsm' := hsm d rfl
        have ek : tkB rows (some d) = ((List.range (itemsT d).length).map fun k => (((itemsT d)[k]?).map (chB rows k)).getD false).all id := by
          unfold tkB
          rw [hb']
          rfl
        rw [ek] at k
        clear hsm hb hb' hv ek
        cases hv' <;> first | (simp [isTu] at ht; done) | skip
        rename_i a xs ds h1 h2
        have hxl := h2.length
        have hn2 : ds.length = rows.length := hn'
        have n8 := hw.n8
        have q := ev_allEnT (K := K) (H := H1) (i := 2) (j := 3) (vs := [2, 3]) (σ := start nTaking [wv, .ref a]) (tl := tVar 1) (te := tCall (spChoice CW) [] E0 (tCons (tVar 0) (tCons (tVar 2) (tCons (tVar 3) tNil)))) (fun i => ((ds[i]?).map (chB rows i)).getD false) (ev_var rfl) (st_of (e1 _ _ h1)) (by omega) (fun x y => rfl)
          (fun i x H2 e2 hx => by
            obtain ⟨dx, e3, e4⟩ := h2.get hx
            have hil := (List.getElem?_eq_some_iff.mp e3).1
            rw [e3]
            exact ev_call (ea_cons (ev_var rfl) (ea_cons (ev_var rfl) (ea_cons (ev_var rfl) ea_nil))) (spP_v fun H3 e5 => ⟨wv, i, x, dx, rows, rfl, hw.up ((e1.trans e2).trans e5), by omega, e4.mono ((e1.trans e2).trans e5), hsm' dx (List.mem_of_getElem? e3), rfl⟩))
        rw [hxl] at q
        exact s_ret q fun H3 e3 => k H3 (e1.trans e3)
end
end Wk

set_option Elab.async false
set_option linter.all false
set_option maxRecDepth 100000
set_option maxHeartbeats 2000000
namespace Wk
open L2 PySem PySem.Spec PyProof.Rows Evl
theorem cut_two (xs : List V) (i : Nat) (h : i ≤ xs.length) : cutV xs (some (i : Int)) (some ((i : Int) + 2)) = (xs.drop i).take 2 := by
  unfold cutV
  rw [show ((i : Int) + 2) = ((i + 2 : Nat) : Int) by omega, HT.sIx_nat, HT.sIx_nat, Nat.min_eq_left h]
  by_cases z : i + 2 ≤ xs.length
  · rw [Nat.min_eq_left z]
    congr 1
    omega
  · rw [Nat.min_eq_right (by omega), List.take_of_length_le (by simp), List.take_of_length_le (by rw [List.length_drop]; omega)]
def keyW (w : Wy) : List L2.Key := w.map Sum.inl
theorem keyW_kV (w : Wy) : (keyW w).map kV = w.map V.int := by
  unfold keyW
  rw [List.map_map]
  rfl
theorem keyW_inj {v w : Wy} (h : keyW v = keyW w) : v = w := by
  unfold keyW at h
  induction v generalizing w with
  | nil =>
    cases w with
    | nil => rfl
    | cons b w => cases h
  | cons a v ih =>
    cases w with
    | nil => cases h
    | cons b w =>
      simp only [List.map_cons, List.cons.injEq] at h
      have h1 : a = b := by injection h.1
      rw [h1, ih h.2]
section
variable {K : PySem.W.Frag} {σ : L2.St} {H : Hp} {te td ty : TE}
theorem ey_old {b : Addr} {xs : List V} (h : Ev te σ H (.ref b)) (hb : H b = some (.tup xs)) : EvY te σ H (fun u H2 => ∃ b, u = .ref b ∧ H2 b = some (.tup xs)) := fun H1 e Q q =>
  h H1 e _ fun H2 e2 => q _ H2 e2 ⟨b, rfl, e2 _ _ (e _ _ hb)⟩
theorem ey_back {b : Addr} {x y : V} (h : Ev te σ H (.ref b)) (hb : H b = some (.tup [x, y])) : EvY (tBack K te) σ H (fun u H2 => ∃ b, u = .ref b ∧ H2 b = some (.tup [y, x])) := fun H1 e Q q =>
  h H1 e _ fun H2 e2 => ⟨b, x, y, rfl, st_of (e2 _ _ (e _ _ hb)), fun p hp => q _ _ (e2.trans (Ex.new hp)) ⟨p, rfl, upd_same⟩⟩
theorem ev_dInY {k : List L2.Key} {D : Addr} {kvs : List (List L2.Key × V)} (hy : EvY ty σ H (fun u H2 => ∃ b, u = .ref b ∧ H2 b = some (.tup (k.map kV)))) (hd : Ev td σ H (.ref D))
    (hD : H D = some (.dT kvs)) : Ev (tDIn ty td) σ H (.bl (valV kvs k).isSome) := fun H1 e Q q => hy H1 e _ fun u H2 e2 hu => by
  obtain ⟨b, rfl, hb⟩ := hu
  exact hd H2 (e.trans e2) _ fun H3 e3 => ⟨D, valV kvs k, rfl, DGet.t ((e.trans (e2.trans e3)) _ _ hD) (e3 _ _ hb), q H3 (e2.trans e3)⟩
end
end Wk

set_option Elab.async false
set_option linter.all false
set_option maxRecDepth 100000
set_option maxHeartbeats 2000000
namespace Wk
open L2 PySem PySem.Spec PyProof.Rows Evl
theorem pi_tupK {X : Cx} {K : PySem.W.Frag} {tg l : Expr} {tl : TE} (hK : X.K = K) (hl : PE X l tl) : PI X tg l (iTup K tl) := by
  subst hK
  exact pi_tup hl
theorem wds_off {H : Hp} {D : Addr} {l : List V} (hD : H D = some (.lst l)) : ∀ {ws : List Wy} {us : List V}, DqA H us (ws.map wd) → DqA (off D H) us (ws.map wd)
  | [], _, h => by
    cases h
    exact .nil
  | w :: ws, _, h => by
    cases h with
    | cons h1 h2 =>
      obtain ⟨a, rfl, ha⟩ := wd_ref h1
      refine .cons (wd_of ((off_at ?_).trans ha)) (wds_off hD h2)
      intro z
      rw [z, hD] at ha
      cases ha
/-- the list that grows holds these ways -/
def LW (D : Addr) (H1 : Hp) (ws : List Wy) (H : Hp) : Prop := H1 D = none ∧ Ex H1 H ∧ ∃ us, H D = some (.lst us) ∧ DqA (off D H) us (ws.map wd)
theorem LW.ext {D : Addr} {H1 H H' : Hp} {ws : List Wy} (h : LW D H1 ws H) (e : Ex H H') : LW D H1 ws H' := by
  obtain ⟨h1, h2, us, h3, h4⟩ := h
  exact ⟨h1, h2.trans e, us, e _ _ h3, h4.mono (off_ex e)⟩
theorem LW.put {D : Addr} {H1 H : Hp} {ws : List Wy} {w : Wy} {u : V} (h : LW D H1 ws H) (hl : ws.length ≤ 1000) (hu : Dq (off D H) u (wd w)) :
    ∃ acc, H D = some (.lst acc) ∧ acc.length < sizeLine ∧ LW D H1 (ws ++ [w]) (upd H D (.lst (acc ++ [u]))) := by
  obtain ⟨h1, h2, us, h3, h4⟩ := h
  have l := h4.length
  rw [List.length_map] at l
  refine ⟨us, h3, sz_lt (by omega), h1, Ex.mut h2 h1, us ++ [u], upd_same, ?_⟩
  rw [off_upd, List.map_append]
  exact h4.append (.cons hu .nil)
def lwB (rows : List (List Wy)) (d : PyData) : Bool := intsB d && (!decide ((itemsT d).length = 0) && isR (rows.length : Int) ((itemsT d).getD 0 .none)) && decide (rts d ∈ rows.getD (valI ((itemsT d).getD 0 .none)).toNat [])
section
variable {P : Program} {w : World} {K : PySem.W.Frag} {mg : Str → Option Value} {base : Heap} {f : Addr} {fd : FuncData} {CW CN : Addr}
/-! let_ways -/
theorem len_flat {rows : List (List Wy)} (h6 : ∀ row ∈ rows, row.length ≤ 6) : rows.flatten.length ≤ 6 * rows.length := by
  induction rows with
  | nil => simp
  | cons r rs ih =>
    have := h6 r List.mem_cons_self
    have := ih fun row hm => h6 row (List.mem_cons_of_mem _ hm)
    simp only [List.flatten_cons, List.length_append, List.length_cons]
    omega
def spLetWays (CW : Addr) : Sp := fun vs H Q _ => ∃ (v : V) (rows : List (List Wy)), vs = [v] ∧ WO CW H v rows ∧ ∀ H' l us, Ex H H' → H l = none → H' l = some (.lst us) → DqA H' us (rows.flatten.map wd) → Q (.ref l) H'
abbrev nLetWays : List Str := ["wishes", "router", "way"]
abbrev sLetWays : Stmt := top 34
theorem scLetWays : FnScope nLetWays ["wishes"] (defScope sLetWays) := ⟨rfl, rfl, rfl, by decide +kernel, rfl, by decide +kernel, by decide +kernel⟩
theorem ok_letWays (B : Bl mg) (W : WC P w K mg base CW CN) (F : FnP K "let_ways" sLetWays f fd) : FnOk P w K mg base CX0 6 f fd ["wishes"] (spLetWays CW) := by
  obtain ⟨fM, fdM, me, FM, bM⟩ := W.wy
  refine F.ok scLetWays (fun vs H Q E h => ?_) (fun cdv A outer s H vs Q E hr h => ?_)
  · obtain ⟨v, rows, rfl, _⟩ := h
    rfl
  · obtain ⟨v, rows, rfl, hw, k⟩ := h
    refine ⟨_, pss_one (ps_ret (pe_lc2 (own := [("router", 1), ("way", 2)]) (vs1 := [2]) (g := gName 1) (g1 := gName 2) (tt := tYes) (tt1 := tYes) rfl scLetWays.nd
      (pi_range1 (by rfl) B.range (pa_cons (pe_fld (pv 0) rfl) pa_nil)) (blkOk_by (N := nLetWays) (sc := defScope sLetWays) (by decide +kernel)) (by decide)
      (fun _ _ _ _ _ => pg_name (i := 1) scLetWays.nd rfl (Or.inl rfl)) (fun _ _ _ _ _ => pts_nil)
      (fun _ _ _ _ _ => pi_tupK (K := K) rfl (pe_meAt (pv 0) W.tx.cl me FM hr bM (fun σ => passAt takes0 σ) (pa_cons (pv 1) pa_nil)))
      (fun _ _ _ _ _ => pg_name (i := 2) scLetWays.nd rfl (Or.inl rfl)) (fun _ _ _ _ _ => pts_nil) (fun _ _ _ _ _ => pv 2))), ?_⟩
    have n8 := hw.n8
    have v0 : ∀ {H1 : Hp}, Ev (tVar 0) (start nLetWays [v]) H1 v := ev_var rfl
    refine ret_any ?_
    unfold tLc2 iRng1
    refine ea_cons (ev_wsize W.tx v0 hw) ea_nil H (Ex.refl H) _ fun H1 e1 => ⟨(rows.length : Int), rfl, by omega, by omega, fun D hD => ?_⟩
    have hw1 := hw.up e1
    have hlf := len_flat hw.r6
    refine ⟨fun i m Hx => m = rows.length - i ∧ i ≤ rows.length ∧ LW D H1 (rows.take i).flatten Hx, ⟨rows.length, by simp, Nat.zero_le _, hD, Ex.new hD, [], upd_same, .nil⟩, ?_⟩
    rintro i m H2 ⟨rfl, hi, lw⟩
    by_cases lt : i < rows.length
    · refine .inr ⟨by show i < (rows.length : Int).toNat; omega, fun Hx => LW D H1 (rows.take (i + 1)).flatten Hx, fun Hx q => ⟨rows.length - (i + 1), by omega, rfl, lt, q⟩, ?_⟩
      rintro x H3 ⟨rfl, rfl⟩
      refine ⟨rfl, ?_⟩
      have hrw : rows[i]? = some rows[i] := List.getElem?_eq_getElem lt
      have hr6 := hw.r6 _ (List.getElem_mem lt)
      have etk : (rows.take (i + 1)).flatten = (rows.take i).flatten ++ rows[i] := by
        rw [take_snoc hrw, List.flatten_append]
        simp
      have hl0 : ((rows.take i).flatten).length ≤ 48 := by
        have := len_flat (rows := rows.take i) fun row hm => hw.r6 row (List.mem_of_mem_take hm)
        have := List.length_take_le i rows
        omega
      rw [etk]
      generalize rows[i] = row at *
      generalize (rows.take i).flatten = pre at *
      show tMeAt CW "ways" (spWays CW CN) _ (tVar 0) (tCons (tVar 1) tNil) _ H3 _
      have e2 : Ex H1 H3 := lw.2.1
      refine t_ways (i := i) (ev_var rfl) (hw1.up e2) ?_ hrw fun u H4 e4 hu => ?_
      · rw [show (V.int (i : Int)) = V.int ((0 : Int) + (i : Int)) by rw [Int.zero_add]]
        exact ev_var rfl
      · have lw4 := lw.ext e4
        obtain ⟨_, _, us4, hd4, _⟩ := lw4
        unfold rd at hu
        cases hu with
        | tup h1 h2 =>
          rename_i ua xs
          have hxl := h2.length
          rw [List.length_map] at hxl
          have hne : ua ≠ D := by
            intro z
            rw [z, hd4] at h1
            cases h1
          have g1 : off D H4 ua = some (.tup xs) := (off_at hne).trans h1
          have g2 := wds_off hd4 h2
          refine ⟨ua, rfl, ⟨xs, st_of h1⟩, fun j k Hx => k = row.length - j ∧ j ≤ row.length ∧ LW D H1 (pre ++ row.take j) Hx ∧ Ex (off D H4) (off D Hx), ⟨row.length, by simp, Nat.zero_le _, by simpa using lw.ext e4, Ex.refl _⟩, ?_⟩
          rintro j m H5 ⟨rfl, hj, lw5, ex5⟩
          have s5 : SqT K H5 ua xs := st_of (off_in D H5 _ _ (ex5 _ _ g1))
          by_cases ltj : j < row.length
          · refine .inr ⟨walk_tup.goes j H5 (by omega) s5, fun Hx => LW D H1 (pre ++ row.take (j + 1)) Hx ∧ Ex (off D H4) (off D Hx), fun Hx q => ⟨row.length - (j + 1), by omega, rfl, ltj, q.1, q.2⟩, ?_⟩
            intro y H6 hy
            have hyy := walk_tup.yields j H5 y H6 (by omega) s5 hy
            obtain ⟨rfl, hy2⟩ := hyy
            refine ⟨rfl, ?_⟩
            show ∃ z, _ ∧ _
            refine ⟨y, rfl, ?_⟩
            obtain ⟨w, hw1, hw2⟩ := DqA.wds_inv g2 hy2
            have etj : row.take (j + 1) = row.take j ++ [w] := take_snoc hw1
            obtain ⟨acc, a1, a2, a3⟩ := lw5.put (w := w) (u := y) (by rw [List.length_append, List.length_take]; omega) (hw2.mono ex5)
            refine ⟨acc, a1, a2, ?_, ?_⟩
            · rw [etj, ← List.append_assoc]
              exact a3
            · rw [off_upd]
              exact ex5
          · have ej : j = row.length := by omega
            subst ej
            refine .inl ⟨?_, ?_⟩
            · have := (walk_tup (K := K) (a := ua) (xs := xs)).stops H5 s5
              rw [hxl] at this
              exact this
            · rw [List.take_length] at lw5
              exact lw5
    · have ei : i = rows.length := by omega
      subst ei
      obtain ⟨l1, l2, us, l3, l4⟩ := lw
      rw [List.take_length] at l4
      refine .inl ⟨by show (rows.length : Int).toNat ≤ rows.length; omega, ?_⟩
      exact k H2 D us (e1.trans l2) (fresh_back e1 hD) l3 (l4.mono (off_in D H2))
end
end Wk

set_option Elab.async false
set_option linter.all false
set_option maxRecDepth 100000
set_option maxHeartbeats 2000000
namespace Wk
open L2 PySem PySem.Spec PyProof.Rows Evl
theorem asc_eq : ∀ {l m : List Nat}, l.Pairwise (· < ·) → m.Pairwise (· < ·) → (∀ x, x ∈ l ↔ x ∈ m) → l = m
  | [], [], _, _, _ => rfl
  | [], b :: m, _, _, h => absurd ((h b).mpr List.mem_cons_self) (by simp)
  | a :: l, [], _, _, h => absurd ((h a).mp List.mem_cons_self) (by simp)
  | a :: l, b :: m, h1, h2, h => by
    obtain ⟨ha, hl⟩ := List.pairwise_cons.mp h1
    obtain ⟨hb, hm⟩ := List.pairwise_cons.mp h2
    have e : a = b := by
      rcases List.mem_cons.mp ((h a).mp List.mem_cons_self) with z | z
      · exact z
      · rcases List.mem_cons.mp ((h b).mpr List.mem_cons_self) with y | y
        · exact y.symm
        · have := ha b y
          have := hb a z
          omega
    subst e
    rw [asc_eq hl hm fun x => ?_]
    constructor
    · intro hx
      rcases List.mem_cons.mp ((h x).mp (List.mem_cons_of_mem _ hx)) with z | z
      · have := ha x hx
        omega
      · exact z
    · intro hx
      rcases List.mem_cons.mp ((h x).mpr (List.mem_cons_of_mem _ hx)) with z | z
      · have := hb x hx
        omega
      · exact z
def prW (w : Wy) : Wy := [w.getD 1 0, w.getD 0 0]
def lnB (w : Wy) : Bool := !decide (w.getD 1 0 = 0)
def pairsW (rows : List (List Wy)) : List Wy := (rows.flatten.filter lnB).map prW
def cdW (c : Nat) : Wy := [((c / 8 : Nat) : Int), ((c % 8 : Nat) : Int)]
def linesW (rows : List (List Wy)) : List Wy := ((List.range 64).filter fun c => decide (cdW c ∈ pairsW rows)).map cdW
theorem cd_pair {u v : Nat} (hv : v < 8) : cdW (u * 8 + v) = [(u : Int), (v : Int)] := by
  unfold cdW
  rw [show (u * 8 + v) / 8 = u by omega, show (u * 8 + v) % 8 = v by omega]
def enW (w : Wy) : Nat := (w.getD 0 0).toNat * 8 + (w.getD 1 0).toNat
theorem lines_unique {rows : List (List Wy)} {M : List Wy} (hb : ∀ p ∈ pairsW rows, ∃ u v : Nat, u < 8 ∧ v < 8 ∧ p = [(u : Int), (v : Int)]) (hm : ∀ p, p ∈ M ↔ p ∈ pairsW rows) (nd : M.Nodup)
    (pw : M.Pairwise fun q r => TS.code 64 q ≤ TS.code 64 r) : M = linesW rows := by
  have hM : ∀ p ∈ M, ∃ u v : Nat, u < 8 ∧ v < 8 ∧ p = [(u : Int), (v : Int)] := fun p hp => hb p ((hm p).mp hp)
  have e1 : (M.map enW).map cdW = M := by
    rw [List.map_map]
    refine (List.map_congr_left fun p hp => ?_).trans (List.map_id M)
    obtain ⟨u, v, hu, hv, rfl⟩ := hM p hp
    show cdW ((u : Int).toNat * 8 + (v : Int).toNat) = _
    rw [Int.toNat_natCast, Int.toNat_natCast, cd_pair hv]
    rfl
  have e2 : (M.map enW).Pairwise (· < ·) := by
    rw [List.pairwise_map]
    refine List.Pairwise.imp_of_mem (R := fun q r => TS.code 64 q ≤ TS.code 64 r ∧ q ≠ r) ?_ (pw.and nd)
    intro q r hq hr ⟨h, hne⟩
    obtain ⟨u, v, hu, hv, rfl⟩ := hM q hq
    obtain ⟨x, y, hx, hy, rfl⟩ := hM r hr
    have z := pair_lt h hne (by omega) (by omega) (by omega) (by omega)
    show (u : Int).toNat * 8 + (v : Int).toNat < (x : Int).toNat * 8 + (y : Int).toNat
    rw [Int.toNat_natCast, Int.toNat_natCast, Int.toNat_natCast, Int.toNat_natCast]
    omega
  have e3 : ((List.range 64).filter fun c => decide (cdW c ∈ pairsW rows)).Pairwise (· < ·) := List.Pairwise.filter _ List.pairwise_lt_range
  have e4 : M.map enW = (List.range 64).filter fun c => decide (cdW c ∈ pairsW rows) := by
    refine asc_eq e2 e3 fun c => ?_
    rw [List.mem_map, List.mem_filter, List.mem_range, decide_eq_true_eq]
    constructor
    · rintro ⟨p, hp, rfl⟩
      have hp2 := (hm p).mp hp
      obtain ⟨u, v, hu, hv, rfl⟩ := hM p hp
      have ee : enW [(u : Int), (v : Int)] = u * 8 + v := by
        show (u : Int).toNat * 8 + (v : Int).toNat = _
        rw [Int.toNat_natCast, Int.toNat_natCast]
      rw [ee]
      exact ⟨by omega, by rw [cd_pair hv]; exact hp2⟩
    · rintro ⟨hc, hp⟩
      refine ⟨cdW c, (hm _).mpr hp, ?_⟩
      show (((c / 8 : Nat) : Int)).toNat * 8 + (((c % 8 : Nat) : Int)).toNat = c
      rw [Int.toNat_natCast, Int.toNat_natCast]
      omega
  rw [← e1, e4]
  rfl
theorem pairs_bd {rows : List (List Wy)} (hG : GW rows) (h8 : rows.length ≤ 8) : ∀ p ∈ pairsW rows, ∃ u v : Nat, u < 8 ∧ v < 8 ∧ p = [(u : Int), (v : Int)] := by
  intro p hp
  obtain ⟨w, hw, rfl⟩ := List.mem_map.mp hp
  obtain ⟨hw, _⟩ := List.mem_filter.mp hw
  obtain ⟨row, hr, hwr⟩ := List.mem_flatten.mp hw
  obtain ⟨i, hi, rfl⟩ := List.getElem_of_mem hr
  have ok := hG.ok i _ (List.getElem?_eq_getElem hi) w hwr
  have l2 := ok.l2
  have g : ∀ k, k < 2 → ∃ n : Nat, n < 8 ∧ w.getD k 0 = (n : Int) := by
    intro k hk
    have hkl : k < w.length := by omega
    have e : w.getD k 0 = w[k] := by
      rw [List.getD_eq_getElem?_getD, List.getElem?_eq_getElem hkl]
      rfl
    have b := ok.rg _ (List.getElem_mem hkl)
    refine ⟨(w[k]).toNat, by omega, ?_⟩
    rw [e]
    omega
  obtain ⟨u, hu, eu⟩ := g 1 (by omega)
  obtain ⟨v, hv, ev⟩ := g 0 (by omega)
  exact ⟨u, v, hu, hv, by unfold prW; rw [eu, ev]⟩
end Wk

set_option Elab.async false
set_option linter.all false
set_option maxRecDepth 100000
set_option maxHeartbeats 2000000
namespace Wk
open L2 PySem PySem.Spec PyProof.Rows Evl
/-- what has grown as pairs of an address and whole numbers -/
theorem grown_ks {z : Nat → Wy} {H : Hp} : ∀ {js : List Nat} {us : List V}, Grown (TupY fun i => (z i).map V.int) H js us → ∃ ks : List (Addr × List Int), us = (ks.map fun p => V.ref p.1) ∧ ks.map (·.2) = js.map z ∧
    ∀ p ∈ ks, H p.1 = some (.tup (p.2.map V.int))
  | [], us, h => ⟨[], h, rfl, fun p hp => by cases hp⟩
  | j :: js, us, ⟨u, r, h1, ⟨b, h2, h3⟩, h4⟩ => by
    obtain ⟨ks, k1, k2, k3⟩ := grown_ks h4
    subst h1 h2
    refine ⟨(b, z j) :: ks, by rw [k1]; rfl, by rw [List.map_cons, k2]; rfl, ?_⟩
    intro p hp
    rcases List.mem_cons.mp hp with e | e
    · subst e
      exact h3
    · exact k3 p e
theorem ks_wds {H : Hp} : ∀ {ks : List (Addr × List Int)}, (∀ p ∈ ks, H p.1 = some (.tup (p.2.map V.int))) → DqA H (ks.map fun p => V.ref p.1) ((ks.map (·.2)).map wd)
  | [], _ => .nil
  | p :: ks, h => .cons (wd_of (h p List.mem_cons_self)) (ks_wds fun q hq => h q (List.mem_cons_of_mem _ hq))
theorem upTo_pairs {l : List Wy} (p : Wy) : p ∈ (upTo (fun i => lnB (l.getD i [])) l.length).map (fun i => prW (l.getD i [])) ↔ p ∈ (l.filter lnB).map prW := by
  unfold upTo
  have gd : ∀ i (h : i < l.length), l.getD i [] = l[i] := fun i h => by
    rw [List.getD_eq_getElem?_getD, List.getElem?_eq_getElem h]
    rfl
  constructor
  · intro h
    obtain ⟨i, hi, rfl⟩ := List.mem_map.mp h
    obtain ⟨h1, h2⟩ := List.mem_filter.mp hi
    have h3 := List.mem_range.mp h1
    rw [gd i h3] at h2 ⊢
    exact List.mem_map.mpr ⟨_, List.mem_filter.mpr ⟨List.getElem_mem h3, h2⟩, rfl⟩
  · intro h
    obtain ⟨w, hw, rfl⟩ := List.mem_map.mp h
    obtain ⟨h1, h2⟩ := List.mem_filter.mp hw
    obtain ⟨i, hi, rfl⟩ := List.getElem_of_mem h1
    refine List.mem_map.mpr ⟨i, List.mem_filter.mpr ⟨List.mem_range.mpr hi, ?_⟩, ?_⟩
    · rw [gd i hi]
      exact h2
    · rw [gd i hi]
section
variable {P : Program} {w : World} {K : PySem.W.Frag} {mg : Str → Option Value} {base : Heap} {f : Addr} {fd : FuncData} {CW CN : Addr}
/-! Wishes.lines -/
def spLines (CW : Addr) : Sp := fun vs H Q _ => ∃ (v : V) (rows : List (List Wy)), vs = [v] ∧ WO CW H v rows ∧ ∀ H' l us, Ex H H' → H l = none → H' l = some (.lst us) → DqA H' us ((linesW rows).map wd) → Q (.ref l) H'
abbrev nLines : List Str := ["self", "way"]
abbrev sLines : Stmt := inClass (top 30) 3
theorem scLines : FnScope nLines ["self"] (defScope sLines) := ⟨rfl, rfl, rfl, by decide +kernel, rfl, by decide +kernel, by decide +kernel⟩
theorem ok_lines (B : Bl mg) (hs : mg "sorted" = none) (C : Cal P w K mg base "let_ways" ["wishes"] 6 (spLetWays CW)) (F : FnM K "lines" "Wishes.lines" sLines f fd) : FnOk P w K mg base CX0 7 f fd ["self"] (spLines CW) := by
  refine F.ok scLines (fun vs H Q E h => ?_) (fun cdv A outer s H vs Q E hr h => ?_)
  · obtain ⟨v, rows, rfl, _⟩ := h
    rfl
  · obtain ⟨v, rows, rfl, hw, k⟩ := h
    have hu : (A.deeper (envOfC "Wishes.lines" (defScope sLines) s.heap.objs.size f cdv)).units + 64 < cLine := by have := hr.un; omega
    refine ⟨_, pss_one (ps_ret (pe_callB (cr_sortedT rfl) (by rfl) hs boot_sorted (pa_cons (pe_callTy (cr_setOfT rfl hu) (by rfl) B.set PyProof.Rows.boot_set (pa_cons
      (pe_lc (own := [("way", 1)]) (g := gName 1) (tt := tTest (tOp rNe (tOp (rIxT K) (tVar 1) (tC (.int 1))) (tC (.int 0)))) (te := tTup (tCons (tOp (rIxT K) (tVar 1) (tC (.int 1))) (tCons (tOp (rIxT K) (tVar 1) (tC (.int 0))) tNil))) rfl scLines.nd
        (pi_list (pe_cal C hr (by rfl) (pa_cons (pv 0) pa_nil))) (blkOk_by (N := nLines) (sc := defScope sLines) (by decide +kernel)) (fun _ _ _ _ _ => pg_name (i := 1) scLines.nd rfl (Or.inl rfl))
        (fun _ _ _ _ _ => pts_one (pt_cmpR op_ne (pe_ix ix_tup (pv 1) pe_int (fun _ _ => rfl)) pe_int (nomark _)))
        (fun _ _ _ _ _ => pe_tup (pa_cons (pe_ix ix_tup (pv 1) pe_int (fun _ _ => rfl)) (pa_cons (pe_ix ix_tup (pv 1) pe_int (fun _ _ => rfl)) pa_nil)))) pa_nil)) pa_nil))), ?_⟩
    have hlf := len_flat hw.r6
    have n8 := hw.n8
    have hpb := pairs_bd hw.g hw.n8
    refine ret_cb (cb1 ?_)
    refine ⟨v, rfl, v, rows, rfl, hw, fun H1 l us e1 hl0 hl hus => ?_⟩
    have hul := hus.length
    rw [List.length_map] at hul
    have two : ∀ {i : Nat} {x : V}, us[i]? = some x → ∃ (a : Addr) (w : Wy), x = .ref a ∧ rows.flatten.getD i [] = w ∧ H1 a = some (.tup (w.map V.int)) ∧ atI (w.map V.int) 1 = some (.int (w.getD 1 0)) ∧ atI (w.map V.int) 0 = some (.int (w.getD 0 0)) := by
      intro i x hx
      obtain ⟨w, h1, h2⟩ := DqA.wds_inv hus hx
      obtain ⟨a, rfl, ha⟩ := wd_ref h2
      obtain ⟨row, hr, hwr⟩ := List.mem_flatten.mp (List.mem_of_getElem? h1)
      obtain ⟨j, hj, rfl⟩ := List.getElem_of_mem hr
      have ok := hw.g.ok j _ (List.getElem?_eq_getElem hj) w hwr
      have l2 := ok.l2
      refine ⟨a, w, rfl, by rw [List.getD_eq_getElem?_getD, h1]; rfl, ha, ?_, ?_⟩
      · refine atI_nat (j := 1) ?_
        rw [List.getElem?_map, List.getD_eq_getElem?_getD, List.getElem?_eq_getElem (by omega)]
        rfl
      · refine atI_nat (j := 0) ?_
        rw [List.getElem?_map, List.getD_eq_getElem?_getD, List.getElem?_eq_getElem (by omega)]
        rfl
    refine ⟨l, rfl, ⟨us, sq_of hl⟩, fun D hD => ?_⟩
    refine grow_lc (walk_list (K := K) (a := l) (xs := us)) (Yx := fun i x => us[i]? = some x) (tupY_good fun i => (prW (rows.flatten.getD i [])).map V.int) (fun i => lnB (rows.flatten.getD i [])) hD (by omega)
      (fun H' e => sq_of (e _ _ hl)) (fun x => rfl) (fun i x H' e hi hx => ?_) (fun i x H' e hi hx _ => ?_) (fun us2 H2 e2 hd g => ?_)
    · obtain ⟨a, w, rfl, ew, ha, at1, _⟩ := two hx
      rw [ew]
      have i1 : Ev (tOp (rIxT K) (tVar 1) (tC (.int 1))) ((wipe (start nLines [v]) [1]).set 1 (some (.ref a))) H' (.int (w.getD 1 0)) := ev_op (ev_var rfl) ev_c (rv_ixT (st_of (e _ _ ha)) at1)
      refine et_is (et_test (ev_op i1 ev_c (rv_ne rfl))) ?_
      unfold lnB
      congr 1
      exact decide_eq_decide.mpr ⟨fun z => by injection z, fun z => by rw [z]⟩
    · obtain ⟨a, w, rfl, ew, ha, at1, at0⟩ := two hx
      have i1 : Ev (tOp (rIxT K) (tVar 1) (tC (.int 1))) ((wipe (start nLines [v]) [1]).set 1 (some (.ref a))) H' (.int (w.getD 1 0)) := ev_op (ev_var rfl) ev_c (rv_ixT (st_of (e _ _ ha)) at1)
      have i0 : Ev (tOp (rIxT K) (tVar 1) (tC (.int 0))) ((wipe (start nLines [v]) [1]).set 1 (some (.ref a))) H' (.int (w.getD 0 0)) := ev_op (ev_var rfl) ev_c (rv_ixT (st_of (e _ _ ha)) at0)
      intro H3 e3 Q3 q
      refine (ea_cons i1 (ea_cons i0 ea_nil)) H3 e3 _ fun H4 e4 => ⟨by show 2 ≤ sizeLine; decide, fun p hp => q _ _ (e4.trans (Ex.new hp)) ⟨p, rfl, ?_⟩⟩
      show upd H4 p _ p = some (.tup ((prW (rows.flatten.getD i [])).map V.int))
      rw [ew]
      exact upd_same
    · obtain ⟨ks, k1, k2, k3⟩ := grown_ks g
      subst k1
      have hkl : ks.length < 64 := by
        have z := congrArg List.length k2
        rw [List.length_map, List.length_map] at z
        have := upTo_len (fun i => lnB (rows.flatten.getD i [])) us.length
        omega
      have hmem : ∀ p, p ∈ ks.map (·.2) ↔ p ∈ pairsW rows := by
        intro p
        rw [k2, hul]
        exact upTo_pairs p
      refine ⟨D, ks, rfl, sq_of hd, fun p hp => st_of (k3 p hp), hkl, fun a L ha h1 h2 => ?_⟩
      have ea := Ex.new (o := SetTO P w a L) ha
      refine ⟨a, L, 2, 64, rfl, upd_same, fun p hp => st_of (ea _ _ (k3 p (h1 p hp))), by decide, fun p hp => ?_, fun L' p pm nd l64 pw hp => ?_⟩
      · obtain ⟨u, v', hu', hv', ep⟩ := hpb p.2 ((hmem _).mp (List.mem_map.mpr ⟨p, h1 p hp, rfl⟩))
        rw [ep]
        refine ⟨rfl, fun m hm => ?_⟩
        rcases List.mem_cons.mp hm with z | z
        · omega
        · rcases List.mem_cons.mp z with z | z
          · omega
          · cases z
      · have eM : L'.map (·.2) = linesW rows := by
          refine lines_unique hpb (fun q => ?_) nd (List.pairwise_map.mpr pw)
          rw [← hmem]
          constructor
          · intro hq
            obtain ⟨r, hr', rfl⟩ := List.mem_map.mp hq
            exact List.mem_map.mpr ⟨r, h1 r (pm.mem_iff.mp hr'), rfl⟩
          · intro hq
            obtain ⟨r, hr', rfl⟩ := List.mem_map.mp hq
            obtain ⟨r2, hr2, e⟩ := List.mem_map.mp (h2 r hr')
            exact List.mem_map.mpr ⟨r2, pm.mem_iff.mpr hr2, e⟩
        have ep := Ex.new (o := .lst (L'.map fun q => V.ref q.1)) hp
        refine k _ p _ ((e1.trans e2).trans (ea.trans ep)) (fresh_back ((e1.trans e2).trans ea) hp) upd_same ?_
        rw [← eM]
        exact ks_wds fun q hq => ep _ _ (ea _ _ (k3 q (h1 q (pm.mem_iff.mp hq))))
end
end Wk

set_option Elab.async false
set_option linter.all false
set_option maxRecDepth 100000
set_option maxHeartbeats 2000000
namespace Wk
open L2 PySem PySem.Spec PyProof.Rows Evl
def keepW (rows : List (List Wy)) (ws : List Wy) : List (List Wy) := rows.map fun row => row.filter fun w => !decide (w ∈ ws)
theorem khas_in {kvs : List (List L2.Key × V)} {ws : List Wy} (h : KHas (fun i => keyW (ws.getD i [])) ws.length kvs) (w : Wy) : (valV kvs (keyW w)).isSome = decide (w ∈ ws) := by
  have gd : ∀ i (h : i < ws.length), ws.getD i [] = ws[i] := fun i h => by
    rw [List.getD_eq_getElem?_getD, List.getElem?_eq_getElem h]
    rfl
  rcases h (keyW w) with ⟨z, j, hj, e⟩ | ⟨z, n⟩
  · rw [z]
    have e2 := keyW_inj e
    rw [gd j hj] at e2
    exact (decide_eq_true (by rw [← e2]; exact List.getElem_mem hj)).symm
  · rw [z]
    refine (decide_eq_false ?_).symm
    intro hm
    obtain ⟨j, hj, e⟩ := List.getElem_of_mem hm
    exact n j hj (by show keyW (ws.getD j []) = _; rw [gd j hj, e])
/-- Wishes(lists), the lists good -/
theorem t_makeH {CW CB : Addr} {σ : L2.St} {H : Hp} {rows : List (List Wy)} {Q : VK} {W : L2.St → XK} {ta : TE} (ha : ∀ R : VK, (∀ v H1, Ex H H1 → Dq H1 v (pd rows) → R v H1) → ta σ H R) (hG : GW rows) (h2 : 2 ≤ rows.length) (h8 : rows.length ≤ 8)
    (h6 : ∀ row ∈ rows, row.length ≤ 6) (k : ∀ H' x, Ex H H' → WO CW H' (.ref x) rows → Q (.ref x) H') : tMkAt CW (spWI CW CB) W (tCons ta tNil) σ H Q := by
  refine ha _ fun v H1 e1 hv => fun x dx nx ndx nex => ?_
  have hdue := due_pd hG h2 h8 h6
  have hl : (itemsT (pd rows)).length = rows.length := by simp [pd, itemsT]
  refine ⟨H1, x, dx, v, pd rows, rfl, upd_same, fun b o hb => ?_, nx, hv, fun _ H2 e2 hx => ⟨rfl, ?_⟩, fun r hr => ?_⟩
  · rw [upd_ne (ne_of_none hb nx), upd_ne (ne_of_none hb ndx)]
    exact hb
  · rw [hl] at hx
    exact k H2 x (e1.trans e2) ⟨⟨x, dx, v, rfl, hx, hv.mono e2⟩, hG, h2, h8, h6⟩
  · rw [hdue] at hr
    cases hr
theorem q_asgW {te : TE} {tz : TS} {D : Ends} {σ : L2.St} {H : Hp} {i : Nat} (h : te σ H fun x H1 => tz D (σ.set i (some x)) H1) : tSeq (tAsg te (gName i)) tz D σ H := h
theorem ev_dNotInY {ty td : TE} {σ : L2.St} {H : Hp} {k : List L2.Key} {D : Addr} {kvs : List (List L2.Key × V)} (hy : EvY ty σ H (fun u H2 => ∃ b, u = .ref b ∧ H2 b = some (.tup (k.map kV)))) (hd : Ev td σ H (.ref D))
    (hD : H D = some (.dT kvs)) : Ev (tDNotIn ty td) σ H (.bl (!(valV kvs k).isSome)) := fun H1 e Q q => hy H1 e _ fun u H2 e2 hu => by
  obtain ⟨b, rfl, hb⟩ := hu
  exact hd H2 (e.trans e2) _ fun H3 e3 => ⟨D, valV kvs k, rfl, DGet.t ((e.trans (e2.trans e3)) _ _ hD) (e3 _ _ hb), q H3 (e2.trans e3)⟩
theorem range_rows {α : Type} (d : α) (l : List α) : (List.range l.length).map (fun i => l.getD i d) = l := by
  apply List.ext_getElem (by simp)
  intro i h1 h2
  rw [List.getElem_map, List.getElem_range, List.getD_eq_getElem?_getD, List.getElem?_eq_getElem h2]
  rfl
def RdY (rows : Nat → List Wy) : Nat → V → Hp → Prop := fun i u H => Dq H u (rd (rows i))
theorem rdY_good (rows : Nat → List Wy) : GoodY (RdY rows) := by
  refine ⟨fun i u H H' e h => Dq.mono e h, fun i u H D l hD h => ?_⟩
  unfold RdY rd at h ⊢
  cases h with
  | tup h1 h2 =>
    refine .tup ((off_at ?_).trans h1) (wds_off hD h2)
    intro z
    rw [z, hD] at h1
    cases h1
theorem grown_rds {rs : Nat → List Wy} {H : Hp} : ∀ {js : List Nat} {us : List V}, Grown (RdY rs) H js us → DqA H us ((js.map rs).map rd)
  | [], us, h => by
    rw [show us = [] from h]
    exact .nil
  | j :: js, us, ⟨u, r, h1, h2, h4⟩ => by
    subst h1
    exact .cons h2 (grown_rds h4)
theorem upTo_filter (g : Wy → Bool) (l : List Wy) : (upTo (fun i => g (l.getD i [])) l.length).map (fun i => l.getD i []) = l.filter g := by
  suffices h : ∀ n, n ≤ l.length → (upTo (fun i => g (l.getD i [])) n).map (fun i => l.getD i []) = (l.take n).filter g by
    have z := h l.length (Nat.le_refl _)
    rw [List.take_length] at z
    exact z
  intro n
  induction n with
  | zero => intro _; rfl
  | succ n ih =>
    intro hn
    have hl : l[n]? = some l[n] := List.getElem?_eq_getElem hn
    have gd : l.getD n [] = l[n] := by
      rw [List.getD_eq_getElem?_getD, hl]
      rfl
    have ih := ih (by omega)
    rw [take_snoc hl, List.filter_append]
    cases hg : g (l.getD n []) with
    | true =>
      rw [upTo_yes (f := fun i => g (l.getD i [])) hg, List.map_append, ih]
      rw [gd] at hg
      simp [hg, hl]
    | false =>
      rw [upTo_no (f := fun i => g (l.getD i [])) hg, ih]
      rw [gd] at hg
      simp [hg]
section
variable {P : Program} {w : World} {K : PySem.W.Frag} {mg : Str → Option Value} {base : Heap} {f : Addr} {fd : FuncData} {CW CN CB : Addr}
structure MkW (P : Program) (w : World) (K : PySem.W.Frag) (mg : Str → Option Value) (base : Heap) (CW CB : Addr) : Prop where
  tx : WTx K mg CW
  ex : ∃ (fI : Addr) (fd : FuncData), Mk K CW fI ∧ FnOk P w K mg base (L2.CX P w) 8 fI fd ["self", "lists"] (spWI CW CB) ∧ Binds K fd ["self", "lists"] []
end
end Wk


set_option Elab.async false
set_option linter.all false
set_option maxRecDepth 100000
set_option maxHeartbeats 2000000
namespace Wk
open L2 PySem PySem.Spec PyProof.Rows Evl
def isLi : PyData → Bool
  | .list _ => true
  | _ => false
theorem kit_lst (d : PyData) : kitB (tyN d) "list" = some (isLi d) := by
  cases d with
  | none => exact show kitB "NoneType" "list" = some false by decide +kernel
  | bool b => exact show kitB "bool" "list" = some false by decide +kernel
  | int i => exact show kitB "int" "list" = some false by decide +kernel
  | str z => exact show kitB "str" "list" = some false by decide +kernel
  | list ds => exact show kitB "list" "list" = some true by decide +kernel
  | tuple ds => exact show kitB "tuple" "list" = some false by decide +kernel
  | dict ds => exact show kitB "dict" "list" = some false by decide +kernel
def iSq (K : PySem.W.Frag) (tl : TE) : TI := fun σ H R => iList K tl σ H R ∨ iTup K tl σ H R
theorem pi_sqK {X : Cx} {K : PySem.W.Frag} {tg l : Expr} {tl : TE} (hK : X.K = K) (hl : PE X l tl) : PI X tg l (iSq K tl) := by
  subst hK
  exact ⟨fun pins s σ H R I h => h.elim (fun z => (pi_list hl).run pins s σ H R I z) (fun z => (pi_tup hl).run pins s σ H R I z)⟩
theorem pe_or2 {X : Cx} {e : Expr} {t u : TE} (h1 : PE X e t) (h2 : PE X e u) : PE X e (fun σ H Q => t σ H Q ∨ u σ H Q) :=
  ⟨fun pins s σ H Q I h => h.elim (fun z => h1.run pins s σ H Q I z) (fun z => h2.run pins s σ H Q I z)⟩
section
variable {X : Cx}
/-- len(set(xs)), xs a list of tuples of ints -/
def tLenSLU (K : PySem.W.Frag) (ta : TE) : TE := fun σ H Q => ta σ H fun x H1 => ∃ (l : Addr) (ks : List (Addr × List Int)), x = V.ref l ∧ SqL K H1 l (ks.map fun p => V.ref p.1) ∧ (∀ p ∈ ks, SqT K H1 p.1 (p.2.map V.int)) ∧ ks.length < 64 ∧
  ∀ n : Nat, (n = ks.length ↔ (ks.map (·.2)).Nodup) → Q (.int n) H1
theorem pe_lenSLU {a : Expr} {ta : TE} {p p2 q pos : Pos} (hc : X.calm = true) (hu : X.A.units + 64 < cLine) (hg : Gl X "len") (hm : X.mg "len" = none) (hg2 : Gl X "set") (hm2 : X.mg "set" = none) (ha : PE X a ta)
    (na : starEach [a] X.env = (false, eval a X.env) :: starEach [] X.env := by rfl) : PE X (.Call (.Name "len" p) [.Call (.Name "set" p2) [a] [] q] [] pos) (tLenSLU X.K ta) := by
  refine ⟨fun pins s σ H Q I h => Call_ (ld_blt I hg hm PySem.boot_len (PyProof.Rows.callWith_builtin1 (PyProof.Rows.args_cons (Call_ (ld_blt I hg2 hm2 PyProof.Rows.boot_set ?_)) rfl) rfl rfl))⟩
  refine PyProof.Rows.callWith_type1 (PyProof.Rows.args_cons (thn (ha.run pins s σ H _ I h) fun v s1 hh => PyProof.Rows.args_nil ?_) na) na rfl
  obtain ⟨x, H1, I1, r1, l, ks, rfl, hq, hk, few, q1⟩ := hh
  cases r1
  obtain ⟨its, r, pl, hz⟩ := I1.list hq
  refine call_set_tups (P := X.prog) (w := X.w) ks (I1.ok.hd hc) pl.isList (by simpa using refs_of_vals r) (fun p hp => I1.isT (hk p hp)) few (by omega) fun h' tk L es ep t R g k => PyProof.Rows.args_nil ?_
  have I2 : Inv X pins σ H1 { s1 with heap := h', toks := tk } := I1.kept fun b o e => k b o e
  have hes : es.size = L.length := R.size (s := { s1 with heap := h', toks := tk })
  have hf := R.fits (s := { s1 with heap := h', toks := tk })
  obtain ⟨o, ho, hex, hd⟩ := R.ob
  refine call_len_set (s := { s1 with heap := h', toks := tk }) ho hex hd hf (by have := R.few; omega) ⟨.int es.size, H1, I2.tok _, ⟨_, rfl⟩, q1 es.size ?_⟩
  have e1 : (L.map (·.2)).length = es.size := by simp [hes]
  have e2 : (ks.map (·.2)).length = ks.length := by simp
  rw [← e1, ← e2]
  refine nd_iff R.nd fun k => ⟨fun z => ?_, fun z => ?_⟩
  · obtain ⟨p, hp, rfl⟩ := List.mem_map.mp z
    exact List.mem_map.mpr ⟨p, List.mem_of_mem_take (g.sub p hp), rfl⟩
  · obtain ⟨p, hp, rfl⟩ := List.mem_map.mp z
    exact g.all p (by rw [List.take_length]; exact hp)
end
section
variable {K : PySem.W.Frag} {σ : L2.St} {H : Hp} {ta tb tl te : TE}
def tLenSq (K : PySem.W.Frag) (ta : TE) : TE := fun σ H Q => tLenSLU K ta σ H Q ∨ tLenSUU K ta σ H Q
theorem ev_lenSq {l : Addr} {ks : List (Addr × List Int)} (ha : Ev ta σ H (.ref l)) (h : H l = some (.lst (ks.map fun p => V.ref p.1)) ∨ H l = some (.tup (ks.map fun p => V.ref p.1))) (hk : ∀ p ∈ ks, H p.1 = some (.tup (p.2.map V.int))) (hl : ks.length < 64)
    (hb : Ev tb σ H (.int (ks.length : Int))) : Ev (tOp rEq (tLenSq K ta) tb) σ H (.bl (decide (ks.map (·.2)).Nodup)) := by
  have fin : ∀ H2 (Q : VK), Ex H H2 → (∀ H3, Ex H2 H3 → Q (.bl (decide (ks.map (·.2)).Nodup)) H3) → ∀ m : Nat, (m = ks.length ↔ (ks.map (·.2)).Nodup) → tb σ H2 fun y H3 => rEq (.int (m : Int)) y H3 Q := by
    intro H2 Q e2 q m hm
    refine hb H2 e2 _ fun H3 e3 => ⟨rfl, ?_⟩
    have ed : decide (V.int (m : Int) = V.int (ks.length : Int)) = decide (ks.map (·.2)).Nodup := by
      rw [decide_eq_decide]
      constructor
      · intro z
        injection z with z
        exact hm.mp (by omega)
      · intro z
        rw [hm.mpr z]
    rw [ed]
    exact q H3 e3
  intro H1 e Q q
  rcases h with h | h
  · exact .inl (ha H1 e _ fun H2 e2 => ⟨l, ks, rfl, sq_of ((e.trans e2) _ _ h), fun p hp => st_of ((e.trans e2) _ _ (hk p hp)), hl, fin H2 Q (e.trans e2) fun H3 e3 => q H3 (e2.trans e3)⟩)
  · exact .inr (ha H1 e _ fun H2 e2 => ⟨l, ks, rfl, st_of ((e.trans e2) _ _ h), fun p hp => st_of ((e.trans e2) _ _ (hk p hp)), hl, fin H2 Q (e.trans e2) fun H3 e3 => q H3 (e2.trans e3)⟩)
/-- all([e for x in xs]), xs a list or a tuple -/
theorem ev_allSq {a : Addr} {xs : List V} {j : Nat} {vs : List Nat} (f : Nat → Bool) (h : Ev tl σ H (.ref a)) (hx : H a = some (.lst xs) ∨ H a = some (.tup xs)) (hz : xs.length ≤ 1000) (hw : ∀ x, wipe ((wipe σ vs).set j (some x)) vs = wipe σ vs)
    (he : ∀ (i : Nat) (x : V) H1, Ex H H1 → xs[i]? = some x → Ev te ((wipe σ vs).set j (some x)) H1 (.bl (f i))) :
    Ev (tCB (rAll K) (tCons (tLc (iSq K tl) (gName j) tYes te vs) tNil)) σ H (.bl (((List.range xs.length).map f).all id)) := by
  rcases hx with hx | hx
  · have q := ev_allL (K := K) (ta := tLc (iList K tl) (gName j) tYes te vs) (σ := σ) (H := H) (bs := (List.range xs.length).map f) (by
      have q := el_lcL (K := K) (te := te) (t := tYes) (fun _ => true) (fun k => .bl (f k)) h (sq_of hx) (by omega) hw (fun _ _ _ _ _ => et_yes) (fun i x H1 e hi _ => he i x H1 e hi)
      rw [given_all] at q
      rw [List.map_map]
      exact q)
    exact fun H1 e Q k => Or.inl (q H1 e Q k)
  · have q := ev_allT (K := K) (te := te) f h (st_of hx) (by omega) hw he
    exact fun H1 e Q k => Or.inr (q H1 e Q k)
end
end Wk

set_option Elab.async false
set_option linter.all false
set_option maxRecDepth 100000
set_option maxHeartbeats 2000000
namespace Wk
open L2 PySem PySem.Spec PyProof.Rows Evl
theorem perm_back {α β : Type} {f : α → β} : ∀ {ys xs : List β}, ys.Perm xs → ∀ {l : List α}, xs = l.map f → ∃ l' : List α, l'.Perm l ∧ ys = l'.map f := by
  intro ys xs h
  induction h with
  | nil =>
    intro l e
    have : l = [] := by
      cases l with
      | nil => rfl
      | cons a l => cases e
    subst this
    exact ⟨[], List.Perm.refl _, rfl⟩
  | cons x _ ih =>
    intro l e
    cases l with
    | nil => cases e
    | cons a l =>
      rw [List.map_cons] at e
      injection e with e1 e2
      obtain ⟨l', p, q⟩ := ih e2
      exact ⟨a :: l', p.cons a, by rw [List.map_cons, ← q, e1]⟩
  | swap x y l0 =>
    intro l e
    match l, e with
    | a :: b :: l, e =>
      rw [List.map_cons, List.map_cons] at e
      injection e with e1 e2
      injection e2 with e2 e3
      exact ⟨b :: a :: l, List.Perm.swap _ _ _, by rw [List.map_cons, List.map_cons, ← e1, ← e2, e3]⟩
  | trans _ _ ih1 ih2 =>
    intro l e
    obtain ⟨l2, p2, q2⟩ := ih2 e
    obtain ⟨l1, p1, q1⟩ := ih1 q2
    exact ⟨l1, p1.trans p2, q1⟩
def stF (acc : List Wy) (w : Wy) : List Wy := if lnB w && !decide (prW w ∈ acc) then acc ++ [prW w] else acc
def fnd (l : List Wy) : List Wy := l.foldl stF []
theorem fnd_snoc (l : List Wy) (w : Wy) : fnd (l ++ [w]) = stF (fnd l) w := by
  unfold fnd
  rw [List.foldl_append]
  rfl
theorem fnd_len : ∀ l : List Wy, (fnd l).length ≤ l.length := by
  suffices h : ∀ (l acc : List Wy), (l.foldl stF acc).length ≤ acc.length + l.length by
    intro l
    have := h l []
    simpa [fnd] using this
  intro l
  induction l with
  | nil => intro acc; simp
  | cons w l ih =>
    intro acc
    have h1 := ih (stF acc w)
    have h2 : (stF acc w).length ≤ acc.length + 1 := by
      unfold stF
      split
      · simp
      · omega
    rw [List.foldl_cons, List.length_cons]
    omega
theorem fnd_ok (l : List Wy) : (fnd l).Nodup ∧ ∀ p, p ∈ fnd l ↔ p ∈ (l.filter lnB).map prW := by
  suffices h : ∀ (l acc : List Wy), acc.Nodup → (l.foldl stF acc).Nodup ∧ ∀ p, p ∈ l.foldl stF acc ↔ p ∈ acc ∨ p ∈ (l.filter lnB).map prW by
    have z := h l [] List.nodup_nil
    exact ⟨z.1, fun p => by rw [show fnd l = l.foldl stF [] from rfl, z.2]; simp⟩
  intro l
  induction l with
  | nil => intro acc h; exact ⟨h, fun p => by simp⟩
  | cons w l ih =>
    intro acc h
    rw [List.foldl_cons]
    cases hl : lnB w with
    | false =>
      have e : stF acc w = acc := by unfold stF; rw [hl]; rfl
      rw [e, List.filter_cons_of_neg (by rw [hl]; decide)]
      exact ih acc h
    | true =>
      rw [List.filter_cons_of_pos hl, List.map_cons]
      by_cases hm : prW w ∈ acc
      · have e : stF acc w = acc := by
          unfold stF
          rw [hl, decide_eq_true hm]
          rfl
        rw [e]
        obtain ⟨a, b⟩ := ih acc h
        refine ⟨a, fun p => ?_⟩
        rw [b, List.mem_cons]
        constructor
        · rintro (z | z)
          · exact .inl z
          · exact .inr (.inr z)
        · rintro (z | z | z)
          · exact .inl z
          · rw [z]
            exact .inl hm
          · exact .inr z
      · have e : stF acc w = acc ++ [prW w] := by
          unfold stF
          rw [hl, decide_eq_false hm]
          rfl
        rw [e]
        obtain ⟨a, b⟩ := ih (acc ++ [prW w]) (by
          rw [List.nodup_append]
          refine ⟨h, by simp, ?_⟩
          intro x hx y hy z
          rw [List.mem_singleton] at hy
          rw [z, hy] at hx
          exact hm hx)
        refine ⟨a, fun p => ?_⟩
        rw [b, List.mem_append, List.mem_singleton, List.mem_cons, or_assoc]
theorem ln_len {n r : Nat} {w : Wy} (h : WyOk n r w) : decide ((w.length : Int) > 2) = lnB w := by
  have l2 := h.l2
  have lt := h.lt
  have nd := h.nd
  unfold lnB
  have h1 : w[1]? = some w[1] := List.getElem?_eq_getElem (by omega)
  have e1 : w.getD 1 0 = w[1] := by
    rw [List.getD_eq_getElem?_getD, h1]
    rfl
  rw [e1]
  rw [List.getLast?_eq_getElem?] at lt
  by_cases c : w.length = 2
  · rw [c] at lt
    rw [h1] at lt
    have z : w[1] = 0 := Option.some.inj lt
    rw [decide_eq_true z, decide_eq_false (by omega)]
    rfl
  · have hlt : w.length - 1 < w.length := by omega
    rw [List.getElem?_eq_getElem hlt] at lt
    have z : w[w.length - 1] = 0 := Option.some.inj lt
    have ne : ¬ w[1] = 0 := by
      intro y
      have := (List.pairwise_iff_getElem.mp nd) 1 (w.length - 1) (by omega) hlt (by omega)
      exact this (by rw [y, z])
    rw [decide_eq_false ne, decide_eq_true (by omega)]
    rfl
end Wk

set_option Elab.async false
set_option linter.all false
set_option maxRecDepth 100000
set_option maxHeartbeats 2000000
namespace Wk
open L2 PySem PySem.Spec PyProof.Rows Evl
theorem t_tupN {ta : TA} {σ : L2.St} {H : Hp} {Q : VK} (h : ta σ H fun vs H1 => vs.length ≤ sizeLine ∧ ∀ p, H1 p = none → Q (.ref p) (upd H1 p (.tup vs))) : tTup ta σ H Q := h
theorem tc1 {te : TE} {σ : L2.St} {H : Hp} {R : List V → Hp → Prop} (h : te σ H fun x H1 => R [x] H1) : tCons te tNil σ H R := h
theorem test_op {r : R2} {ta tb : TE} {σ : L2.St} {H : Hp} {Q : Bool → Hp → Prop} (h : ta σ H fun x H1 => tb σ H1 fun y H2 => r x y H2 fun z H3 => ∃ k, z = .bl k ∧ Q k H3) : tTest (tOp r ta tb) σ H Q := h
section
variable {P : Program} {w : World} {K : PySem.W.Frag} {mg : Str → Option Value} {base : Heap} {f : Addr} {fd : FuncData} {CW CN CB : Addr}
/-! _law_lines -/
def spLLines : Sp := fun vs H Q _ => ∃ (v : V) (rows : List (List Wy)), vs = [v] ∧ Dq H v (pd rows) ∧ GW rows ∧ rows.length ≤ 8 ∧ (∀ row ∈ rows, row.length ≤ 6) ∧ ∀ H' l us, Ex H H' → H l = none → H' l = some (.lst us) → DqA H' us ((linesW rows).map wd) → Q (.ref l) H'
abbrev nLLines : List Str := ["_law_lists_here", "_law_found", "_law_row", "_law_way"]
end
end Wk

set_option Elab.async false
set_option linter.all false
set_option maxRecDepth 100000
set_option maxHeartbeats 2000000
namespace Wk
open PySem PySem.Spec PyProof.Rows L2 Evl
theorem int_dec (a b : Int) : decide (V.int a = V.int b) = decide (a = b) := by
  rw [decide_eq_decide]
  exact ⟨fun z => by injection z, fun z => by rw [z]⟩
theorem dp_od_none {K : PySem.W.Frag} {H : Hp} {v : V} (h : Dp K H v (od none)) : v = .non := by
  cases h
  rfl
/-! items[way[1]] and way[1:], way at an address -/
section
variable {K : PySem.W.Frag} {σ : L2.St} {H : Hp}
theorem ev_second {tw : TE} {a : Addr} {w : Wy} {j : Nat} (hw : Ev tw σ H (.ref a)) (ha : SqT K H a (w.map V.int)) (hj : w[1]? = some (j : Int)) : Ev (tOp (rIxT K) tw (tC (.int 1))) σ H (.int (j : Int)) :=
  ev_op hw ev_c (rv_ixT ha (atI_nat (j := 1) (by rw [List.getElem?_map, hj]; rfl)))
theorem ev_at {ti tj : TE} {b : Addr} {xs : List V} {j : Nat} {x : V} (hi : Ev ti σ H (.ref b)) (hb : SqT K H b xs) (hj : Ev tj σ H (.int (j : Int))) (hx : xs[j]? = some x) : Ev (tOp (rIxT K) ti tj) σ H x := ev_op hi hj (rv_ixT hb (atI_nat hx))
theorem eq_tail {tw : TE} {a : Addr} {w : Wy} (hw : Ev tw σ H (.ref a)) (ha : SqT K H a (w.map V.int)) : EvQ K (tSl (rSlA K) tw (tPart (tC (.int 1))) tNoPart) σ H ((w.drop 1).map V.int) := by
  rw [← drop1]
  exact eq_sl hw (eo_some ev_c) eo_none ha
theorem ev_eqTail {tx ts : TE} {x : V} {o : Option Wy} {u : Wy} (hx : Ev tx σ H x) (hd : Dp K H x (od o)) (hs : EvQ K ts σ H (u.map V.int)) : Ev (tOp (rEqD K) tx ts) σ H (.bl (decide (o = some u))) := by
  rw [← eqv_od]
  exact ev_opQ hx hs fun p H1 hp e => fun H2 e2 Q2 q => ⟨od o, wd u, Dp.up (e.trans e2) hd, dp_of_wd (ex_t e2 hp), shaped_od o, shaped_wd u, q H2 (Ex.refl H2)⟩
theorem ev_neTail {tx ts : TE} {x : V} {o : Option Wy} {u : Wy} (hx : Ev tx σ H x) (hd : Dp K H x (od o)) (hs : EvQ K ts σ H (u.map V.int)) : Ev (tOp (rNeD K) tx ts) σ H (.bl (!decide (o = some u))) := by
  rw [← eqv_od]
  exact ev_opQ hx hs fun p H1 hp e => fun H2 e2 Q2 q => ⟨od o, wd u, Dp.up (e.trans e2) hd, dp_of_wd (ex_t e2 hp), shaped_od o, shaped_wd u, q H2 (Ex.refl H2)⟩
theorem ev_eqWy {tx ty : TE} {x y : V} {a b : Wy} (hx : Ev tx σ H x) (hy : Ev ty σ H y) (hd : Dp K H x (wd a)) (he : Dp K H y (wd b)) : Ev (tOp (rEqD K) tx ty) σ H (.bl (decide (a = b))) := by
  rw [← eqv_wd]
  exact ev_op hx hy fun H2 e2 Q2 q => ⟨wd a, wd b, Dp.up e2 hd, Dp.up e2 he, shaped_wd a, shaped_wd b, q H2 (Ex.refl H2)⟩
end
section
variable {P : Program} {w : World} {K : PySem.W.Frag} {mg : Str → Option Value} {base : Heap} {f : Addr} {fd : FuncData} {CW CN : Addr}
/-! cannot_stay -/
abbrev spStay (K : PySem.W.Frag) (CW : Addr) : Sp := spP fun H vs z => ∃ (wv iv : V) (i : Nat) (rows : List (List Wy)) (t : List (Option Wy)), vs = [wv, iv, .int (i : Int)] ∧ WO CW H wv rows ∧ Dp K H iv (.tuple (t.map od)) ∧ TkO rows t ∧ 1 ≤ i ∧ i < rows.length ∧ z = .bl (csB rows t i)
abbrev sStay : Stmt := top 21
abbrev nStay : List Str := ["wishes", "items", "router", "own", "way"]
theorem scStay : FnScope nStay ["wishes", "items", "router"] (defScope sStay) := ⟨rfl, rfl, rfl, by decide +kernel, rfl, by decide +kernel, by decide +kernel⟩
theorem ok_stay (B : Bl mg) (W : WC P w K mg base CW CN) (F : FnP K "cannot_stay" sStay f fd) : FnOk P w K mg base CX0 6 f fd ["wishes", "items", "router"] (spStay K CW) := by
  obtain ⟨fM, fdM, me, FM, bM⟩ := W.wy
  refine F.ok scStay (fun vs H Q E h => ?_) (fun cdv A outer s H vs Q E hr h => ?_)
  · obtain ⟨z, ⟨wv, iv, i, rows, t, rfl, _⟩, _⟩ := h
    rfl
  · obtain ⟨z, ⟨wv, iv, i, rows, t, rfl, hw, hv, ht, hi1, hin, rfl⟩, k⟩ := h
    have hu : (A.deeper (envOfC "cannot_stay" (defScope sStay) s.heap.objs.size f cdv)).units + 64 < cLine := by have := hr.un; omega
    have hu0 : (A.deeper (envOfC "cannot_stay" (defScope sStay) s.heap.objs.size f cdv)).units < cLine := by omega
    refine ⟨_, pss_cons (ps_set (i := 3) scStay.nd rfl (Or.inl rfl) (pe_ix ix_tup (pv 1) (pv 2) (fun _ _ => rfl)))
      (pss_cons (ps_if (pt_cmpR op_isN (pv 3) pe_non (nomark _)) (pss_one (ps_ret pe_bl)) pss_nil)
      (pss_cons (ps_if (PW.pt (pw_and (pt_cmpR (op_neEU hu0) (pv 3) (pe_tup pa_nil) (nomark _)) (pw_and (pt_cmpR op_notN (pe_ix ix_tup (pv 1) (pe_ix ix_tup (pv 3) pe_int (fun _ _ => rfl)) (fun _ _ => rfl)) pe_non (nomark _)) (pw_and1 (pt_cmpR (op_neD hu) (pe_ix ix_tup (pv 1) (pe_ix ix_tup (pv 3) pe_int (fun _ _ => rfl)) (fun _ _ => rfl)) (pe_slice sl_tupA (pv 3) (po_some pe_int) po_none) (nomark _)))))) (pss_one (ps_ret pe_bl)) pss_nil)
      (pss_cons (ps_for (passes_of rfl) rfl (pi_tup (pe_meAt (pv 0) W.tx.cl me FM hr bM (fun σ => passAt takes0 σ) (pa_cons (pv 2) pa_nil))) (pg_name (i := 4) scStay.nd rfl (Or.inl rfl))
        (pss_cons (ps_if (pt_cmpR (op_eqD hu) (pv 4) (pv 3) (nomark _)) (pss_one (ps_ret pe_bl)) pss_nil)
        (pss_one (ps_if (pt_cmpR (op_eqD hu) (pe_ix ix_tup (pv 1) (pe_ix ix_tup (pv 4) pe_int (fun _ _ => rfl)) (fun _ _ => rfl)) (pe_slice sl_tupA (pv 4) (po_some pe_int) po_none) (nomark _)) (pss_one (ps_ret pe_bl)) pss_nil))))
      (pss_one (ps_ret pe_bl))))), ?_⟩
    have hG := hw.g
    have hil : i < t.length := by rw [ht.len]; exact hin
    have hti : t[i]? = some t[i] := List.getElem?_eq_getElem hil
    have etg : t.getD i none = t[i] := by rw [List.getD_eq_getElem?_getD, hti]; rfl
    have hrw : rows[i]? = some rows[i] := List.getElem?_eq_getElem hin
    have erg : rows.getD i [] = rows[i] := by rw [List.getD_eq_getElem?_getD, hrw]; rfl
    unfold csB at k
    rw [etg, erg] at k
    generalize hox : t[i] = o at *
    generalize rows[i] = row at *
    cases hv with
    | tup hb hxs =>
      rename_i b xs
      have hxl := dpa_len hxs
      rw [List.length_map] at hxl
      obtain ⟨x, hx, hdx⟩ := dpa_at (i := i) (d := od o) hxs (by rw [List.getElem?_map, hti]; rfl)
      refine q_asg (ev_at (K := K) (ev_var (i := 1) rfl) hb (ev_var (i := 2) rfl) hx) fun H1 e1 => ?_
      change tSeq _ _ _ [some wv, some (.ref b), some (.int (i : Int)), some x, none] H1
      cases o with
      | none =>
        have ex := dp_od_none hdx
        subst ex
        refine q_when (b := decide (V.non = V.non)) (et_test (ev_op (ev_var rfl) ev_c fun H2 e2 Q2 q => ⟨rfl, q H2 (Ex.refl H2)⟩)) (fun hb2 H2 e2 => s_ret ev_c fun H3 e3 => k H3 ((e1.trans e2).trans e3)) (fun z => by simp at z)
      | some own =>
        obtain ⟨ao, rfl, hao⟩ := dp_wd hdx
        refine q_when (b := decide (V.ref ao = V.non)) (et_test (ev_op (ev_var rfl) ev_c fun H2 e2 Q2 q => ⟨rfl, q H2 (Ex.refl H2)⟩)) (fun z => by simp at z) (fun _ H2 e2 => ?_)
        have k' : ∀ (H' : Hp), Ex H H' → Q (.bl (if own ≠ [] ∧ t.getD (own.getD 1 0).toNat none ≠ none ∧ hit t own = false then true else csL t own row)) H' := k
        clear k
        -- the items of a way in some row
        have item : ∀ (u : Wy) (r : Nat) (row' : List Wy), rows[r]? = some row' → u ∈ row' → ∃ (j : Nat) (y : V) (oj : Option Wy), u[1]? = some (j : Int) ∧ (u.getD 1 0).toNat = j ∧ xs[j]? = some y ∧ Dp K H y (od oj) ∧ t.getD j none = oj := fun u r row' h1 h2 => by
          obtain ⟨j, j1, j2, j3, _⟩ := ways_in hG h1 h2
          have hjl : j < t.length := by rw [ht.len]; exact j3
          have htj : t[j]? = some t[j] := List.getElem?_eq_getElem hjl
          obtain ⟨y, y1, y2⟩ := dpa_at (i := j) (d := od t[j]) hxs (by rw [List.getElem?_map, htj]; rfl)
          exact ⟨j, y, t[j], j1, by rw [j2]; rfl, y1, y2, by rw [List.getD_eq_getElem?_getD, htj]; rfl⟩
        have hown : own ≠ [] → own ∈ row := fun hne => by
          have q := ht.ok i own hti
          unfold chW at q
          rw [if_neg (by omega), erg] at q
          rcases List.mem_append.mp q with z | z
          · exact z
          · exact absurd (List.mem_singleton.mp z) hne
        have vi : ∀ {H3 : Hp} {o4 : Option V}, Ev (tVar 1) [some wv, some (.ref b), some (.int (i : Int)), some (.ref ao), o4] H3 (.ref b) := ev_var rfl
        have vo : ∀ {H3 : Hp} {o4 : Option V}, Ev (tVar 3) [some wv, some (.ref b), some (.int (i : Int)), some (.ref ao), o4] H3 (.ref ao) := ev_var rfl
        refine q_when (b := decide (own ≠ [] ∧ t.getD (own.getD 1 0).toNat none ≠ none ∧ hit t own = false)) ?_ (fun hb2 H3 e3 => s_ret ev_c fun H4 e4 => ?_) (fun hb2 H3 e3 => ?_)
        · by_cases hne : own = []
          · refine et_is (et_and (a := false) (b := false) (et_test (ev_is (v := .bl (!(own.map V.int).isEmpty)) (ev_opU vo (eu_tup ea_nil (by simp)) fun c H3 hc e3 => fun H4 e4 Q2 q => ⟨ao, c, own.map V.int, rfl, rfl, ex_t (((e1.trans e2).trans e3).trans e4) hao, st_of (e4 _ _ hc), q H4 (Ex.refl H4)⟩) (by rw [hne]; rfl))) (fun z => by cases z)) (by simp [hne])
          · obtain ⟨j, y, oj, j1, j2, j3, j4, j5⟩ := item own i row hrw (hown hne)
            have e12 := e1.trans e2
            have hsec : Ev (tOp (rIxT K) (tVar 1) (tOp (rIxT K) (tVar 3) (tC (.int 1)))) [some wv, some (.ref b), some (.int (i : Int)), some (.ref ao), none] H2 y := ev_at vi (ex_t e12 hb) (ev_second vo (ex_t e12 hao) j1) j3
            refine et_is (et_and (a := true) (b := (!decide (y = V.non)) && !decide (oj = some (own.drop 1))) (et_test (ev_is (v := .bl (!(own.map V.int).isEmpty)) (ev_opU vo (eu_tup ea_nil (by simp)) fun c H3 hc e3 => fun H4 e4 Q2 q => ⟨ao, c, own.map V.int, rfl, rfl, ex_t ((e12.trans e3).trans e4) hao, st_of (e4 _ _ hc), q H4 (Ex.refl H4)⟩) (by cases own <;> first | exact absurd rfl hne | rfl)))
              (fun _ => et_and (et_test (ev_op hsec ev_c fun H3 e3 Q2 q => ⟨rfl, q H3 (Ex.refl H3)⟩)) fun _ => et_test (ev_neTail hsec (Dp.up e12 j4) (eq_tail vo (ex_t e12 hao))))) ?_
            rw [j2, j5]
            have hh : hit t own = decide (oj = some (own.drop 1)) := by unfold hit; rw [j2, j5]
            rw [hh]
            cases oj with
            | none =>
              rw [dp_od_none j4]
              simp
            | some u =>
              obtain ⟨_, rfl, _⟩ := dp_wd j4
              by_cases c : u = own.drop 1
              · simp [c]
              · simp [c, hne]
        · rw [if_pos (of_decide_eq_true hb2)] at k'
          exact k' H4 (((e1.trans e2).trans e3).trans e4)
        · have kk : ∀ (H' : Hp), Ex H H' → Q (.bl (csL t own row)) H' := fun H' e' => by
            have q := k' H' e'
            rw [if_neg (of_decide_eq_false hb2)] at q
            exact q
          clear k' hb2
          have e13 := (e1.trans e2).trans e3
          refine q_forCT (K := K) (fun l ys H4 => Ex H3 H4 ∧ H4 l = some (.tup ys) ∧ DqA H4 ys (row.map wd)) (fun Q2 kq => t_ways (ev_var (i := 0) rfl) (hw.up e13) (ev_var (i := 2) rfl) hrw fun u H4 e4 hu => ?_) ?_
          · unfold rd at hu
            cases hu with
            | tup u1 u2 => exact kq _ _ _ ⟨e4, u1, u2⟩
          rintro l ys H4 ⟨e4, hl, hys⟩
          have hyl := hys.length
          rw [List.length_map] at hyl
          refine ⟨st_of hl, fun m σ' H' => Ex H4 H' ∧ (∃ o4, σ' = [some wv, some (.ref b), some (.int (i : Int)), some (.ref ao), o4]) ∧ csL t own row = csL t own (row.drop m), ⟨Ex.refl _, ⟨_, rfl⟩, rfl⟩, fun m σ' H' _ p => st_of (p.1 _ _ hl), ?_, ?_⟩
          · rintro m y σ' H5 hy ⟨e5, ⟨o4, rfl⟩, hd⟩
            obtain ⟨u, hu1, hu2⟩ := hys.wds_inv hy
            have hum := List.mem_of_getElem? hu1
            obtain ⟨au, rfl, hau⟩ := wd_ref hu2
            have hdrop := csL_drop (t := t) (own := own) hu1
            obtain ⟨j, yj, oj, j1, j2, j3, j4, j5⟩ := item u i row hrw hum
            have e15 := (e13.trans e4).trans e5
            have hau5 := e5 _ _ hau
            refine g_name ?_
            change tSeq _ _ _ [some wv, some (.ref b), some (.int (i : Int)), some (.ref ao), some (.ref au)] H5
            refine q_when (b := decide (u = own)) (et_test (ev_eqWy (ev_var rfl) vo (dp_of_wd (st_of hau5)) (dp_of_wd (ex_t e15 hao)))) (fun hb6 H6 e6 => s_ret ev_c fun H7 e7 => ?_) (fun hb6 H6 e6 => ?_)
            · rw [hd, hdrop, if_pos (of_decide_eq_true hb6)] at kk
              exact kk H7 ((e15.trans e6).trans e7)
            · rw [if_neg (of_decide_eq_false hb6)] at hdrop
              have e16 := e15.trans e6
              have vu : Ev (tVar 4) [some wv, some (.ref b), some (.int (i : Int)), some (.ref ao), some (.ref au)] H6 (.ref au) := ev_var rfl
              have hau6 : SqT K H6 au (u.map V.int) := st_of (e6 _ _ hau5)
              have hsec := ev_at (K := K) vi (ex_t e16 hb) (ev_second vu hau6 j1) j3
              have hh : hit t u = decide (oj = some (u.drop 1)) := by unfold hit; rw [j2, j5]
              rw [hh] at hdrop
              refine s_when (b := decide (oj = some (u.drop 1))) (et_test (ev_eqTail hsec (Dp.up e16 j4) (eq_tail vu hau6))) (fun hb7 H7 e7 => s_ret ev_c fun H8 e8 => ?_) (fun hb7 H7 e7 => ?_)
              · rw [hd, hdrop, if_pos hb7] at kk
                exact kk H8 ((e16.trans e7).trans e8)
              · rw [if_neg (by rw [hb7]; decide)] at hdrop
                exact ⟨(e5.trans e6).trans e7, ⟨_, rfl⟩, by rw [hd, hdrop]⟩
          · rintro σ' H5 ⟨e5, ⟨o4, rfl⟩, hd⟩
            rw [hd, hyl, List.drop_length] at kk
            exact s_ret ev_c fun H6 e6 => kk H6 (((e13.trans e4).trans e5).trans e6)
/-! first_that_cannot_stay -/
/-- the least router, from i on, that cannot stay -/
def fcs (rows : List (List Wy)) (t : List (Option Wy)) : Nat → Nat → Option Int
  | 0, _ => none
  | m + 1, i => if csB rows t i = true then some (i : Int) else fcs rows t m (i + 1)
def fcsV : Option Int → V
  | none => .non
  | some r => .int r
abbrev spFirst (K : PySem.W.Frag) (CW : Addr) : Sp := spP fun H vs z => ∃ (wv iv : V) (rows : List (List Wy)) (t : List (Option Wy)), vs = [wv, iv] ∧ WO CW H wv rows ∧ Dp K H iv (.tuple (t.map od)) ∧ TkO rows t ∧ z = fcsV (fcs rows t (rows.length - 1) 1)
abbrev sFirst : Stmt := top 22
abbrev nFirst : List Str := ["wishes", "items", "router"]
theorem scFirst : FnScope nFirst ["wishes", "items"] (defScope sFirst) := ⟨rfl, rfl, rfl, by decide +kernel, rfl, by decide +kernel, by decide +kernel⟩
theorem ok_first (B : Bl mg) (W : WC P w K mg base CW CN) (C : Cal P w K mg base "cannot_stay" ["wishes", "items", "router"] 6 (spStay K CW)) (F : FnP K "first_that_cannot_stay" sFirst f fd) : FnOk P w K mg base CX0 7 f fd ["wishes", "items"] (spFirst K CW) := by
  refine F.ok scFirst (fun vs H Q E h => ?_) (fun cdv A outer s H vs Q E hr h => ?_)
  · obtain ⟨z, ⟨wv, iv, rows, t, rfl, _⟩, _⟩ := h
    rfl
  · obtain ⟨z, ⟨wv, iv, rows, t, rfl, hw, hv, ht, rfl⟩, k⟩ := h
    refine ⟨_, pss_cons (ps_for (passes_of rfl) rfl (pi_range2 (by rfl) B.range (pa_cons pe_int (pa_cons (pe_fld (pv 0) rfl) pa_nil))) (pg_name (i := 2) scFirst.nd rfl (Or.inl rfl))
        (pss_one (ps_if (pt_val (pe_cal C hr (by rfl) (pa_cons (pv 0) (pa_cons (pv 1) (pa_cons (pv 2) pa_nil))))) (pss_one (ps_ret (pv 2))) pss_nil)))
      (pss_one (ps_ret pe_non)), ?_⟩
    have n8 := hw.n8
    have n2 := hw.n2
    refine q_forR2 (ea_cons ev_c (ea_cons (ev_wsize W.tx (ev_var rfl) hw) ea_nil)) (by omega) (fun i σ' H' => Ex H H' ∧ (∃ o, σ' = [some wv, some iv, o]) ∧ fcs rows t (rows.length - 1) 1 = fcs rows t (rows.length - 1 - i) (1 + i)) (fun H1 e1 => ⟨e1, ⟨_, rfl⟩, rfl⟩) ?_ ?_
    · rintro i σ' H1 hi ⟨e1, ⟨o, rfl⟩, hf⟩
      change tIfS _ _ _ _ [some wv, some iv, some (.int (1 + (i : Int)))] H1
      have hin : 1 + i < rows.length := by omega
      have er : fcs rows t (rows.length - 1 - i) (1 + i) = if csB rows t (1 + i) = true then some ((1 + i : Nat) : Int) else fcs rows t (rows.length - 1 - (i + 1)) (1 + (i + 1)) := by
        rw [show rows.length - 1 - i = (rows.length - 1 - (i + 1)) + 1 by omega]
        rfl
      rw [show (1 : Int) + (i : Int) = ((1 + i : Nat) : Int) by omega]
      refine s_when (b := csB rows t (1 + i)) (et_B (ev_call (ea_cons (ev_var rfl) (ea_cons (ev_var rfl) (ea_cons (ev_var rfl) ea_nil))) (spP_v fun H2 e2 => ⟨wv, iv, 1 + i, rows, t, rfl, hw.up (e1.trans e2), Dp.up (e1.trans e2) hv, ht, by omega, hin, rfl⟩))) (fun hb H2 e2 => s_ret (ev_var rfl) fun H3 e3 => ?_) (fun hb H2 e2 => ⟨e1.trans e2, ⟨_, rfl⟩, ?_⟩)
      · rw [hf, er, if_pos hb] at k
        exact k H3 ((e1.trans e2).trans e3)
      · rw [hf, er, if_neg (by rw [hb]; simp)]
    · rintro σ' H1 ⟨e1, ⟨o, rfl⟩, hf⟩
      have er : fcs rows t (rows.length - 1) 1 = none := by
        rw [hf, show rows.length - 1 - ((rows.length : Int) - 1).toNat = 0 by omega]
        rfl
      rw [er] at k
      exact s_ret ev_c fun H2 e2 => k H2 (e1.trans e2)
end
end Wk

set_option Elab.async false
set_option linter.all false
set_option maxRecDepth 100000
set_option maxHeartbeats 2000000
namespace Wk
open PySem PySem.Spec PyProof.Rows L2 Evl
/-- the items of a taking that is a datum -/
def tkOf (d : PyData) : List (Option Wy) := (itemsT d).map fun x => some (rts x)
theorem all_range {α : Type} {ds : List α} {g : Nat → α → Bool} (h : ((List.range ds.length).map fun k => ((ds[k]?).map (g k)).getD false).all id = true) {k : Nat} {x : α} (e : ds[k]? = some x) : g k x = true := by
  have hk := (List.getElem?_eq_some_iff.mp e).1
  have q := List.all_eq_true.mp h _ (List.mem_map.mpr ⟨k, List.mem_range.mpr hk, rfl⟩)
  rw [e] at q
  exact q
theorem tk_ok {rows : List (List Wy)} {d : PyData} (h : tkB rows (some d) = true) : d = .tuple ((tkOf d).map od) ∧ TkO rows (tkOf d) ∧ (itemsT d).length = rows.length ∧ ∀ k x, (itemsT d)[k]? = some x → chB rows k x = true := by
  obtain ⟨h1, h2⟩ := Bool.and_eq_true_iff.mp h
  obtain ⟨h3, h4⟩ := Bool.and_eq_true_iff.mp (show (isTu d && decide (V.int ((itemsT d).length : Int) = V.int (rows.length : Int))) = true from h1)
  have hn : (itemsT d).length = rows.length := by have := of_decide_eq_true h4; injection this; omega
  cases d <;> first | (simp [isTu] at h3; done) | skip
  rename_i ds
  have hc : ∀ k x, ds[k]? = some x → chB rows k x = true := fun k x e => all_range (g := chB rows) h2 e
  refine ⟨?_, ⟨by unfold tkOf; rw [List.length_map]; exact hn, fun i x e => ?_⟩, hn, hc⟩
  · congr 1
    unfold tkOf
    rw [List.map_map]
    refine (List.map_id ds).symm.trans (List.map_congr_left fun x hx => ?_)
    obtain ⟨k, hk⟩ := List.mem_iff_getElem?.mp hx
    exact intsB_wd (Bool.and_eq_true_iff.mp (hc k x hk)).1
  · unfold tkOf at e
    rw [List.getElem?_map] at e
    cases hd : (itemsT (.tuple ds))[i]? with
    | none => rw [hd] at e; cases e
    | some y =>
      rw [hd] at e
      have e' : rts y = x := by injection (Option.some.inj e)
      rw [← e']
      exact of_decide_eq_true (Bool.and_eq_true_iff.mp (hc i y hd)).2
def outB (rows : List (List Wy)) (o : Option PyData) : Bool := tkB rows o && match o with
  | some d => decide (fcs rows (tkOf d) (rows.length - 1) 1 = none)
  | none => true
/-! the law's own words -/
def best (t : List (Option Wy)) : List Wy → Wy
  | [] => []
  | w :: ws => if hit t w = true then w else best t ws
theorem best_drop {t : List (Option Wy)} : ∀ {ws : List Wy} {i : Nat} {w : Wy}, ws[i]? = some w → best t (ws.drop i) = if hit t w = true then w else best t (ws.drop (i + 1))
  | [], i, w, h => by simp at h
  | x :: ws, 0, w, h => by
    simp at h
    subst h
    rfl
  | x :: ws, i + 1, w, h => by
    simp only [List.drop_succ_cons]
    exact best_drop (by simpa using h)
theorem best_in {t : List (Option Wy)} : ∀ ws : List Wy, best t ws = [] ∨ best t ws ∈ ws ∧ hit t (best t ws) = true
  | [] => .inl rfl
  | w :: ws => by
    unfold best
    by_cases h : hit t w = true
    · rw [if_pos h]; exact .inr ⟨List.mem_cons_self, h⟩
    · rw [if_neg h]
      rcases best_in ws with z | ⟨z1, z2⟩
      · exact .inl z
      · exact .inr ⟨List.mem_cons_of_mem _ z1, z2⟩
theorem csL_best {t : List (Option Wy)} {own : Wy} : ∀ ws : List Wy, (own ∈ ws → hit t own = true) → (own ∉ ws → own = []) → (∀ w ∈ ws, w ≠ []) → (csL t own ws = false ↔ own = best t ws)
  | [], _, h2, _ => by
    have := h2 (by simp)
    simp [csL, best, this]
  | w :: ws, h1, h2, h3 => by
    unfold csL best
    by_cases c : w = own
    · subst c
      rw [if_pos rfl, if_pos (h1 List.mem_cons_self)]
      simp
    · rw [if_neg c]
      by_cases hh : hit t w = true
      · rw [if_pos hh, if_pos hh]
        simp [Ne.symm c]
      · rw [if_neg hh, if_neg hh]
        refine csL_best ws (fun z => h1 (List.mem_cons_of_mem _ z)) (fun z => h2 fun y => ?_) (fun x hx => h3 x (List.mem_cons_of_mem _ hx))
        rcases List.mem_cons.mp y with q | q
        · exact c q.symm
        · exact z q
theorem csB_best {rows : List (List Wy)} {t : List (Option Wy)} (hG : GW rows) (ht : TkO rows t) (hs : ∀ x ∈ t, x ≠ none) {i : Nat} (h1 : 1 ≤ i) (h2 : i < rows.length) : csB rows t i = false ↔ t.getD i none = some (best t (rows.getD i [])) := by
  have hil : i < t.length := by rw [ht.len]; exact h2
  have hti : t[i]? = some t[i] := List.getElem?_eq_getElem hil
  have etg : t.getD i none = t[i] := by rw [List.getD_eq_getElem?_getD, hti]; rfl
  have hrw : rows[i]? = some rows[i] := List.getElem?_eq_getElem h2
  have erg : rows.getD i [] = rows[i] := by rw [List.getD_eq_getElem?_getD, hrw]; rfl
  cases ho : t[i] with
  | none => exact absurd ho (hs _ (List.getElem_mem hil))
  | some own =>
    rw [ho] at hti etg
    have hch := ht.ok i own hti
    unfold chW at hch
    rw [if_neg (by omega), erg] at hch
    unfold csB
    rw [etg, erg]
    generalize rows[i] = row at *
    have hne : ∀ w ∈ row, w ≠ [] := fun w hw => by
      obtain ⟨_, _, _, _, z⟩ := ways_in hG hrw hw
      exact z
    have nn : ∀ w ∈ row, t.getD (w.getD 1 0).toNat none ≠ none := fun w hw => by
      obtain ⟨j, _, j2, j3, _⟩ := ways_in hG hrw hw
      have hjl : j < t.length := by rw [ht.len]; exact j3
      rw [j2, show ((j : Int)).toNat = j from rfl, List.getD_eq_getElem?_getD, List.getElem?_eq_getElem hjl]
      exact hs _ (List.getElem_mem hjl)
    show (if own ≠ [] ∧ t.getD (own.getD 1 0).toNat none ≠ none ∧ hit t own = false then true else csL t own row) = false ↔ some own = some (best t row)
    rw [Option.some.injEq]
    rcases List.mem_append.mp hch with hm | hm
    · by_cases hh : hit t own = true
      · rw [if_neg (by rw [hh]; simp)]
        exact csL_best row (fun _ => hh) (fun z => absurd hm z) hne
      · have hh' : hit t own = false := by simpa using hh
        rw [if_pos ⟨hne own hm, nn own hm, hh'⟩]
        refine ⟨fun z => (by cases z), fun z => ?_⟩
        rcases best_in (t := t) row with y | ⟨_, y⟩
        · rw [y] at z; exact absurd z (hne own hm)
        · rw [← z] at y; exact absurd y hh
    · have e0 := List.mem_singleton.mp hm
      rw [if_neg (by rw [e0]; simp)]
      exact csL_best row (fun z => absurd e0 (hne own z)) (fun _ => e0) hne
def lsB (rows : List (List Wy)) (t : List (Option Wy)) : Nat → Nat → Bool
  | 0, _ => true
  | m + 1, i => if t.getD i none = some (best t (rows.getD i [])) then lsB rows t m (i + 1) else false
theorem lsB_fcs {rows : List (List Wy)} {t : List (Option Wy)} (hG : GW rows) (ht : TkO rows t) (hs : ∀ x ∈ t, x ≠ none) : ∀ m i : Nat, 1 ≤ i → i + m ≤ rows.length → lsB rows t m i = decide (fcs rows t m i = none)
  | 0, _, _, _ => rfl
  | m + 1, i, h1, h2 => by
    unfold lsB fcs
    have q := csB_best hG ht hs h1 (show i < rows.length by omega)
    have ih := lsB_fcs hG ht hs m (i + 1) (by omega) (by omega)
    by_cases c : csB rows t i = true
    · have c2 : ¬ t.getD i none = some (best t (rows.getD i [])) := fun z => by
        rw [q.mpr z] at c
        cases c
      rw [if_neg c2, if_pos c]
      rfl
    · have c1 : csB rows t i = false := by simpa using c
      rw [if_pos (q.mp c1), if_neg c]
      exact ih
theorem tkOf_some {d : PyData} : ∀ x ∈ tkOf d, x ≠ none := fun x hx => by
  obtain ⟨y, _, rfl⟩ := List.mem_map.mp hx
  simp
section
variable {P : Program} {w : World} {K : PySem.W.Frag} {mg : Str → Option Value} {base : Heap} {f : Addr} {fd : FuncData} {CW CN : Addr}
/-! is_outcome -/
abbrev Small (o : Option PyData) : Prop := ∀ d, o = some d → ∀ x ∈ itemsT d, (itemsT x).length ≤ 1000
abbrev spOut (CW : Addr) : Sp := spP fun H vs z => ∃ (wv v : V) (o : Option PyData) (rows : List (List Wy)), vs = [wv, v] ∧ WO CW H wv rows ∧ Tg CW H v o ∧ Small o ∧ z = .bl (outB rows o)
abbrev sOut : Stmt := top 24
theorem scOut : FnScope ["wishes", "thing"] ["wishes", "thing"] (defScope sOut) := ⟨rfl, rfl, rfl, by decide +kernel, rfl, by decide +kernel, by decide +kernel⟩
theorem dp_tk {rows : List (List Wy)} {H : Hp} {v : V} {d : PyData} (h : Dq H v d) (e : d = .tuple ((tkOf d).map od)) : Dp K H v (.tuple ((tkOf d).map od)) := by
  rw [e] at h
  refine Dq.dp ?_ h
  simp only [PyData.canLay0]
  refine layAll.mpr fun x hx => ?_
  obtain ⟨o, _, rfl⟩ := List.mem_map.mp hx
  exact SeqAt.canLay_of_shaped (shaped_od o)
theorem fcsV_none (o : Option Int) : decide (fcsV o = V.non) = decide (o = none) := by
  cases o <;> rfl
theorem ok_out (C : Cal P w K mg base "is_taking" ["wishes", "thing"] 8 (spTaking CW)) (C2 : Cal P w K mg base "first_that_cannot_stay" ["wishes", "items"] 7 (spFirst K CW)) (F : FnP K "is_outcome" sOut f fd) : FnOk P w K mg base CX0 9 f fd ["wishes", "thing"] (spOut CW) := by
  refine F.ok scOut (fun vs H Q E h => ?_) (fun cdv A outer s H vs Q E hr h => ?_)
  · obtain ⟨z, ⟨wv, v, o, rows, rfl, _⟩, _⟩ := h
    rfl
  · obtain ⟨z, ⟨wv, v, o, rows, rfl, hw, hv, hs, rfl⟩, k⟩ := h
    refine ⟨_, pss_one (ps_ret (pe_and (pe_cal C hr (by rfl) (pa_cons (pv 0) (pa_cons (pv 1) pa_nil))) (pe_one (pe_cmpR op_isN (pe_cal C2 hr (by rfl) (pa_cons (pv 0) (pa_cons (pv 1) pa_nil))) pe_non (nomark _))))), ?_⟩
    refine s_ret (ev_andV (a := tkB rows o) (ev_call (ea_cons (ev_var rfl) (ea_cons (ev_var rfl) ea_nil)) (spP_v fun H1 e => ⟨wv, v, o, rows, rfl, hw.up e, hv.up e, hs, rfl⟩)) fun hb => ?_) k
    cases o with
    | none => cases hb
    | some d =>
      obtain ⟨e1, e2, e3, e4⟩ := tk_ok hb
      show Ev _ _ _ (.bl (decide (fcs rows (tkOf d) (rows.length - 1) 1 = none)))
      rw [← fcsV_none]
      exact ev_op (ev_call (ea_cons (ev_var rfl) (ea_cons (ev_var rfl) ea_nil)) (spP_v fun H1 e => ⟨wv, v, rows, tkOf d, rfl, hw.up e, dp_tk (rows := rows) (Dq.mono e hv) e1, e2, rfl⟩)) ev_c fun H1 e1 Q2 q => ⟨rfl, q H1 (Ex.refl H1)⟩
/-! _law_is_int -/
/-! _law_is_taking -/
abbrev spLTaking (CW : Addr) : Sp := spP fun H vs z => ∃ (lv v : V) (o : Option PyData) (rows : List (List Wy)), vs = [lv, v] ∧ Dq H lv (pd rows) ∧ rows.length ≤ 8 ∧ Tg CW H v o ∧ Small o ∧ z = .bl (tkB rows o)
abbrev nLTaking : List Str := ["_law_lists_here", "_law_thing", "_law_router", "_law_item", "_law_part"]
end
end Wk

set_option Elab.async false
set_option linter.all false
set_option maxRecDepth 100000
set_option maxHeartbeats 2000000
namespace Wk
open PySem PySem.Spec PyProof.Rows L2 Evl
/-- a taking that stands as a list or as a tuple -/
def TkS (K : PySem.W.Frag) (H : Hp) (tv : V) (t : List (Option Wy)) : Prop := ∃ b xs, tv = .ref b ∧ (SqL K H b xs ∨ SqT K H b xs) ∧ DpAll K H xs (t.map od)
theorem TkS.up {K : PySem.W.Frag} {H H' : Hp} {tv : V} {t : List (Option Wy)} (h : TkS K H tv t) (e : Ex H H') : TkS K H' tv t := by
  obtain ⟨b, xs, h1, h2, h3⟩ := h
  refine ⟨b, xs, h1, ?_, DpAll.up e h3⟩
  rcases h2 with z | z
  · exact .inl (ex_l e z)
  · exact .inr (ex_t e z)
theorem ev_atS {K : PySem.W.Frag} {σ : L2.St} {H : Hp} {ti tj : TE} {b : Addr} {xs : List V} {j : Nat} {x : V} (hi : Ev ti σ H (.ref b)) (hb : SqL K H b xs ∨ SqT K H b xs) (hj : Ev tj σ H (.int (j : Int))) (hx : xs[j]? = some x) : Ev (tOp (rIx K) ti tj) σ H x :=
  ev_op hi hj fun H1 e Q q => by
    rcases hb with z | z
    · exact .inl ⟨b, xs, (j : Int), x, rfl, rfl, ex_l e z, atI_nat hx, q H1 (Ex.refl H1)⟩
    · exact .inr (.inl ⟨b, xs, (j : Int), x, rfl, rfl, ex_t e z, atI_nat hx, q H1 (Ex.refl H1)⟩)
theorem keep1 {G H : Hp} {p q t : Addr} {xs : List V} (hP : Pl G H p q) (ht : H t = some (.tup xs)) : ∃ G', Ex G G' ∧ Pl G' H p q ∧ G' t = some (.tup xs) ∧ ∀ b, b ≠ t → G' b = G b := by
  obtain ⟨n, cs, h1, h2, _⟩ := hP.at_
  have np : t ≠ p := fun z => by rw [z, h1] at ht; cases ht
  have nq : t ≠ q := fun z => by rw [z, h2] at ht; cases ht
  cases hg : G t with
  | some o =>
    have e := hP.ex _ _ hg
    rw [ht] at e
    cases e
    exact ⟨G, Ex.refl _, hP, hg, fun _ _ => rfl⟩
  | none => exact ⟨upd G t (.tup xs), Ex.new hg, hP.hold ht np nq, upd_same, fun b hb => upd_ne hb⟩
/-- ((),) + t -/
theorem t_cat1 {K : PySem.W.Frag} {σ : L2.St} {H : Hp} {tb : TE} {b : Addr} {ws : List V} {Q : VK} (hb : Ev tb σ H (.ref b)) (hs : H b = some (.tup ws)) (hl : ws.length ≤ 1000)
    (k : ∀ e r H', Ex H H' → H e = none → H' e = some (.tup []) → H' r = some (.tup (.ref e :: ws)) → Q (.ref r) H') : tOp (rCatA K) (tTup (tCons (tTup tNil) tNil)) tb σ H Q := by
  refine ⟨by show 0 ≤ sizeLine; decide, fun e he => ⟨by show 1 ≤ sizeLine; decide, fun c hc => ?_⟩⟩
  have e1 := Ex.new (o := .tup ([] : List V)) he
  have e2 := Ex.new (o := .tup [V.ref e]) hc
  have hee : (upd (upd H e (.tup [])) c (.tup [V.ref e])) e = some (.tup []) := e2 _ _ upd_same
  refine hb _ (e1.trans e2) _ fun H3 e3 => ?_
  refine ⟨c, b, [.ref e], ws, rfl, rfl, st_of (e3 _ _ upd_same), st_of (((e1.trans e2).trans e3) _ _ hs), by rw [sizeLine_eq]; show 1 + ws.length ≤ _; omega, fun z => (by cases z), fun _ hy => ?_, fun _ _ r hr => ?_⟩
  · subst hy
    exact k e c H3 ((e1.trans e2).trans e3) he (e3 _ _ hee) (e3 _ _ upd_same)
  · exact k e r _ (((e1.trans e2).trans e3).trans (Ex.new hr)) he ((Ex.new hr) _ _ (e3 _ _ hee)) upd_same
theorem od_some (t : List Wy) : (t.map some).map od = t.map wd := by
  rw [List.map_map]
  rfl
theorem dqa_dp {K : PySem.W.Frag} {H : Hp} {xs : List V} {t : List Wy} (h : DqA H xs (t.map wd)) : DpAll K H xs ((t.map some).map od) := by
  rw [od_some]
  exact DqA.dp (lay_wds t) h
theorem best_ch {rows : List (List Wy)} {t : List (Option Wy)} {i : Nat} (h : 1 ≤ i) : best t (rows.getD i []) ∈ chW rows i := by
  unfold chW
  rw [if_neg (by omega)]
  rcases best_in (t := t) (rows.getD i []) with z | ⟨z, _⟩
  · rw [z]; simp
  · exact List.mem_append_left _ z
section
variable {P : Program} {w : World} {K : PySem.W.Frag} {mg : Str → Option Value} {base : Heap} {f : Addr} {fd : FuncData} {CW CN : Addr}
/-! _law_best -/
def spBest (K : PySem.W.Frag) : Sp := fun vs H Q _ => ∃ (lv tv : V) (i : Nat) (rows : List (List Wy)) (t : List (Option Wy)), vs = [lv, tv, .int (i : Int)] ∧ Dq H lv (pd rows) ∧ GW rows ∧ TkS K H tv t ∧ t.length = rows.length ∧ i < rows.length ∧ ∀ H' u, Ex H H' → Dq H' u (wd (best t (rows.getD i []))) → Q u H'
abbrev nBest : List Str := ["_law_lists_here", "_law_taking", "_law_router", "_law_way"]
/-! _law_stays, _law_is_outcome -/
abbrev spLStays (K : PySem.W.Frag) : Sp := spP fun H vs z => ∃ (lv tv : V) (rows : List (List Wy)) (t : List (Option Wy)), vs = [lv, tv] ∧ Dq H lv (pd rows) ∧ GW rows ∧ 2 ≤ rows.length ∧ rows.length ≤ 8 ∧ Dp K H tv (.tuple (t.map od)) ∧ t.length = rows.length ∧ z = .bl (lsB rows t (rows.length - 1) 1)
abbrev nLStays : List Str := ["_law_lists_here", "_law_taking", "_law_router"]
abbrev spLOut (CW : Addr) : Sp := spP fun H vs z => ∃ (lv v : V) (o : Option PyData) (rows : List (List Wy)), vs = [lv, v] ∧ Dq H lv (pd rows) ∧ GW rows ∧ 2 ≤ rows.length ∧ rows.length ≤ 8 ∧ Tg CW H v o ∧ Small o ∧ z = .bl (outB rows o)
/-! _law_drawn_taking -/
def spDrawn : Sp := fun vs H Q _ => ∃ (G : Hp) (p q : Addr) (lv : V) (rows : List (List Wy)), vs = [.ref p, lv] ∧ Pl G H p q ∧ Dq G lv (pd rows) ∧ GW rows ∧ 2 ≤ rows.length ∧ rows.length ≤ 8 ∧ (∀ row ∈ rows, row.length ≤ 6) ∧
  ∀ G' H' b (t : List Wy), Ex G G' → Pl G' H' p q → Dq G' (.ref b) (.tuple (t.map wd)) → t.length = rows.length → (∀ i x, t[i]? = some x → x ∈ chW rows i) → Q (.ref b) H'
abbrev nDrawn : List Str := ["_law_pool_here", "_law_lists_here", "_law_taking", "_law_router", "_law_row", "_law_count"]
end
end Wk


set_option Elab.async false
set_option linter.all false
set_option maxRecDepth 100000
set_option maxHeartbeats 4000000
namespace Wk
open PySem PySem.Spec PyProof.Rows L2 Evl
/-! what stays when only lists change -/
def Kp (H H' : Hp) : Prop := ∀ a o, H a = some o → (∀ l, o ≠ .lst l) → (∀ u l, o ≠ .frz u (.lst l)) → H' a = some o
theorem Kp.refl (H : Hp) : Kp H H := fun _ _ h _ _ => h
theorem Kp.ex {H H' : Hp} (e : Ex H H') : Kp H H' := fun a o h _ _ => e a o h
theorem Kp.trans {H H1 H2 : Hp} (a : Kp H H1) (b : Kp H1 H2) : Kp H H2 := fun x o h k1 k2 => b x o (a x o h k1 k2) k1 k2
theorem Kp.mut {H : Hp} {D : Addr} {l l' : List V} (h : H D = some (.lst l)) : Kp H (upd H D (.lst l')) := fun a o ha k1 k2 => by
  rw [upd_ne (fun z => by rw [z, h] at ha; injection ha with ha; exact k1 _ ha.symm)]
  exact ha
theorem Kp.off {p q : Addr} {H H' : Hp} {l m : List V} (hp : H p = some (.lst l)) (hq : H q = some (.lst m)) (h : Off p q H H') : Kp H H' := fun a o ha k1 k2 => h a o (fun z => by rw [z, hp] at ha; injection ha with ha; exact k1 _ ha.symm) (fun z => by rw [z, hq] at ha; injection ha with ha; exact k1 _ ha.symm) ha
theorem Kp.hd {G H : Hp} {p q : Addr} (h : Pl G H p q) : Kp H (Hd H p q) := fun a o ha k1 k2 => by
  obtain ⟨n, cs, h1, h2, _⟩ := h.at_
  unfold Hd
  rw [if_neg]
  · exact ha
  · rintro (z | z)
    · rw [z, h1] at ha; injection ha with ha; exact k1 _ ha.symm
    · rw [z, h2] at ha; injection ha with ha; exact k1 _ ha.symm
/-- a draw changes but the pool -/
theorem Kp.draw {G H H' : Hp} {p q : Addr} (h : Pl G H p q) (h' : Pl (Hd H p q) H' p q) : Kp H H' := (Kp.hd h).trans (.ex h'.ex)
theorem Kp.tup {H H' : Hp} {a : Addr} {xs : List V} (k : Kp H H') (h : H a = some (.tup xs)) : H' a = some (.tup xs) := k a _ h (fun l z => by cases z) (fun u l z => by cases z)
theorem Kp.st {K : PySem.W.Frag} {H H' : Hp} {a : Addr} {xs : List V} (k : Kp H H') (h : SqT K H a xs) : SqT K H' a xs := h.imp (fun h => h.imp (fun h => k.tup h) fun ⟨u, h⟩ => ⟨u, k a _ h (fun l z => by cases z) (fun u l z => by cases z)⟩) id
theorem Kp.odK {K : PySem.W.Frag} {H H' : Hp} {v : V} {o : Option Wy} (k : Kp H H') (h : Dp K H v (od o)) : Dp K H' v (od o) := by
  cases o with
  | none =>
    have e := dp_od_none h
    subst e
    exact .non
  | some w =>
    obtain ⟨a, rfl, ha⟩ := dp_wd h
    exact dp_of_wd (k.st ha)
theorem Kp.odsK {K : PySem.W.Frag} {H H' : Hp} (k : Kp H H') : ∀ {xs : List V} {t : List (Option Wy)}, DpAll K H xs (t.map od) → DpAll K H' xs (t.map od)
  | [], [], _ => .nil
  | [], _ :: _, h => by cases h
  | _ :: _, [], h => by cases h
  | x :: xs, o :: t, h => by
    cases h with
    | cons h1 h2 => exact .cons (k.odK h1) (k.odsK h2)
theorem Kp.ints {H H' : Hp} (k : Kp H H') {v : V} {w : Wy} (h : Dq H v (wd w)) : Dq H' v (wd w) := by
  obtain ⟨a, rfl, ha⟩ := wd_ref h
  exact wd_of (k.tup ha)
theorem Kp.wds {H H' : Hp} (k : Kp H H') : ∀ {ws : List Wy} {vs : List V}, DqA H vs (ws.map wd) → DqA H' vs (ws.map wd)
  | [], _, .nil => .nil
  | _ :: _, _, .cons a b => .cons (k.ints a) (k.wds b)
theorem Kp.rdK {H H' : Hp} (k : Kp H H') {v : V} {row : List Wy} (h : Dq H v (rd row)) : Dq H' v (rd row) := by
  unfold rd at h ⊢
  cases h with
  | tup a b => exact .tup (k.tup a) (k.wds b)
theorem Kp.rdsK {H H' : Hp} (k : Kp H H') : ∀ {rows : List (List Wy)} {vs : List V}, DqA H vs (rows.map rd) → DqA H' vs (rows.map rd)
  | [], _, .nil => .nil
  | _ :: _, _, .cons a b => .cons (k.rdK a) (k.rdsK b)
theorem Kp.pdK {H H' : Hp} (k : Kp H H') {v : V} {rows : List (List Wy)} (h : Dq H v (pd rows)) : Dq H' v (pd rows) := by
  unfold pd at h ⊢
  cases h with
  | tup a b => exact .tup (k.tup a) (k.rdsK b)
theorem WO.kp {CW : Addr} {H H' : Hp} {v : V} {rows : List (List Wy)} (h : WO CW H v rows) (k : Kp H H') : WO CW H' v rows := by
  obtain ⟨w, dx, lv, h1, h2, h3⟩ := h.ex
  exact ⟨⟨w, dx, lv, h1, k _ _ h2 (fun l z => by cases z) (fun u l z => by cases z), k.pdK h3⟩, h.g, h.n2, h.n8, h.r6⟩
/-! _law_same -/
/-- plain data: ints, texts, lists and tuples of such -/
inductive Smx : Nat → PyData → Prop
  | int (n : Nat) (i : Int) : Smx n (.int i)
  | str (n : Nat) (z : Str) : Smx n (.str z)
  | tup (n : Nat) (ds : List PyData) : (∀ d ∈ ds, Smx n d) → ds.length ≤ 1000 → Smx (n + 1) (.tuple ds)
  | lst (n : Nat) (ds : List PyData) : (∀ d ∈ ds, Smx n d) → ds.length ≤ 1000 → Smx (n + 1) (.list ds)
theorem Dp.tyX {K : PySem.W.Frag} {H : Hp} {v : V} {d : PyData} (h : Dp K H v d) : TyX K H v (.type (tyN d)) := by
  cases h with
  | non => exact .base .non
  | bl b => exact .base (.bl b)
  | int i => exact .base (.int i)
  | str x => exact .base (.str x)
  | lst s _ =>
    rcases s with (s | ⟨o, s⟩) | ⟨o, its, n, e, c, _⟩
    · exact .base (.lst s)
    · exact .base (.frz s)
    · exact .kList e c
  | tup s _ =>
    rcases s with (s | ⟨o, s⟩) | ⟨o, its, n, e, c, _⟩
    · exact .base (.tup s)
    · exact .fTuple s
    · exact .kTuple e c
section
variable {K : PySem.W.Frag} {σ : L2.St} {H : Hp} {ta : TE}
theorem ep_isi {v : V} {d : PyData} {n : String} {b : Bool} (h : Ev ta σ H v) (hd : Dp K H v d) (hk : kitB (tyN d) n = some b) : Ev (tCB (rIsi K) (tCons ta (tCons (tC (.ty n)) tNil))) σ H (.bl b) := fun H1 e Q q =>
  h H1 e _ fun H2 e2 => ⟨v, .ty n, .type (tyN d), .type n, b, rfl, .ty n, Dp.tyX (Dp.up (e.trans e2) hd), kit_ty hk, q H2 e2⟩
theorem ep_isi2 {v : V} {d : PyData} {n m : String} {b c : Bool} (h : Ev ta σ H v) (hd : Dp K H v d) (h1 : kitB (tyN d) n = some b) (h2 : kitB (tyN d) m = some c) :
    Ev (tCB (rIsiT K) (tCons ta (tCons (tTup (tCons (tC (.ty n)) (tCons (tC (.ty m)) tNil))) tNil))) σ H (.bl (b || c)) := fun H1 e Q q =>
  h H1 e _ fun H2 e2 => ⟨by show 2 ≤ sizeLine; decide, fun p hp => ⟨v, p, [.ty n, .ty m], .type (tyN d), [.type n, .type m], b || c, rfl, upd_same, .cons (.ty n) (.cons (.ty m) .nil), Dp.tyX (Dp.up ((e.trans e2).trans (Ex.new hp)) hd),
    kitAny_cons (kit_ty h1) (fun hb => kitAny_cons (kit_ty h2) (fun hc => by rw [hb, hc]; exact kitAny_nil) (fun hc => by rw [hc]; simp)) (fun hb => by rw [hb]; rfl), q _ (e2.trans (Ex.new hp))⟩⟩
theorem ev_lenS {b : Addr} {xs : List V} (hi : Ev ta σ H (.ref b)) (hb : ∀ {H1}, Ex H H1 → SqL K H1 b xs ∨ SqT K H1 b xs) : Ev (tCB (rLenS K) (tCons ta tNil)) σ H (.int (xs.length : Int)) := fun H1 e Q q =>
  hi H1 e _ fun H2 e2 => ⟨b, xs, rfl, hb (e.trans e2), q H2 e2⟩
end
theorem sq_up {K : PySem.W.Frag} {H H' : Hp} {a : Addr} {xs : List V} (e : Ex H H') (h : SqL K H a xs ∨ SqT K H a xs) : SqL K H' a xs ∨ SqT K H' a xs := by
  rcases h with h | h
  · exact .inl (h.imp (fun h => h.imp (fun h => e _ _ h) fun ⟨u, h⟩ => ⟨u, e _ _ h⟩) id)
  · exact .inr (h.imp (fun h => h.imp (fun h => e _ _ h) fun ⟨u, h⟩ => ⟨u, e _ _ h⟩) id)
theorem k_ll : kitB "list" "list" = some true := by decide +kernel
theorem k_lt : kitB "list" "tuple" = some false := by decide +kernel
section
variable {P : Program} {w : World} {K : PySem.W.Frag} {mg : Str → Option Value} {base : Heap} {f : Addr} {fd : FuncData}
abbrev spSame (K : PySem.W.Frag) (n : Nat) : Sp := spP fun H vs z => ∃ (va ve : V) (d : PyData), vs = [va, ve] ∧ Dp K H va d ∧ Dp K H ve d ∧ Smx n d ∧ z = .bl true
abbrev nSame : List Str := ["_law_actual", "_law_expected", "_law_place"]
end
end Wk

set_option Elab.async false
set_option linter.all false
set_option maxRecDepth 100000
set_option maxHeartbeats 2000000
namespace Wk
open PySem PySem.Spec PyProof.Rows L2 Evl
/-! orders -/
structure StO {α : Type} (lt : α → α → Bool) : Prop where
  irr : ∀ x, lt x x = false
  tr : ∀ x y z, lt x y = true → lt y z = true → lt x z = true
  tri : ∀ x y, x ≠ y → lt x y = true ∨ lt y x = true
theorem StO.asym {α : Type} {lt : α → α → Bool} (h : StO lt) {x y : α} (a : lt x y = true) : lt y x = false := by
  cases b : lt y x with
  | false => rfl
  | true => rw [← h.irr x, h.tr _ _ _ a b]
def lexG {α : Type} [DecidableEq α] (lt : α → α → Bool) : List α → List α → Bool
  | [], [] => false
  | [], _ :: _ => true
  | _ :: _, [] => false
  | x :: xs, y :: ys => if x = y then lexG lt xs ys else lt x y
theorem lexG_sto {α : Type} [DecidableEq α] {lt : α → α → Bool} (h : StO lt) : StO (lexG lt) := by
  refine ⟨fun xs => ?_, ?_, ?_⟩
  · induction xs with
    | nil => rfl
    | cons x xs ih => show (if x = x then lexG lt xs xs else _) = false; rw [if_pos rfl]; exact ih
  · intro xs
    induction xs with
    | nil =>
      intro ys zs h1 h2
      cases zs with
      | nil => cases ys <;> cases h2
      | cons z zs => rfl
    | cons x xs ih =>
      intro ys zs h1 h2
      cases ys with
      | nil => cases h1
      | cons y ys =>
        cases zs with
        | nil => cases h2
        | cons z zs =>
          have h1' : (if x = y then lexG lt xs ys else lt x y) = true := h1
          have h2' : (if y = z then lexG lt ys zs else lt y z) = true := h2
          show (if x = z then lexG lt xs zs else lt x z) = true
          by_cases c1 : x = y
          · subst c1
            rw [if_pos rfl] at h1'
            by_cases c2 : x = z
            · rw [if_pos c2] at h2' ⊢
              exact ih _ _ h1' h2'
            · rw [if_neg c2] at h2' ⊢
              exact h2'
          · rw [if_neg c1] at h1'
            by_cases c2 : y = z
            · subst c2
              rw [if_neg c1]
              exact h1'
            · rw [if_neg c2] at h2'
              by_cases c3 : x = z
              · subst c3
                rw [h.asym h1'] at h2'
                cases h2'
              · rw [if_neg c3]
                exact h.tr _ _ _ h1' h2'
  · intro xs
    induction xs with
    | nil =>
      intro ys hn
      cases ys with
      | nil => exact absurd rfl hn
      | cons y ys => exact .inl rfl
    | cons x xs ih =>
      intro ys hn
      cases ys with
      | nil => exact .inr rfl
      | cons y ys =>
        show (if x = y then lexG lt xs ys else lt x y) = true ∨ (if y = x then lexG lt ys xs else lt y x) = true
        by_cases c : x = y
        · subst c
          rw [if_pos rfl, if_pos rfl]
          exact ih ys fun z => hn (by rw [z])
        · rw [if_neg c, if_neg fun z => c z.symm]
          exact h.tri x y c
theorem sto_int : StO (fun a b : Int => decide (a < b)) := ⟨fun x => decide_eq_false (by omega), fun x y z h1 h2 => decide_eq_true (by have := of_decide_eq_true h1; have := of_decide_eq_true h2; omega), fun x y h => by
  rcases Int.lt_or_gt_of_ne h with c | c
  · exact .inl (decide_eq_true c)
  · exact .inr (decide_eq_true c)⟩
theorem lexG_int : ∀ xs ys : List Int, HT.lexLt xs ys = lexG (fun a b : Int => decide (a < b)) xs ys
  | [], [] => rfl
  | [], _ :: _ => rfl
  | _ :: _, [] => rfl
  | x :: xs, y :: ys => by
    show (if x = y then HT.lexLt xs ys else decide (x < y)) = (if x = y then lexG _ xs ys else decide (x < y))
    rw [lexG_int xs ys]
/-- ways, takings by their ways -/
abbrev ltW : Wy → Wy → Bool := HT.lexLt
abbrev ltT : List Wy → List Wy → Bool := lexG ltW
theorem sto_W : StO ltW := by
  have e : ltW = lexG (fun a b : Int => decide (a < b)) := by funext x y; exact lexG_int x y
  rw [e]
  exact lexG_sto sto_int
theorem sto_T : StO ltT := lexG_sto sto_W
/-- ascending -/
abbrev Asc {α : Type} (lt : α → α → Bool) (l : List α) : Prop := l.Pairwise fun x y => lt x y = true
theorem asc_nd {α : Type} {lt : α → α → Bool} (h : StO lt) {l : List α} (a : Asc lt l) : l.Nodup := a.imp fun {x y} q z => by
  rw [z, h.irr] at q
  cases q
theorem asc_ext {α : Type} {lt : α → α → Bool} (h : StO lt) : ∀ {l m : List α}, Asc lt l → Asc lt m → (∀ x, x ∈ l ↔ x ∈ m) → l = m
  | [], [], _, _, _ => rfl
  | [], y :: m, _, _, e => absurd ((e y).mpr List.mem_cons_self) (by simp)
  | x :: l, [], _, _, e => absurd ((e x).mp List.mem_cons_self) (by simp)
  | x :: l, y :: m, a, b, e => by
    obtain ⟨a1, a2⟩ := List.pairwise_cons.mp a
    obtain ⟨b1, b2⟩ := List.pairwise_cons.mp b
    have exy : x = y := by
      rcases List.mem_cons.mp ((e x).mp List.mem_cons_self) with z | z
      · exact z
      rcases List.mem_cons.mp ((e y).mpr List.mem_cons_self) with z2 | z2
      · exact z2.symm
      have q1 := b1 x z
      have q2 := a1 y z2
      rw [h.asym q1] at q2
      cases q2
    subst exy
    congr 1
    refine asc_ext h a2 b2 fun z => ?_
    have q := e z
    rw [List.mem_cons, List.mem_cons] at q
    constructor
    · intro hz
      rcases q.mp (.inr hz) with c | c
      · subst c
        have := a1 z hz
        rw [h.irr] at this
        cases this
      · exact c
    · intro hz
      rcases q.mpr (.inr hz) with c | c
      · subst c
        have := b1 z hz
        rw [h.irr] at this
        cases this
      · exact c
/-- sorted and unlike is ascending -/
theorem asc_of {α : Type} {lt : α → α → Bool} (h : StO lt) : ∀ {l : List α}, l.Pairwise (fun x y => lt y x = false) → l.Nodup → Asc lt l
  | [], _, _ => .nil
  | x :: l, a, n => by
    obtain ⟨a1, a2⟩ := List.pairwise_cons.mp a
    obtain ⟨n1, n2⟩ := List.nodup_cons.mp n
    refine List.pairwise_cons.mpr ⟨fun y hy => ?_, asc_of h a2 n2⟩
    rcases h.tri x y (fun z => n1 (by rw [z]; exact hy)) with c | c
    · exact c
    · rw [a1 y hy] at c
      cases c
/-! the data's order is this one -/
theorem lt_wd (x y : Wy) : PySem.W.dataLt (wd x) (wd y) = ltW x y := by
  have e : ∀ xs ys : List Int, decide (xs < ys) = HT.lexLt xs ys := by
    intro xs
    induction xs with
    | nil =>
      intro ys
      cases ys with
      | nil => simp [HT.lexLt]
      | cons y ys => simp [HT.lexLt]
    | cons x xs ih =>
      intro ys
      cases ys with
      | nil => simp [HT.lexLt]
      | cons y ys =>
        rw [HT.lexLt_cons, ← ih ys]
        by_cases c : x = y
        · subst c
          rw [if_pos rfl]
          simp [List.cons_lt_cons_iff]
        · rw [if_neg c]
          simp [List.cons_lt_cons_iff, c]
  show PySem.W.dataLt (.tuple (x.map PyData.int)) (.tuple (y.map PyData.int)) = HT.lexLt x y
  rw [← e, ← PySem.W.dataLt_ints, PySem.W.dataLt_tuple]
  rfl
theorem alike_ints (x y : Wy) : PySem.W.alike (wd x) (wd y) = true := by
  show PySem.W.alikeAll (x.map PyData.int) (y.map PyData.int) = true
  exact PySem.W.alike_ints x y
def tkd (t : List Wy) : PyData := .tuple (t.map wd)
theorem alike_tk : ∀ x y : List Wy, PySem.W.alike (tkd x) (tkd y) = true
  | [], _ => by simp [tkd, PySem.W.alike, PySem.W.alikeAll]
  | x :: xs, [] => by simp [tkd, PySem.W.alike, PySem.W.alikeAll]
  | x :: xs, y :: ys => by
    have h := alike_tk xs ys
    simp only [tkd, PySem.W.alike] at h
    simp only [tkd, List.map_cons, PySem.W.alike, PySem.W.alikeAll]
    rw [alike_ints, h]
    rfl
theorem lt_tk : ∀ x y : List Wy, PySem.W.rowLt (x.map wd) (y.map wd) = ltT x y
  | [], [] => by show PyProof.Rows.lexLt _ _ _ = false; exact lex_irrefl _
  | [], y :: ys => by
    unfold PySem.W.rowLt
    rfl
  | x :: xs, [] => by
    unfold PySem.W.rowLt
    rfl
  | x :: xs, y :: ys => by
    unfold PySem.W.rowLt
    rw [List.map_cons, List.map_cons, PySem.W.dataLt_cons (alike_ints x y), eqv_wd, lt_wd]
    show (if decide (x = y) = true then PySem.W.rowLt (xs.map wd) (ys.map wd) else ltW x y) = (if x = y then ltT xs ys else ltW x y)
    rw [lt_tk xs ys]
    by_cases c : x = y
    · rw [if_pos c, if_pos (decide_eq_true c)]
    · rw [if_neg c, if_neg (by rw [decide_eq_false c]; decide)]
end Wk

set_option Elab.async false
set_option linter.all false
set_option maxRecDepth 100000
set_option maxHeartbeats 4000000
/-! sorted of tuples of whole numbers of any lengths, one of them empty -/
namespace SrtI
open PySem PySem.Spec PyProof.Rows L2 SrtO
def IsTI (h : Heap) (v : Value) (ns : List Int) : Prop := ∃ a its, v = .ref a ∧ h.IsTuple a its ∧ IntsAre its.toList ns
theorem IsTI.uniq {h : Heap} {v : Value} {ns ms : List Int} (a : IsTI h v ns) (b : IsTI h v ms) : ns = ms := by
  obtain ⟨x, its, rfl, ⟨o, ho, hc, n, hd⟩, i1⟩ := a
  obtain ⟨y, its2, e, ⟨o2, ho2, hc2, n2, hd2⟩, i2⟩ := b
  cases e
  rw [ho] at ho2
  cases ho2
  rw [hd] at hd2
  cases hd2
  have key : ∀ {vs : List Value} {ns ms : List Int}, IntsAre vs ns → IntsAre vs ms → ns = ms := by
    intro vs
    induction vs with
    | nil => intro ns ms h1 h2; cases h1; cases h2; rfl
    | cons v vs ih =>
      intro ns ms h1 h2
      cases h1 with
      | cons n t h1 =>
        cases h2 with
        | cons m u h2 => rw [ih h1 h2]
  exact key i1 i2
theorem IsTI.keeps {h h' : Heap} {v : Value} {ns : List Int} (p : IsTI h v ns) (k : ∀ b o, h.get? b = some o → o.cls = .type "tuple" → h'.get? b = some o) : IsTI h' v ns := by
  obtain ⟨a, its, e, ⟨o, ho, hc, n, hd⟩, i⟩ := p
  exact ⟨a, its, e, ⟨o, k _ _ ho hc, hc, n, hd⟩, i⟩
open Classical in
noncomputable def kOf (h : Heap) (v : Value) : List Int := if q : ∃ ns, IsTI h v ns then q.choose else []
theorem kOf_is {h : Heap} {v : Value} {ns : List Int} (p : IsTI h v ns) : kOf h v = ns := by
  have q : ∃ ns, IsTI h v ns := ⟨ns, p⟩
  unfold kOf
  rw [dif_pos q]
  exact q.choose_spec.uniq p
section
variable {prog : Program} {w : World} {A : Around} {E : Value → Shared → Prop} {s : Shared}
theorem ti_first {v : Value} {ns : List Int} (p : IsTI s.heap v ns) : ∃ (f : Option Value), (f.isSome = !ns.isEmpty) ∧ ∀ (Q : Option Value → Shared → Prop) (E : Value → Shared → Prop), Q f s → wpAny (model prog w) A (firstOfTuple' v) Q E s := by
  obtain ⟨a, its, rfl, ⟨o, ho, hc, n, hd⟩, i⟩ := p
  refine ⟨its[0]?, ?_, fun Q E hq => ?_⟩
  · have hl := i.length
    rw [Array.length_toList] at hl
    cases ns with
    | nil =>
      have : its.size = 0 := by simpa using hl
      rw [Array.getElem?_eq_none (by omega)]
      rfl
    | cons x ns =>
      have : its.size = ns.length + 1 := by simpa using hl
      rw [Array.getElem?_eq_getElem (by omega)]
      rfl
  · rw [PySem.W.kas_first_eq]
    refine wpAny_bind (PySem.W.Looks.here (show PySem.W.Looks (model prog w) s.heap (typeOf (.ref a)) o.cls from (PySem.W.Looks.ld ho).andThen .now) ?_)
    rw [hc, if_neg (by first | decide | simp)]
    exact wpAny_bind (listItems_at ho hd (wpAny_pure hq))
theorem ti_firsts : ∀ (vs : List Value) (k : Value → List Int), (∀ v ∈ vs, IsTI s.heap v (k v)) → ∃ fs : List (Option Value), fs.map (·.isSome) = vs.map (fun v => !(k v).isEmpty) ∧ ∀ (Q : List (Option Value) → Shared → Prop) (E : Value → Shared → Prop), Q fs s → wpAny (model prog w) A (vs.mapM firstOfTuple') Q E s
  | [], _, _ => ⟨[], rfl, fun Q E hq => by rw [List.mapM_nil]; exact wpAny_pure hq⟩
  | v :: vs, k, h => by
    obtain ⟨f, hf, pf⟩ := ti_first (prog := prog) (w := w) (A := A) (h v List.mem_cons_self)
    obtain ⟨fs, hfs, pfs⟩ := ti_firsts vs k fun x hx => h x (List.mem_cons_of_mem _ hx)
    refine ⟨f :: fs, by rw [List.map_cons, List.map_cons, hf, hfs], fun Q E hq => ?_⟩
    rw [List.mapM_cons]
    exact wpAny_bind (pf _ _ (wpAny_bind (pfs _ _ (wpAny_pure hq))))
theorem ti_kind {vs : List Value} {k : Value → List Int} {v0 : Value} {vr : List Value} (e : vs = v0 :: vr) (h : ∀ v ∈ vs, IsTI s.heap v (k v)) (h0 : k v0 ≠ []) (he : ∃ v ∈ vr, k v = []) {Q : SortKind → Shared → Prop} (hq : Q general' s) : wpAny (model prog w) A (keyKind' vs.toArray) Q E s := by
  obtain ⟨fs, hfs, pfs⟩ := ti_firsts (prog := prog) (w := w) (A := A) vs k h
  rw [PyProof.Rows.kat_kind_eq, List.mapM_toArray, map_eq_pure_bind]
  refine wpAny_bind (wpAny_bind (pfs _ _ (wpAny_pure ?_)))
  have hall : ¬ (fs.toArray.all fun x => x.isSome) = true := by
    intro z
    obtain ⟨v, hv, hk⟩ := he
    have hm : false ∈ fs.map (·.isSome) := by
      rw [hfs]
      exact List.mem_map.mpr ⟨v, by rw [e]; exact List.mem_cons_of_mem _ hv, by rw [hk]; rfl⟩
    obtain ⟨f, hf, hf2⟩ := List.mem_map.mp hm
    have := List.all_eq_true.mp (by simpa using z) f hf
    rw [hf2] at this
    cases this
  rw [if_neg hall]
  have hfirst : ((fs.toArray[0]?).bind id).isSome = true := by
    subst e
    cases fs with
    | nil => simp at hfs
    | cons f fs =>
      have hf : f.isSome = !(k v0).isEmpty := by
        have := congrArg List.head? hfs
        simpa using this
      have : (k v0).isEmpty = false := by
        cases hk : k v0 with
        | nil => exact absurd hk h0
        | cons _ _ => rfl
      rw [this] at hf
      show ((some f).bind id).isSome = true
      exact hf
  rw [if_pos hfirst]
  exact wpAny_pure hq
theorem ti_cmp {vs : List Value} {k : Value → List Int} (hu : A.units < cLine) (h : ∀ v ∈ vs, IsTI s.heap v (k v)) : Cmp prog w A s general' (fun p => p.1 ∈ vs) (lt2 fun v u => HT.lexLt (k v) (k u)) := by
  intro p q hp hq
  obtain ⟨a, its, ea, ta, ia⟩ := h _ hp
  obtain ⟨b, jts, eb, tb, ib⟩ := h _ hq
  show wpAny (model prog w) A (oneLt' false p.1 q.1) (fun r s' => s' = s ∧ r = HT.lexLt (k p.1) (k q.1)) (fun _ _ => False) s
  generalize k p.1 = ns at *
  generalize k q.1 = ms at *
  rw [ea, eb]
  refine PySem.W.kat_one (Q := fun r s' => s' = s ∧ r = HT.lexLt ns ms) _ _ ?_
  refine HT.lt_tupInts (Q := PySem.W.BoolBack fun r s' => s' = s ∧ r = HT.lexLt ns ms) ta tb ia ib hu ?_
  show s = s ∧ HT.lexLt ns ms = HT.lexLt ns ms
  exact ⟨rfl, rfl⟩
theorem ti_sortable {a : Addr} {vs : List Value} {k : Value → List Int} (hu : A.units < cLine) (h : ∀ v ∈ vs, IsTI s.heap v (k v)) (hc : ∃ v0 vr, vs = v0 :: vr ∧ k v0 ≠ [] ∧ ∃ v ∈ vr, k v = []) (ha : ∀ o, s.heap.get? a = some o → o.cls ≠ .type "tuple") : SortableO prog w A s a vs fun v u => HT.lexLt (k v) (k u) := by
  intro h' keep
  have hp' : ∀ v ∈ vs, IsTI h' v (k v) := fun v hm => (h v hm).keeps fun b o e c => keep b o (fun z => by subst z; exact ha o e c) e
  obtain ⟨v0, vr, e, h0, he⟩ := hc
  exact ⟨general', fun Q E hq => ti_kind (s := { s with heap := h' }) e hp' h0 he hq, ti_cmp hu hp'⟩
theorem sorted_ti {l : Addr} {vs : List Value} {k : Value → List Int} {Q : Value → Shared → Prop} (hl : s.heap.IsList l vs.toArray) (hz : vs.length ≤ sizeLine) (hu : A.units + 8 < cLine) (hp : ∀ v ∈ vs, IsTI s.heap v (k v)) (hc : 2 ≤ vs.length → ∃ v0 vr, vs = v0 :: vr ∧ k v0 ≠ [] ∧ ∃ v ∈ vr, k v = [])
    (h : ∀ (h' : Heap) (d : Addr) (out : List Value), Srtd (fun v u => HT.lexLt (k v) (k u)) out → Stb (fun v u => HT.lexLt (k v) (k u)) out vs → (∀ b o, s.heap.get? b = some o → h'.get? b = some o) → s.heap.objs.size ≤ d → (∃ n, h'.get? d = some (seqObj "list" out.toArray n)) → Q (.ref d) { s with heap := h' }) :
    wpAny (model prog w) A (call (.builtin "sorted") [.ref l]) Q E s := by
  refine sorted_ord (NtL.swo_lexL k) hl hz (fun h2 h₁ a ha kk => ?_) fun out hs hb => ?_
  · refine ti_sortable (s := { s with heap := h₁ }) (by show A.units + 1 + 1 < cLine; omega) (fun v hm => (hp v hm).keeps fun b o e _ => (kk b o e).2) (hc h2) fun o e => ?_
    have e' : some o = some (seqObj "list" vs.toArray 0) := e.symm.trans ha
    cases e'
    intro c
    exact absurd (Value.type.inj c) (by decide)
  · exact h _ _ out hs hb (fun b o e => sortedAll_old e) (Nat.le_succ _) (sortedAll_at s.heap vs out.toArray)
end
end SrtI
namespace Wk
open PySem PySem.Spec PyProof.Rows L2 Evl SrtI
theorem dpa_get {K : PySem.W.Frag} {H : Hp} {α : Type} {enc : α → PyData} : ∀ {xs : List V} {ws : List α}, DpAll K H xs (ws.map enc) → ∀ {i : Nat} {x : V}, xs[i]? = some x → ∃ w, ws[i]? = some w ∧ Dp K H x (enc w)
  | [], _, _, i, x, e => by simp at e
  | x :: xs, [], h, _, _, _ => by cases h
  | x :: xs, w :: ws, h, i, y, e => by
    cases h with
    | cons h1 h2 =>
      cases i with
      | zero =>
        simp at e
        subst e
        exact ⟨w, rfl, h1⟩
      | succ i => exact dpa_get h2 (by simpa using e)
theorem dpa_of {K : PySem.W.Frag} {H : Hp} {α β : Type} {enc : α → PyData} {g : β → V} {k : β → α} : ∀ {l : List β}, (∀ u ∈ l, Dp K H (g u) (enc (k u))) → DpAll K H (l.map g) ((l.map k).map enc)
  | [], _ => .nil
  | u :: l, h => .cons (h u List.mem_cons_self) (dpa_of fun x hx => h x (List.mem_cons_of_mem _ hx))
def rSortW (K : PySem.W.Frag) : List V → Hp → VK → Prop := fun vs H Q => ∃ (l : Addr) (xs : List V) (ws : List Wy), vs = [V.ref l] ∧ SqL K H l xs ∧ DpAll K H xs (ws.map wd) ∧ ws.Nodup ∧ (2 ≤ ws.length → ∃ w rest, ws = w :: rest ∧ w ≠ [] ∧ [] ∈ rest) ∧
  ∀ ys ws' p, Asc ltW ws' → ws'.Perm ws → DpAll K H ys (ws'.map wd) → H p = none → Q (.ref p) (upd H p (.lst ys))
theorem cr_sortW {X : Cx} {K : PySem.W.Frag} (hK : X.K = K) (hu : X.A.units + 8 < cLine) : CallR X (.builtin "sorted") (rSortW K) := by
  subst hK
  intro pins s σ H vs us Q I r h
  obtain ⟨a, xs, ws, rfl, hs, hd, nd, hc, q⟩ := h
  obtain ⟨its, rv, hl, hz⟩ := I.list hs
  obtain ⟨u, rfl, ru⟩ := vals1 r
  obtain rfl : u = Value.ref a := ru
  have hxl : xs.length = ws.length := by have := dpa_len hd; rw [List.length_map] at this; exact this
  obtain ⟨e1, e2⟩ := refs_back rv fun x m => by
    obtain ⟨i, hi⟩ := List.getElem?_of_mem m
    obtain ⟨w, _, hw⟩ := dpa_get hd hi
    obtain ⟨t, e, _⟩ := dp_wd hw
    exact ⟨t, e⟩
  -- each value is a tuple of its way
  have hat : ∀ (i : Nat) (v : Value), its[i]? = some v → ∃ w, ws[i]? = some w ∧ Dp X.K H (backV v) (wd w) ∧ IsTI s.heap v w := fun i v hv => by
    have hx : xs[i]? = some (backV v) := by rw [e1, List.getElem?_map, hv]; rfl
    obtain ⟨w, h1, h2⟩ := dpa_get hd hx
    obtain ⟨t, e, ht⟩ := dp_wd h2
    obtain ⟨t', rfl⟩ := e2 v (List.mem_of_getElem? hv)
    have e' : t' = t := by injection e
    subst e'
    obtain ⟨jts, r2, ht2, _⟩ := I.tuple ht
    exact ⟨w, h1, h2, t', jts.toArray, rfl, ht2, by simpa using Vals.ints r2⟩
  have hk : its.map (kOf s.heap) = ws := by
    apply List.ext_getElem?
    intro i
    rw [List.getElem?_map]
    cases hv : its[i]? with
    | none =>
      have h1 := List.getElem?_eq_none_iff.mp hv
      have h2 := rv.length
      rw [List.getElem?_eq_none (by omega)]
      rfl
    | some v =>
      obtain ⟨w, h1, _, h3⟩ := hat i v hv
      rw [h1]
      show some (kOf s.heap v) = some w
      rw [kOf_is h3]
  have hin : ∀ v ∈ its, IsTI s.heap v (kOf s.heap v) ∧ Dp X.K H (backV v) (wd (kOf s.heap v)) := fun v hv => by
    obtain ⟨i, hi⟩ := List.getElem?_of_mem hv
    obtain ⟨w, _, h2, h3⟩ := hat i v hi
    rw [kOf_is h3]
    exact ⟨h3, h2⟩
  refine sorted_ti (k := kOf s.heap) hl.isList (by rw [← rv.length]; exact hz) hu (fun v hv => (hin v hv).1) (fun h2 => ?_) fun h' d out h1 h2 kp hd' hn => ?_
  · have hil : its.length = ws.length := by rw [← rv.length]; exact hxl
    obtain ⟨w, rest, ew, hw, hr⟩ := hc (by omega)
    rw [← hk] at ew
    cases its with
    | nil => cases ew
    | cons v0 vr =>
      rw [List.map_cons] at ew
      injection ew with ew1 ew2
      rw [← ew2] at hr
      obtain ⟨v, hv, hkv⟩ := List.mem_map.mp hr
      exact ⟨v0, vr, rfl, by rw [ew1]; exact hw, v, hv, hkv⟩
  · have hperm := h2.perm
    have hm : ∀ u ∈ out, u ∈ its := fun u hu => hperm.mem_iff.mp hu
    have h3 : ∀ u ∈ out, ∃ a, u = Value.ref a := fun u hu => e2 u (hm u hu)
    obtain ⟨n, hn⟩ := hn
    have hp2 : (out.map (kOf s.heap)).Perm ws := by rw [← hk]; exact hperm.map _
    refine ⟨.ref d, upd H d (.lst (out.map backV)), I.laid (t' := s.toks) kp hd' ⟨?_, out, n, vals_back h3, hn⟩, rfl, q (out.map backV) (out.map (kOf s.heap)) d ?_ hp2 (dpa_of fun u hu => (hin u (hm u hu)).2) (I.hok.fresh hd')⟩
    · rw [List.length_map, hperm.length_eq, ← rv.length]
      exact hz
    · exact asc_of sto_W (List.pairwise_map.mpr h1) (hp2.nodup_iff.mpr nd)
end Wk

set_option Elab.async false
set_option linter.all false
set_option maxRecDepth 100000
set_option maxHeartbeats 4000000
namespace Wk
open PySem PySem.Spec PyProof.Rows L2 Evl
/-! sorted of takings -/
def rSortT (K : PySem.W.Frag) : List V → Hp → VK → Prop := fun vs H Q => ∃ (l : Addr) (xs : List V) (ts : List (List Wy)), vs = [V.ref l] ∧ SqL K H l xs ∧ DpAll K H xs (ts.map tkd) ∧ ts.Nodup ∧ (∀ t ∈ ts, t ≠ []) ∧
  ∀ ys ts' p, Asc ltT ts' → ts'.Perm ts → DpAll K H ys (ts'.map tkd) → H p = none → Q (.ref p) (upd H p (.lst ys))
theorem each_vals {xs : List V} {us : List Value} (rv : Vals xs us) : PySem.W.EachIs (fun (v : Value) (x : V) => RelV x v) us xs := by
  induction rv with
  | nil => exact .nil
  | cons r t ih => exact .cons r ih
theorem vals_each {ps : List (V × List Wy)} {us : List Value} (h : PySem.W.EachIs (fun (v : Value) (p : V × List Wy) => RelV p.1 v) us ps) : Vals (ps.map (·.1)) us := by
  induction h with
  | nil => exact .nil
  | cons r t ih => exact .cons r ih
theorem each_zip {K : PySem.W.Frag} {H : Hp} : ∀ {xs : List V} {us : List Value} {ts : List (List Wy)}, Vals xs us → DpAll K H xs (ts.map tkd) → PySem.W.EachIs (fun (v : Value) (p : V × List Wy) => RelV p.1 v) us (xs.zip ts)
  | _, _, [], .nil, _ => .nil
  | _, _, [], .cons _ _, h => by cases h
  | _, _, t :: ts, .nil, h => by cases h
  | _, _, t :: ts, .cons r rv, h => by
    cases h with
    | cons h1 h2 => exact .cons r (each_zip rv h2)
theorem each_read {X : Cx} {pins : List (Addr × Obj)} {σ : L2.St} {H : Hp} {s : Shared} (I : Inv X pins σ H s) : ∀ {xs : List V} {us : List Value} {ts : List (List Wy)}, Vals xs us → DpAll X.K H xs (ts.map tkd) → PySem.W.EachIs (fun (v : Value) (p : V × List Wy) => ∃ as, Reads s.heap v (tkd p.2) as) us (xs.zip ts)
  | _, _, [], .nil, _ => .nil
  | _, _, [], .cons _ _, h => by cases h
  | _, _, t :: ts, .nil, h => by cases h
  | _, _, t :: ts, .cons r rv, h => by
    cases h with
    | cons h1 h2 => exact .cons (Dp.reads I _ _ _ h1 r) (each_read I rv h2)
theorem dep_tk (t : List Wy) : (tkd t).depth ≤ 2 := by
  have h : ∀ l : List Wy, PyData.depthAll (l.map wd) ≤ 1 := fun l => depAll.mpr fun d hd => by
    obtain ⟨w, _, rfl⟩ := List.mem_map.mp hd
    show (PyData.tuple (w.map PyData.int)).depth ≤ 1
    have : PyData.depthAll (w.map PyData.int) ≤ 0 := depAll.mpr fun d hd => by
      obtain ⟨x, _, rfl⟩ := List.mem_map.mp hd
      simp [PyData.depth]
    simp only [PyData.depth]
    omega
  have := h t
  show (PyData.tuple (t.map wd)).depth ≤ 2
  simp only [PyData.depth]
  omega
theorem cr_sortT {X : Cx} {K : PySem.W.Frag} (hK : X.K = K) (hu : X.A.units + 8 < cLine) : CallR X (.builtin "sorted") (rSortT K) := by
  subst hK
  intro pins s σ H vs us Q I r h
  obtain ⟨a, xs, ts, rfl, hs, hd, nd, hne, q⟩ := h
  obtain ⟨its, rv, hl, hz⟩ := I.list hs
  obtain ⟨u, rfl, ru⟩ := vals1 r
  obtain rfl : u = Value.ref a := ru
  have hxl : xs.length = ts.length := by have := dpa_len hd; rw [List.length_map] at this; exact this
  have hz2 : (xs.zip ts).map (·.2) = ts := List.map_snd_zip (by omega)
  have hzl : (xs.zip ts).length ≤ sizeLine := by rw [List.length_zip]; omega
  have hzd : ∀ p ∈ xs.zip ts, Dp X.K H p.1 (tkd p.2) := fun p hp => by
    obtain ⟨i, hi⟩ := List.getElem?_of_mem hp
    rw [List.getElem?_zip_eq_some] at hi
    obtain ⟨w, h1, h2⟩ := dpa_get hd hi.1
    rw [hi.2] at h1
    cases h1
    exact h2
  refine PySem.W.sorted_data (β := V × List Wy) (enc := fun p => tkd p.2) (R := fun v p => RelV p.1 v) (bs := xs.zip ts) hl.isList (each_zip rv hd) (each_read I rv hd) (PySem.W.AllAlike.of fun b b' => alike_tk _ _) (.inl fun d hd' => ?_) hzl (fun b hb => by have := dep_tk b.2; omega) fun out ho he => ?_
  · obtain ⟨p, hp, rfl⟩ := List.mem_map.mp hd'
    have hm : p.2 ∈ ts := (List.of_mem_zip hp).2
    cases ht : p.2 with
    | nil => exact absurd ht (hne _ hm)
    | cons x t => exact ⟨wd x, t.map wd, rfl⟩
  · have hle : PySem.W.dataLe false (fun p : V × List Wy => tkd p.2) = fun p q => !ltT q.2 p.2 := by
      rw [PySem.W.dataLe_eq]
      funext p q
      show (!PySem.W.dataLt (tkd q.2) (tkd p.2)) = !ltT q.2 p.2
      congr 1
      show PySem.W.dataLt (.tuple (q.2.map wd)) (.tuple (p.2.map wd)) = _
      rw [PySem.W.dataLt_tuple]
      exact lt_tk _ _
    rw [hle] at he
    have hperm := List.mergeSort_perm (xs.zip ts) (fun p q => !ltT q.2 p.2)
    have hpw := List.pairwise_mergeSort (le := fun p q : V × List Wy => !ltT q.2 p.2) (fun a b c h1 h2 => ?_) (fun a b => ?_) (xs.zip ts)
    · generalize (xs.zip ts).mergeSort (fun p q => !ltT q.2 p.2) = ps at *
      have hp2 : (ps.map (·.2)).Perm ts := by
        have z := hperm.map (·.2)
        rw [hz2] at z
        exact z
      have hv := vals_each he
      have hd' : s.heap.objs.size ≤ s.heap.objs.size + 1 := Nat.le_succ _
      obtain ⟨n, hn⟩ := sortedAll_at s.heap its out.toArray
      refine ⟨.ref (s.heap.objs.size + 1), upd H (s.heap.objs.size + 1) (.lst (ps.map (·.1))), I.laid (t' := s.toks) (fun b o e => sortedAll_old e) hd' ⟨?_, out, n, hv, hn⟩, rfl, q (ps.map (·.1)) (ps.map (·.2)) _ ?_ hp2 (dpa_of fun p hp => hzd p (hperm.mem_iff.mp hp)) (I.hok.fresh hd')⟩
      · rw [List.length_map, hperm.length_eq]
        exact hzl
      · refine asc_of sto_T (List.pairwise_map.mpr (hpw.imp fun {p q} z => ?_)) (hp2.nodup_iff.mpr nd)
        simpa using z
    · -- transitive
      simp only [Bool.not_eq_true'] at h1 h2 ⊢
      cases hc : ltT c.2 a.2 with
      | false => rfl
      | true =>
        by_cases e1 : a.2 = b.2
        · rw [e1] at hc; rw [h2] at hc; cases hc
        rcases sto_T.tri a.2 b.2 e1 with z | z
        · rw [sto_T.tr _ _ _ hc z] at h2
          cases h2
        · rw [h1] at z
          cases z
    · by_cases e1 : a.2 = b.2
      · rw [e1, sto_T.irr]
        rfl
      · rcases sto_T.tri a.2 b.2 e1 with z | z
        · rw [sto_T.asym z]
          rfl
        · rw [sto_T.asym z]
          simp
end Wk

set_option Elab.async false
set_option linter.all false
set_option maxRecDepth 100000
set_option maxHeartbeats 2000000
namespace Wk
open PySem PySem.Spec PyProof.Rows L2 Evl
/-! outcomes, router by router -/
def ptk (n : Nat) (pre : List Wy) : List (Option Wy) := pre.map some ++ List.replicate (n - pre.length) none
theorem ptk_len {n : Nat} {pre : List Wy} (h : pre.length ≤ n) : (ptk n pre).length = n := by
  unfold ptk
  rw [List.length_append, List.length_map, List.length_replicate]
  omega
theorem ptk_at {n : Nat} {pre : List Wy} {i : Nat} (h : i < pre.length) : (ptk n pre)[i]? = some pre[i]? := by
  unfold ptk
  rw [List.getElem?_append_left (by rw [List.length_map]; exact h), List.getElem?_map, List.getElem?_eq_getElem h]
  rfl
theorem ptk_behind {n : Nat} {pre : List Wy} {i : Nat} (h : pre.length ≤ i) : (ptk n pre).getD i none = none := by
  unfold ptk
  rw [List.getD_eq_getElem?_getD, List.getElem?_append_right (by rw [List.length_map]; exact h), List.getElem?_replicate]
  split <;> rfl
theorem ptk_getD {n : Nat} {pre : List Wy} {i : Nat} : (ptk n pre).getD i none = pre[i]? := by
  by_cases c : i < pre.length
  · rw [List.getD_eq_getElem?_getD, ptk_at c]
    rfl
  · rw [ptk_behind (by omega), List.getElem?_eq_none (by omega)]
theorem ptk_full {pre : List Wy} : ptk pre.length pre = pre.map some := by
  unfold ptk
  rw [Nat.sub_self]
  simp
/-- the next item is put -/
theorem ptk_snoc {n : Nat} {pre : List Wy} {x : Wy} (h : pre.length < n) : (ptk n pre).set pre.length (some x) = ptk n (pre ++ [x]) := by
  apply List.ext_getElem?
  intro i
  unfold ptk
  rw [List.getElem?_set]
  by_cases c : pre.length = i
  · subst c
    rw [if_pos rfl, if_pos (by rw [List.length_append, List.length_map, List.length_replicate]; omega), List.getElem?_append_left (by simp), List.getElem?_map]
    simp
  · rw [if_neg c]
    by_cases c2 : i < pre.length
    · rw [List.getElem?_append_left (by rw [List.length_map]; exact c2), List.getElem?_append_left (by simp; omega), List.getElem?_map, List.getElem?_map, List.getElem?_append_left c2]
    · rw [List.getElem?_append_right (by rw [List.length_map]; omega), List.getElem?_append_right (by simp; omega), List.getElem?_replicate, List.getElem?_replicate]
      simp only [List.length_map, List.length_append, List.length_cons, List.length_nil]
      by_cases c3 : i < n
      · rw [if_pos (by omega), if_pos (by omega)]
      · rw [if_neg (by omega), if_neg (by omega)]
/-- items that routers may have -/
def PreOk (rows : List (List Wy)) (pre : List Wy) : Prop := pre.length ≤ rows.length ∧ ∀ (i : Nat) (x : Wy), pre[i]? = some x → x ∈ chW rows i
theorem PreOk.tk {rows : List (List Wy)} {pre : List Wy} (h : PreOk rows pre) : TkO rows (ptk rows.length pre) := ⟨ptk_len h.1, fun i x e => by
  have hi : (ptk rows.length pre).getD i none = some x := by rw [List.getD_eq_getElem?_getD, e]; rfl
  rw [ptk_getD] at hi
  exact h.2 i x hi⟩
def okP (rows : List (List Wy)) (pre : List Wy) : Bool := decide (fcs rows (ptk rows.length pre) (rows.length - 1) 1 = none)
/-- what is had shows no more wrong than what is had with more -/
theorem csL_mono {t t' : List (Option Wy)} (h : ∀ i x, t.getD i none = some x → t'.getD i none = some x) {own : Wy} : ∀ {ws : List Wy}, csL t own ws = true → csL t' own ws = true
  | [], e => by cases e
  | w :: ws, e => by
    unfold csL at e ⊢
    by_cases c : w = own
    · rw [if_pos c] at e
      cases e
    · rw [if_neg c] at e ⊢
      by_cases c1 : hit t w = true
      · have c2 : hit t' w = true := by
          unfold hit at c1 ⊢
          exact decide_eq_true (h _ _ (of_decide_eq_true c1))
        rw [if_pos c2]
      · rw [if_neg c1] at e
        by_cases c2 : hit t' w = true
        · rw [if_pos c2]
        · rw [if_neg c2]
          exact csL_mono h e
theorem csB_mono {rows : List (List Wy)} {t t' : List (Option Wy)} (h : ∀ i x, t.getD i none = some x → t'.getD i none = some x) {i : Nat} (e : csB rows t i = true) : csB rows t' i = true := by
  unfold csB at e ⊢
  cases ho : t.getD i none with
  | none => rw [ho] at e; cases e
  | some own =>
    rw [ho] at e
    rw [h _ _ ho]
    dsimp only at e ⊢
    by_cases c : own ≠ [] ∧ t'.getD (own.getD 1 0).toNat none ≠ none ∧ hit t' own = false
    · rw [if_pos c]
    · rw [if_neg c]
      by_cases c1 : own ≠ [] ∧ t.getD (own.getD 1 0).toNat none ≠ none ∧ hit t own = false
      · exfalso
        obtain ⟨c2, c3, c4⟩ := c1
        obtain ⟨y, hy⟩ := Option.ne_none_iff_exists'.mp c3
        have hy' := h _ _ hy
        refine c ⟨c2, by rw [hy']; simp, ?_⟩
        unfold hit at c4 ⊢
        rw [hy] at c4
        rw [hy']
        exact c4
      · rw [if_neg c1] at e
        exact csL_mono h e
theorem fcs_none {rows : List (List Wy)} {t : List (Option Wy)} : ∀ {m i : Nat}, fcs rows t m i = none ↔ ∀ j, i ≤ j → j < i + m → csB rows t j = false
  | 0, i => ⟨fun _ j h1 h2 => by omega, fun _ => rfl⟩
  | m + 1, i => by
    unfold fcs
    by_cases c : csB rows t i = true
    · rw [if_pos c]
      refine ⟨fun z => (by cases z), fun z => ?_⟩
      rw [z i (Nat.le_refl _) (by omega)] at c
      cases c
    · rw [if_neg c, fcs_none (m := m) (i := i + 1)]
      refine ⟨fun z j h1 h2 => ?_, fun z j h1 h2 => z j (by omega) (by omega)⟩
      by_cases e : j = i
      · subst e
        simpa using c
      · exact z j (by omega) (by omega)
theorem okP_mono {rows : List (List Wy)} {pre : List Wy} {x : Wy} (h : okP rows (pre ++ [x]) = true) : okP rows pre = true := by
  unfold okP at h ⊢
  have h1 := of_decide_eq_true h
  refine decide_eq_true (fcs_none.mpr fun j h2 h3 => ?_)
  have h4 := fcs_none.mp h1 j h2 h3
  cases c : csB rows (ptk rows.length pre) j with
  | false => rfl
  | true =>
    have := csB_mono (rows := rows) (t' := ptk rows.length (pre ++ [x])) (fun i y e => by
      rw [ptk_getD] at e ⊢
      have hl := (List.getElem?_eq_some_iff.mp e).1
      rw [List.getElem?_append_left hl]
      exact e) c
    rw [h4] at this
    cases this
theorem okP_goal {rows : List (List Wy)} : okP rows [[0]] = true := by
  unfold okP
  refine decide_eq_true (fcs_none.mpr fun j h2 _ => ?_)
  unfold csB
  rw [ptk_getD, List.getElem?_eq_none (by show 1 ≤ j; exact h2)]
/-! the rows behind each router -/
/-- the rows in which the routers up to r have an item -/
structure StgI (rows : List (List Wy)) (r : Nat) (L : List (List Wy)) : Prop where
  asc : Asc ltT L
  mem : ∀ pre, pre ∈ L ↔ (pre.length = r + 1 ∧ PreOk rows pre ∧ okP rows pre = true)
  few : L.length ≤ tks (rows.take (r + 1))
def fol (rows : List (List Wy)) (ws : List Wy) (pre : List Wy) : List (List Wy) := (ws.map fun x => pre ++ [x]).filter (okP rows)
theorem lexT_app {a b c d : List Wy} (hl : a.length = b.length) (h : ltT a b = true) : ltT (a ++ c) (b ++ d) = true := by
  induction a generalizing b with
  | nil =>
    cases b with
    | nil => cases h
    | cons _ _ => simp at hl
  | cons x a ih =>
    cases b with
    | nil => simp at hl
    | cons y b =>
      have h' : (if x = y then ltT a b else ltW x y) = true := h
      show (if x = y then ltT (a ++ c) (b ++ d) else ltW x y) = true
      by_cases e : x = y
      · rw [if_pos e] at h' ⊢
        exact ih (by simpa using hl) h'
      · rw [if_neg e] at h' ⊢
        exact h'
theorem lexT_same {a c d : List Wy} : ltT (a ++ c) (a ++ d) = ltT c d := by
  induction a with
  | nil => rfl
  | cons x a ih =>
    show (if x = x then ltT (a ++ c) (a ++ d) else _) = _
    rw [if_pos rfl]
    exact ih
theorem lexT_one {x y : Wy} (h : ltW x y = true) : ltT [x] [y] = true := by
  show (if x = y then ltT [] [] else ltW x y) = true
  rw [if_neg (fun z => by rw [z, sto_W.irr] at h; cases h)]
  exact h
theorem fol_mem {rows : List (List Wy)} {ws pre t : List Wy} : t ∈ fol rows ws pre ↔ ∃ x ∈ ws, t = pre ++ [x] ∧ okP rows t = true := by
  unfold fol
  rw [List.mem_filter, List.mem_map]
  constructor
  · rintro ⟨⟨x, hx, rfl⟩, h⟩
    exact ⟨x, hx, rfl, h⟩
  · rintro ⟨x, hx, rfl, h⟩
    exact ⟨⟨x, hx, rfl⟩, h⟩
theorem fol_asc {rows : List (List Wy)} {ws pre : List Wy} (h : Asc ltW ws) : Asc ltT (fol rows ws pre) := by
  refine List.Pairwise.filter _ (List.pairwise_map.mpr (h.imp fun {x y} q => ?_))
  rw [lexT_same]
  exact lexT_one q
theorem stg_start {rows : List (List Wy)} (hG : GW rows) (h2 : 2 ≤ rows.length) : StgI rows 0 [[[0]]] := by
  refine ⟨List.pairwise_singleton _ _, fun pre => ?_, tks_pos _⟩
  rw [List.mem_singleton]
  constructor
  · rintro rfl
    refine ⟨rfl, ⟨by show 1 ≤ rows.length; omega, fun i x e => ?_⟩, okP_goal⟩
    cases i with
    | zero => simp at e; subst e; simp [chW]
    | succ i => simp at e
  · rintro ⟨h1, hp, _⟩
    cases pre with
    | nil => simp at h1
    | cons x pre =>
      have hn : pre = [] := by simpa using h1
      subst hn
      have := hp.2 0 x rfl
      unfold chW at this
      rw [if_pos rfl] at this
      rw [List.mem_singleton.mp this]
theorem stg_step {rows : List (List Wy)} {r : Nat} {L : List (List Wy)} {ws : List Wy} (hr : r + 1 < rows.length) (S : StgI rows r L) (ha : Asc ltW ws) (hp : ws.Perm (chW rows (r + 1))) : StgI rows (r + 1) (L.flatMap (fol rows ws)) := by
  refine ⟨?_, fun t => ?_, ?_⟩
  · refine List.pairwise_flatMap.mpr ⟨fun pre hpre => fol_asc ha, ?_⟩
    refine (List.Pairwise.and_mem.mp S.asc).imp fun {p q} ⟨hp1, hq1, h⟩ x hx y hy => ?_
    obtain ⟨x', _, rfl, _⟩ := fol_mem.mp hx
    obtain ⟨y', _, rfl, _⟩ := fol_mem.mp hy
    exact lexT_app (by rw [((S.mem p).mp hp1).1, ((S.mem q).mp hq1).1]) h
  · rw [List.mem_flatMap]
    constructor
    · rintro ⟨pre, hpre, ht⟩
      obtain ⟨x, hx, rfl, hok⟩ := fol_mem.mp ht
      obtain ⟨h1, h2, h3⟩ := (S.mem pre).mp hpre
      refine ⟨by rw [List.length_append, h1]; rfl, ⟨by rw [List.length_append, h1]; show r + 1 + 1 ≤ _; omega, fun i y e => ?_⟩, hok⟩
      by_cases c : i < pre.length
      · rw [List.getElem?_append_left c] at e
        exact h2.2 i y e
      · rw [List.getElem?_append_right (by omega)] at e
        have hi : i = r + 1 := by
          have := (List.getElem?_eq_some_iff.mp e).1
          simp at this
          omega
        subst hi
        rw [show r + 1 - pre.length = 0 by omega] at e
        have ey : x = y := by simpa using e
        subst ey
        exact hp.mem_iff.mp hx
    · rintro ⟨h1, h2, h3⟩
      have hne : t ≠ [] := fun z => by rw [z] at h1; simp at h1
      have ht := List.dropLast_concat_getLast hne
      generalize t.dropLast = pre at ht
      generalize t.getLast hne = x at ht
      subst ht
      have hl : pre.length = r + 1 := by simpa using h1
      refine ⟨pre, (S.mem pre).mpr ⟨hl, ⟨by omega, fun i y e => ?_⟩, okP_mono h3⟩, fol_mem.mpr ⟨x, ?_, rfl, h3⟩⟩
      · have hi := (List.getElem?_eq_some_iff.mp e).1
        exact h2.2 i y (by rw [List.getElem?_append_left hi]; exact e)
      · have := h2.2 (r + 1) x (by rw [List.getElem?_append_right (by omega), show r + 1 - pre.length = 0 by omega]; rfl)
        exact hp.mem_iff.mpr this
  · have hrw : rows[r + 1]? = some rows[r + 1] := List.getElem?_eq_getElem hr
    have hcl : ws.length = rows[r + 1].length + 1 := by
      rw [hp.length_eq]
      unfold chW
      rw [if_neg (by omega), List.getD_eq_getElem?_getD, hrw, List.length_append]
      rfl
    rw [tks_take hrw, ← hcl]
    have h1 : ∀ L : List (List Wy), (L.flatMap (fol rows ws)).length ≤ L.length * ws.length := fun L => by
      induction L with
      | nil => simp
      | cons p L ih =>
        rw [List.flatMap_cons, List.length_append, List.length_cons, Nat.add_mul, Nat.one_mul]
        have : (fol rows ws p).length ≤ ws.length := by
          unfold fol
          refine Nat.le_trans (List.length_filter_le _ _) ?_
          rw [List.length_map]
          exact Nat.le_refl _
        omega
    exact Nat.le_trans (h1 L) (Nat.mul_le_mul_right _ S.few)
end Wk

set_option Elab.async false
set_option linter.all false
set_option maxRecDepth 100000
set_option maxHeartbeats 4000000
namespace Wk
open PySem PySem.Spec PyProof.Rows L2 Evl
/-! takings that are takings -/
structure FullT (rows : List (List Wy)) (pre : List Wy) : Prop where
  len : pre.length = rows.length
  ok : ∀ (i : Nat) (x : Wy), pre[i]? = some x → x ∈ chW rows i
theorem FullT.pre {rows : List (List Wy)} {pre : List Wy} (h : FullT rows pre) : PreOk rows pre := ⟨by rw [h.len]; exact Nat.le_refl _, h.ok⟩
theorem FullT.ptk {rows : List (List Wy)} {pre : List Wy} (h : FullT rows pre) : ptk rows.length pre = pre.map some := by rw [← h.len]; exact ptk_full
theorem FullT.l8 {rows : List (List Wy)} {pre : List Wy} (h : FullT rows pre) (hG : GW rows) {x : Wy} (hx : x ∈ pre) : x.length ≤ 8 := by
  obtain ⟨i, hi⟩ := List.mem_iff_getElem?.mp hx
  have hc := h.ok i x hi
  have hil := (List.getElem?_eq_some_iff.mp hi).1
  unfold chW at hc
  by_cases c : i = 0
  · rw [if_pos c] at hc
    rw [List.mem_singleton.mp hc]
    simp
  · have hil2 : i < rows.length := by rw [← h.len]; exact hil
    have hr : rows[i]? = some rows[i] := List.getElem?_eq_getElem hil2
    rw [if_neg c, List.getD_eq_getElem?_getD, hr] at hc
    rcases List.mem_append.mp hc with z | z
    · exact (hG.ok i _ hr x z).l8
    · rw [List.mem_singleton.mp z]
      simp
theorem range_true (n : Nat) : ((List.range n).map fun _ => true).all id = true := by simp
section
variable {P : Program} {w : World} {K : PySem.W.Frag} {mg : Str → Option Value} {base : Heap} {f : Addr} {fd : FuncData} {CW CN : Addr}
abbrev spTup1 (K : PySem.W.Frag) : Sp := spP fun H vs z => ∃ (n : Int) (v : V) (ds : List PyData), vs = [.int n, v] ∧ Dp K H v (.tuple ds) ∧ z = .bl (decide (V.int (ds.length : Int) = V.int n))
theorem ok_tup1 (B : Bl mg) (F : FnP K "is_tuple_of" sTupOf f fd) : FnOk P w K mg base CX0 1 f fd ["many", "thing"] (spTup1 K) := by
  refine F.ok scTupOf (fun vs H Q E h => ?_) (fun cdv A outer s H vs Q E hr h => ?_)
  · obtain ⟨z, ⟨n, v, o, rfl, _⟩, _⟩ := h
    rfl
  · obtain ⟨z, ⟨n, v, ds, rfl, hv, rfl⟩, k⟩ := h
    refine ⟨_, pss_one (ps_ret (pe_and (pe_callB call_isi (by rfl) B.isi boot_isinstance (pa_cons (pv 1) (pa_cons (pe_bltn (v := .ty "tuple") (by rfl) B.tuple PyProof.Rows.boot_tuple rfl) pa_nil)))
      (pe_one (pe_cmpR op_eq (pe_callB call_len_seq (by rfl) B.len PySem.boot_len (pa_cons (pv 1) pa_nil)) (pv 0) (nomark _))))), ?_⟩
    refine s_ret (ev_is (ev_andV (a := true) (ep_isi (K := K) (ev_var rfl) hv k_tt) fun _ => ?_) rfl) k
    cases hv with
    | tup h1 h2 =>
      rename_i a xs
      rw [← dpa_len h2]
      exact ev_op (ev_lenT (K := K) (ta := tVar 1) (ev_var rfl) h1) (ev_var (i := 0) rfl) (rv_eq rfl)
abbrev spIntTup1 (K : PySem.W.Frag) : Sp := spP fun H vs z => ∃ (v : V) (x : Wy), vs = [v] ∧ Dp K H v (wd x) ∧ x.length ≤ 1000 ∧ z = .bl true
theorem ok_intTup1 (B : Bl mg) (C : Cal P w K mg base "is_integer" ["thing"] 1 spIsInt) (F : FnP K "is_integer_tuple" sIntTup f fd) : FnOk P w K mg base CX0 2 f fd ["thing"] (spIntTup1 K) := by
  refine F.ok scIntTup (fun vs H Q E h => ?_) (fun cdv A outer s H vs Q E hr h => ?_)
  · obtain ⟨z, ⟨v, d, rfl, _⟩, _⟩ := h
    rfl
  · obtain ⟨z, ⟨v, x, rfl, hv, hl, rfl⟩, k⟩ := h
    refine ⟨_, pss_one (ps_ret (pe_and (pe_callB call_isi (by rfl) B.isi boot_isinstance (pa_cons (pv 0) (pa_cons (pe_bltn (v := .ty "tuple") (by rfl) B.tuple PyProof.Rows.boot_tuple rfl) pa_nil)))
      (pe_one (pe_callB (cr_all rfl) (by rfl) B.all boot_all (pa_cons (pe_lc (own := [("item", 1)]) (g := gName 1) (tt := tYes) rfl scIntTup.nd (pi_tup (pv 0)) (blkOk_by (N := ["thing", "item"]) (sc := defScope sIntTup) (by decide +kernel))
          (fun _ _ _ _ _ => pg_name (i := 1) scIntTup.nd rfl (Or.inl rfl)) (fun _ _ _ _ _ => pts_nil) (fun _ _ _ _ _ => pe_cal C hr (by rfl) (pa_cons (pv 1) pa_nil))) pa_nil))))), ?_⟩
    have hv0 := hv
    obtain ⟨a, rfl, ha⟩ := dp_wd hv
    refine s_ret (ev_is (ev_andV (a := true) (ep_isi (K := K) (ev_var rfl) hv0 k_tt) fun _ => ?_) rfl) k
    have q := ev_allT (K := K) (H := H) (j := 1) (vs := [1]) (σ := start ["thing", "item"] [.ref a]) (tl := tVar 0) (te := tCall spIsInt [] E0 (tCons (tVar 1) tNil)) (fun i => true) (ev_var rfl) ha (by rw [List.length_map]; omega) (fun x => rfl)
      (fun i y H2 e2 hx => by
        rw [List.getElem?_map] at hx
        cases hq : x[i]? with
        | none => rw [hq] at hx; cases hx
        | some n =>
          rw [hq] at hx
          have e : y = .int n := (Option.some.inj hx).symm
          subst e
          exact ev_call (ea_cons (ev_var rfl) ea_nil) (spP_v fun H3 e5 => ⟨.int n, .int n, rfl, .int n, rfl⟩))
    rw [range_true] at q
    exact q
abbrev spChoice1 (K : PySem.W.Frag) (CW : Addr) : Sp := spP fun H vs z => ∃ (wv : V) (i : Nat) (v : V) (x : Wy) (rows : List (List Wy)), vs = [wv, .int (i : Int), v] ∧ WO CW H wv rows ∧ i < rows.length ∧ Dp K H v (wd x) ∧ x ∈ chW rows i ∧ x.length ≤ 1000 ∧ z = .bl true
theorem ok_choice1 (C : Cal P w K mg base "is_integer_tuple" ["thing"] 2 (spIntTup1 K)) (C2 : Cal P w K mg base "choices" ["wishes", "router"] 6 (spChoices K CW)) (F : FnP K "is_choice" sChoice f fd) : FnOk P w K mg base CX0 7 f fd ["wishes", "router", "thing"] (spChoice1 K CW) := by
  refine F.ok scChoice (fun vs H Q E h => ?_) (fun cdv A outer s H vs Q E hr h => ?_)
  · obtain ⟨z, ⟨wv, i, v, d, rows, rfl, _⟩, _⟩ := h
    rfl
  · obtain ⟨z, ⟨wv, i, v, x, rows, rfl, hw, hi, hv, hx, hl, rfl⟩, k⟩ := h
    have hu : (A.deeper (envOfC "is_choice" (defScope sChoice) s.heap.objs.size f cdv)).units + 65 < cLine := by have := hr.un; omega
    refine ⟨_, pss_one (ps_ret (pe_and (pe_cal C hr (by rfl) (pa_cons (pv 2) pa_nil)) (pe_one (pe_cmpR (op_inD hu) (pv 2) (pe_cal C2 hr (by rfl) (pa_cons (pv 0) (pa_cons (pv 1) pa_nil))) rfl)))), ?_⟩
    refine s_ret (ev_is (ev_andV (a := true) (b := decide (x ∈ chW rows i)) (ev_call (ea_cons (ev_var rfl) ea_nil) (spP_v fun H1 e => ⟨v, x, rfl, Dp.up e hv, hl, rfl⟩)) fun hb => ?_) (by simp [hx])) k
    intro H1 e1 Q2 q
    refine ⟨v, rfl, wv, rfl, .int (i : Int), rfl, wv, i, rows, rfl, hw.up e1, hi, fun H2 l us e2 _ hl2 hus => ?_⟩
    refine ⟨wd x, (chW rows i).map wd, Dp.up (e1.trans e2) hv, .lst (sq_of hl2) hus, shaped_wd _, shaped_wds _, ?_⟩
    rw [any_wd]
    exact q H2 e2
abbrev spTaking1 (K : PySem.W.Frag) (CW : Addr) : Sp := spP fun H vs z => ∃ (wv v : V) (pre : List Wy) (rows : List (List Wy)), vs = [wv, v] ∧ WO CW H wv rows ∧ Dp K H v (.tuple (pre.map wd)) ∧ FullT rows pre ∧ z = .bl true
theorem ok_taking1 (B : Bl mg) (W : WC P w K mg base CW CN) (C : Cal P w K mg base "is_tuple_of" ["many", "thing"] 1 (spTup1 K)) (C2 : Cal P w K mg base "is_choice" ["wishes", "router", "thing"] 7 (spChoice1 K CW)) (F : FnP K "is_taking" sTaking f fd) : FnOk P w K mg base CX0 8 f fd ["wishes", "thing"] (spTaking1 K CW) := by
  refine F.ok scTaking (fun vs H Q E h => ?_) (fun cdv A outer s H vs Q E hr h => ?_)
  · obtain ⟨z, ⟨wv, v, o, rows, rfl, _⟩, _⟩ := h
    rfl
  · obtain ⟨z, ⟨wv, v, pre, rows, rfl, hw, hv, hf, rfl⟩, k⟩ := h
    refine ⟨_, pss_cons (ps_if (pt_not (pt_val (pe_cal C hr (by rfl) (pa_cons (pe_fld (pv 0) rfl) (pa_cons (pv 1) pa_nil))))) (pss_one (ps_ret pe_bl)) pss_nil)
      (pss_one (ps_ret (pe_callB (cr_all rfl) (by rfl) B.all boot_all (pa_cons (pe_lc (own := [("router", 2), ("item", 3)]) (g := gTup K 2 (gCons (gName 2) (gCons (gName 3) gNil))) (tt := tYes) rfl scTaking.nd (pi_enumT (by rfl) B.enum (pa_cons (pv 1) pa_nil)) (blkOk_by (N := nTaking) (sc := defScope sTaking) (by decide +kernel))
          (fun _ _ _ _ _ => pg_tup rfl (pgs_cons (pg_name (i := 2) scTaking.nd rfl (Or.inl rfl)) (pgs_cons (pg_name (i := 3) scTaking.nd rfl (Or.inl rfl)) pgs_nil))) (fun _ _ _ _ _ => pts_nil) (fun _ _ _ _ _ => pe_cal C2 hr (by rfl) (pa_cons (pv 0) (pa_cons (pv 2) (pa_cons (pv 3) pa_nil))))) pa_nil)))), ?_⟩
    have v0 : ∀ {H1 : Hp}, Ev (tVar 0) (start nTaking [wv, v]) H1 wv := ev_var rfl
    refine q_when (b := !decide (V.int ((pre.map wd).length : Int) = V.int (rows.length : Int))) (et_not (et_B (ev_call (ea_cons (ev_wsize W.tx v0 hw) (ea_cons (ev_var rfl) ea_nil)) (spP_v fun H1 e => ⟨_, v, _, rfl, Dp.up e hv, rfl⟩)))) (fun hb H1 e1 => ?_) (fun hb H1 e1 => ?_)
    · rw [List.length_map, hf.len] at hb
      simp at hb
    · have hv1 := Dp.up e1 hv
      cases hv1 with
      | tup h1 h2 =>
        rename_i a xs
        have hxl := dpa_len h2
        rw [List.length_map] at hxl
        have n8 := hw.n8
        have hfl := hf.len
        have q := ev_allEnT (K := K) (H := H1) (i := 2) (j := 3) (vs := [2, 3]) (σ := start nTaking [wv, .ref a]) (tl := tVar 1) (te := tCall (spChoice1 K CW) [] E0 (tCons (tVar 0) (tCons (tVar 2) (tCons (tVar 3) tNil)))) (fun i => true) (ev_var rfl) h1 (by omega) (fun x y => rfl)
          (fun i x H2 e2 hx => by
            obtain ⟨y, e3, e4⟩ := dpa_get h2 hx
            have hil := (List.getElem?_eq_some_iff.mp e3).1
            exact ev_call (ea_cons (ev_var rfl) (ea_cons (ev_var rfl) (ea_cons (ev_var rfl) ea_nil))) (spP_v fun H3 e5 => ⟨wv, i, x, y, rows, rfl, hw.up ((e1.trans e2).trans e5), by omega, Dp.up (e2.trans e5) e4, hf.ok i y e3, by have := hf.l8 hw.g (List.mem_of_getElem? e3); omega, rfl⟩))
        rw [range_true] at q
        exact s_ret q fun H3 e3 => k H3 (e1.trans e3)
abbrev spOut1 (K : PySem.W.Frag) (CW : Addr) : Sp := spP fun H vs z => ∃ (wv v : V) (pre : List Wy) (rows : List (List Wy)), vs = [wv, v] ∧ WO CW H wv rows ∧ Dp K H v (.tuple (pre.map wd)) ∧ FullT rows pre ∧ z = .bl (okP rows pre)
theorem FullT.dp {K : PySem.W.Frag} {H : Hp} {v : V} {rows : List (List Wy)} {pre : List Wy} (h : FullT rows pre) (hv : Dp K H v (.tuple (pre.map wd))) : Dp K H v (.tuple ((Wk.ptk rows.length pre).map od)) := by
  rw [h.ptk, od_some]
  exact hv
theorem ok_out1 (C : Cal P w K mg base "is_taking" ["wishes", "thing"] 8 (spTaking1 K CW)) (C2 : Cal P w K mg base "first_that_cannot_stay" ["wishes", "items"] 7 (spFirst K CW)) (F : FnP K "is_outcome" sOut f fd) : FnOk P w K mg base CX0 9 f fd ["wishes", "thing"] (spOut1 K CW) := by
  refine F.ok scOut (fun vs H Q E h => ?_) (fun cdv A outer s H vs Q E hr h => ?_)
  · obtain ⟨z, ⟨wv, v, o, rows, rfl, _⟩, _⟩ := h
    rfl
  · obtain ⟨z, ⟨wv, v, pre, rows, rfl, hw, hv, hf, rfl⟩, k⟩ := h
    refine ⟨_, pss_one (ps_ret (pe_and (pe_cal C hr (by rfl) (pa_cons (pv 0) (pa_cons (pv 1) pa_nil))) (pe_one (pe_cmpR op_isN (pe_cal C2 hr (by rfl) (pa_cons (pv 0) (pa_cons (pv 1) pa_nil))) pe_non (nomark _))))), ?_⟩
    refine s_ret (ev_is (ev_andV (a := true) (b := okP rows pre) (ev_call (ea_cons (ev_var rfl) (ea_cons (ev_var rfl) ea_nil)) (spP_v fun H1 e => ⟨wv, v, pre, rows, rfl, hw.up e, Dp.up e hv, hf, rfl⟩)) fun hb => ?_) (by simp)) k
    unfold okP
    rw [← fcsV_none]
    exact ev_op (ev_call (ea_cons (ev_var rfl) (ea_cons (ev_var rfl) ea_nil)) (spP_v fun H1 e => ⟨wv, v, rows, _, rfl, hw.up e, hf.dp (Dp.up e hv), hf.pre.tk, rfl⟩)) ev_c fun H1 e1 Q2 q => ⟨rfl, q H1 (Ex.refl H1)⟩
theorem okP_ls {rows : List (List Wy)} {pre : List Wy} (hG : GW rows) (hn2 : 2 ≤ rows.length) (hf : FullT rows pre) : okP rows pre = lsB rows (pre.map some) (rows.length - 1) 1 := by
  have ht := hf.pre.tk
  rw [hf.ptk] at ht
  rw [lsB_fcs hG ht (fun x hx => by obtain ⟨y, _, rfl⟩ := List.mem_map.mp hx; simp) _ 1 (Nat.le_refl 1) (by omega)]
  unfold okP
  rw [hf.ptk]
end
end Wk

set_option Elab.async false
set_option linter.all false
set_option maxRecDepth 100000
set_option maxHeartbeats 400000
namespace Wk
open PySem PySem.Spec PyProof.Rows L2 Evl
/-! what was made after H1: H2 without the lists of H1 -/
def Fr (H1 H2 : Hp) : Hp := fun a => match H1 a with
  | some (.lst _) => none
  | _ => H2 a
theorem fr_at {H1 H2 : Hp} {a : Addr} (h : ∀ l, H1 a ≠ some (.lst l)) : Fr H1 H2 a = H2 a := by
  unfold Fr
  split
  · rename_i l e
    exact absurd e (h l)
  · rfl
theorem fr_inv {H1 H2 : Hp} {a : Addr} {o : HO} (h : Fr H1 H2 a = some o) : H2 a = some o ∧ ∀ l, H1 a ≠ some (.lst l) := by
  unfold Fr at h
  split at h
  · cases h
  · rename_i n
    exact ⟨h, fun l e => n l e⟩
theorem fr_sub {H1 H2 : Hp} : Ex (Fr H1 H2) H2 := fun a o h => (fr_inv h).1
theorem fr_up {H1 H2 H3 : Hp} (e : Ex H2 H3) : Ex (Fr H1 H2) (Fr H1 H3) := fun a o h => by
  obtain ⟨h1, h2⟩ := fr_inv h
  rw [fr_at h2]
  exact e a o h1
theorem fr_dn {H0 H1 H2 : Hp} (e : Ex H0 H1) : Ex (Fr H1 H2) (Fr H0 H2) := fun a o h => by
  obtain ⟨h1, h2⟩ := fr_inv h
  rw [fr_at fun l z => h2 l (e a _ z)]
  exact h1
theorem fr_new {H1 H2 : Hp} {a : Addr} {o : HO} (h : H1 a = none) (h2 : H2 a = some o) : Fr H1 H2 a = some o := by
  rw [fr_at fun l z => by rw [h] at z; cases z]
  exact h2
/-! data without lists -/
mutual
def noL : PyData → Bool
  | .none => true
  | .bool _ => true
  | .int _ => true
  | .str _ => true
  | .tuple ds => noLA ds
  | _ => false
def noLA : List PyData → Bool
  | [] => true
  | d :: ds => noL d && noLA ds
end
theorem noLA_all {ds : List PyData} (h : ∀ d ∈ ds, noL d = true) : noLA ds = true := by
  induction ds with
  | nil => rfl
  | cons d ds ih =>
    show (noL d && noLA ds) = true
    rw [h d List.mem_cons_self, ih fun x hx => h x (List.mem_cons_of_mem _ hx)]
    rfl
mutual
theorem dq_fr {H1 H2 : Hp} (e : Ex H1 H2) : ∀ {d : PyData} {v : V}, noL d = true → Dq H2 v d → Dq (Fr H1 H2) v d
  | .none, _, _, .non => .non
  | .bool _, _, _, .bl b => .bl b
  | .int _, _, _, .int i => .int i
  | .str _, _, _, .str x => .str x
  | .list _, _, h, .lst _ _ => by simp [noL] at h
  | .tuple _, _, h, .tup a b => .tup (by rw [fr_at fun l z => by have := e _ _ z; rw [a] at this; cases this]; exact a) (dqa_fr e (by simpa [noL] using h) b)
  | .dict _, _, h, .dic _ => by simp [noL] at h
theorem dqa_fr {H1 H2 : Hp} (e : Ex H1 H2) : ∀ {ds : List PyData} {vs : List V}, noLA ds = true → DqA H2 vs ds → DqA (Fr H1 H2) vs ds
  | [], _, _, .nil => .nil
  | d :: ds, _, h, .cons a t => by
    have h' : noL d = true ∧ noLA ds = true := by
      have z : (noL d && noLA ds) = true := h
      simpa using z
    exact .cons (dq_fr e h'.1 a) (dqa_fr e h'.2 t)
end
theorem noL_wd (w : Wy) : noL (wd w) = true := by
  unfold wd
  show noLA (w.map PyData.int) = true
  exact noLA_all fun d hd => by
    obtain ⟨i, _, rfl⟩ := List.mem_map.mp hd
    rfl
theorem noLA_wds (ws : List Wy) : noLA (ws.map wd) = true := noLA_all fun d hd => by
  obtain ⟨w, _, rfl⟩ := List.mem_map.mp hd
  exact noL_wd w
/-! new data -/
def EvD (te : TE) (σ : L2.St) (H : Hp) (d : PyData) : Prop := ∀ H1, Ex H H1 → ∀ Q : VK, (∀ u H2, Ex H1 H2 → Dq (Fr H1 H2) u d → Q u H2) → te σ H1 Q
def EvLD (te : TE) (σ : L2.St) (H : Hp) (ds : List PyData) : Prop := ∀ H1, Ex H H1 → ∀ Q : VK, (∀ p us H2, H1 p = none → Ex H1 H2 → H2 p = some (.lst us) → DqA (off p (Fr H1 H2)) us ds → Q (.ref p) H2) → te σ H1 Q
def EvAD (ta : TA) (σ : L2.St) (H : Hp) (ds : List PyData) : Prop := ∀ H1, Ex H H1 → ∀ Q : List V → Hp → Prop, (∀ us H2, Ex H1 H2 → DqA (Fr H1 H2) us ds → Q us H2) → ta σ H1 Q
section
variable {te tb : TE} {ta : TA} {σ : L2.St} {H : Hp} {d : PyData} {ds es : List PyData} {v : V}
theorem EvD.mono {H' : Hp} (h : EvD te σ H d) (e : Ex H H') : EvD te σ H' d := fun H1 e1 => h H1 (e.trans e1)
theorem d_L (h : EvLD te σ H ds) : EvD te σ H (.list ds) := fun H1 e Q q => h H1 e Q fun p us H2 np e2 hp hus => q _ H2 e2 (.lst (fr_new np hp) (hus.mono (off_in p _)))
theorem d_ev (h : Ev te σ H v) (hn : noL d = true) (hd : ∀ H1, Ex H H1 → Dq H1 v d) : EvD te σ H d := fun H1 e Q q => h H1 e Q fun H2 e2 => q v H2 e2 (dq_fr e2 hn (hd H2 (e.trans e2)))
theorem d_str (s : Str) : EvD (tC (.str s)) σ H (.str s) := fun H1 e Q q => q _ H1 (Ex.refl H1) (.str s)
theorem d_nil : EvAD tNil σ H [] := fun H1 e Q q => q [] H1 (Ex.refl H1) .nil
theorem d_cons (h : EvD te σ H d) (hr : EvAD ta σ H ds) : EvAD (tCons te ta) σ H (d :: ds) := fun H1 e Q q => h H1 e _ fun u H2 e2 hu => hr H2 (e.trans e2) _ fun us H3 e3 hus => q (u :: us) H3 (e2.trans e3) (.cons (hu.mono (fr_up e3)) (hus.mono (fr_dn e2)))
theorem d_tup (h : EvAD ta σ H ds) (hl : ds.length ≤ 1000) : EvD (tTup ta) σ H (.tuple ds) := fun H1 e Q q => h H1 e _ fun us H2 e2 hus => ⟨by have := hus.length; rw [sizeLine_eq]; omega, fun t ht => by
  have e3 := Ex.new (o := .tup us) ht
  exact q _ _ (e2.trans e3) (.tup (by rw [fr_at fun l z => by rw [e2 _ _ z] at ht; cases ht]; exact upd_same) (hus.mono (fr_up e3)))⟩
theorem d_lst (h : EvAD ta σ H ds) (hl : ds.length ≤ 1000) : EvLD (tLst ta) σ H ds := fun H1 e Q q => h H1 e _ fun us H2 e2 hus => ⟨by have := hus.length; rw [sizeLine_eq]; omega, fun t ht => by
  have e3 := Ex.new (o := .lst us) ht
  refine q t us _ (fresh_back e2 ht) (e2.trans e3) upd_same (hus.mono fun a o z => ?_)
  obtain ⟨z1, z2⟩ := fr_inv z
  rw [off_at (fun c => by rw [c, ht] at z1; cases z1), fr_at z2]
  exact e3 _ _ z1⟩
/-- lists put together -/
theorem d_cat (ha : EvLD te σ H ds) (hb : EvLD tb σ H es) (hl : ds.length + es.length ≤ 1000) : EvLD (tOp rCat te tb) σ H (ds ++ es) := fun H1 e Q q =>
  ha H1 e _ fun p us H2 np e2 hp hus => hb H2 (e.trans e2) _ fun r vs H3 nr e3 hr hvs => by
    have l1 := hus.length
    have l2 := hvs.length
    refine ⟨p, r, us, vs, rfl, rfl, e3 _ _ hp, hr, by rw [sizeLine_eq]; omega, fun t ht => ?_⟩
    have e4 := Ex.new (o := .lst (us ++ vs)) ht
    refine q t _ _ (fresh_back (e2.trans e3) ht) ((e2.trans e3).trans e4) upd_same ?_
    refine DqA.append (hus.mono fun a o z => ?_) (hvs.mono fun a o z => ?_)
    · obtain ⟨z1, z2⟩ := fr_inv (off_in p _ _ _ z)
      rw [off_at (fun c => by rw [c] at z1; rw [e3 _ _ z1] at ht; cases ht), fr_at z2]
      exact e4 _ _ (e3 _ _ z1)
    · obtain ⟨z1, z2⟩ := fr_inv (off_in r _ _ _ z)
      rw [off_at (fun c => by rw [c, ht] at z1; cases z1), fr_at fun l c => z2 l (e2 _ _ c)]
      exact e4 _ _ z1
end
/-! comprehensions whose items are new data -/
def Cn (H : Hp) (f : Nat → Bool) (d : Nat → PyData) (D : Addr) (i : Nat) (H' : Hp) : Prop := H D = none ∧ Ex H H' ∧ ∃ us, H' D = some (.lst us) ∧ DqA (off D (Fr H H')) us ((upTo f i).map d)
theorem cn_turn {H H' : Hp} {f : Nat → Bool} {d : Nat → PyData} {D : Addr} {i : Nat} {t : TT} {te : TE} {σ2 : L2.St} (p : Cn H f d D i H') (hi : i < 50000) (ht : EvT t σ2 H' (f i)) (he : f i = true → EvD te σ2 H' (d i)) :
    t σ2 H' fun b H3 => if b = true then te σ2 H3 fun y H4 => ∃ acc, H4 D = some (.lst acc) ∧ acc.length < sizeLine ∧ Cn H f d D (i + 1) (upd H4 D (.lst (acc ++ [y]))) else Cn H f d D (i + 1) H3 := by
  obtain ⟨p1, p2, us, p3, p4⟩ := p
  refine ht H' (Ex.refl _) _ fun H3 e3 => ?_
  cases hf : f i with
  | false =>
    refine ⟨p1, p2.trans e3, us, e3 _ _ p3, ?_⟩
    rw [upTo_no hf]
    exact p4.mono (off_ex (fr_up e3))
  | true =>
    refine he hf H3 e3 _ fun u H4 e4 y => ?_
    have d4 := e4 _ _ (e3 _ _ p3)
    have l1 := p4.length
    rw [List.length_map] at l1
    have l2 := upTo_len f i
    refine ⟨us, d4, sz_lt (by omega), p1, Ex.mut ((p2.trans e3).trans e4) p1, us ++ [u], upd_same, ?_⟩
    rw [upTo_yes hf, List.map_append]
    have k1 : Ex (off D (Fr H H')) (off D (Fr H (upd H4 D (.lst (us ++ [u]))))) := fun a o z => by
      by_cases c : a = D
      · rw [c] at z; unfold off at z; rw [if_pos rfl] at z; cases z
      · rw [off_at c] at z ⊢
        obtain ⟨z1, z2⟩ := fr_inv z
        rw [fr_at z2, upd_ne c]
        exact e4 _ _ (e3 _ _ z1)
    have k2 : Ex (Fr H3 H4) (off D (Fr H (upd H4 D (.lst (us ++ [u]))))) := fun a o z => by
      obtain ⟨z1, z2⟩ := fr_inv z
      have c : a ≠ D := fun c => by rw [c] at z2; exact z2 us (e3 _ _ p3)
      rw [off_at c, fr_at fun l w => z2 l (e3 _ _ (p2 _ _ w)), upd_ne c]
      exact z1
    exact (p4.mono k1).append (.cons (y.mono k2) .nil)
theorem lc_new {J : It} {n : Nat} {Gd : Hp → Prop} {Yx : Nat → V → Prop} {f : Nat → Bool} {d : Nat → PyData} {g : TG} {vs : List Nat} {σ : L2.St} {H : Hp} {D : Addr} {Qd : Hp → Prop} {t : TT} {te : TE} (S : Nat → V → L2.St)
    (w : Walk J n Gd (fun i H x H' => H' = H ∧ Yx i x)) (hD : H D = none) (hn : n ≤ 40000) (hG : ∀ H', Ex H H' → Gd H') (hg : ∀ i x H' (R : L2.St → Hp → Prop), Ex H H' → i < n → Yx i x → R (S i x) H' → g x (wipe σ vs) H' R) (hw : ∀ i x, wipe (S i x) vs = wipe σ vs)
    (ht : ∀ i x H', Ex H H' → i < n → Yx i x → EvT t (S i x) H' (f i)) (he : ∀ i x H', Ex H H' → i < n → Yx i x → f i = true → EvD te (S i x) H' (d i))
    (hq : ∀ us H', Ex H H' → H' D = some (.lst us) → DqA (off D (Fr H H')) us ((upTo f n).map d) → Qd H') :
    ∃ W : Nat → Nat → Hp → Prop, (∃ m, W 0 m (upd H D (.lst []))) ∧ ∀ i m H, W i m H →
      (J.stop i H ∧ Qd H) ∨ (J.go i H ∧ ∃ Nx : Hp → Prop, (∀ H', Nx H' → ∃ m', m' < m ∧ W (i + 1) m' H') ∧ ∀ x H', J.yld i H x H' → g x (wipe σ vs) H' fun σ2 H2 => wipe σ2 vs = wipe σ vs ∧ t σ2 H2 fun b H3 =>
        if b = true then te σ2 H3 fun y H4 => ∃ acc, H4 D = some (.lst acc) ∧ acc.length < sizeLine ∧ Nx (upd H4 D (.lst (acc ++ [y]))) else Nx H3) := by
  refine lc_it w (Cn H f d D) ⟨hD, Ex.new hD, [], upd_same, .nil⟩ (fun i H' _ p => hG H' p.2.1) (fun i x H' H2 hi p y => ?_) (fun H' p => ?_)
  · obtain ⟨rfl, yx⟩ := y
    exact hg i x _ _ p.2.1 hi yx ⟨hw i x, cn_turn p (by omega) (ht i x _ p.2.1 hi yx) (fun hf => he i x _ p.2.1 hi yx hf)⟩
  · obtain ⟨_, e, us, d, g⟩ := p
    exact hq us H' e d g
section
variable {K : PySem.W.Frag} {t : TT} {te tl : TE} {σ : L2.St} {H : Hp} {a : Addr} {xs : List V} {j : Nat} {vs : List Nat}
/-- over a list, a tuple, range(n), range(lo, n) -/
theorem dl_L (f : Nat → Bool) (d : Nat → PyData) (h : Ev tl σ H (.ref a)) (hx : SqL K H a xs) (hz : xs.length ≤ 40000) (hw : ∀ x, wipe ((wipe σ vs).set j (some x)) vs = wipe σ vs)
    (ht : ∀ (i : Nat) (x : V) H1, Ex H H1 → xs[i]? = some x → EvT t ((wipe σ vs).set j (some x)) H1 (f i)) (he : ∀ (i : Nat) (x : V) H1, Ex H H1 → xs[i]? = some x → f i = true → EvD te ((wipe σ vs).set j (some x)) H1 (d i)) :
    EvLD (tLc (iList K tl) (gName j) t te vs) σ H ((upTo f xs.length).map d) := fun H1 e Q q => h H1 e _ fun H2 e2 => ⟨a, rfl, ⟨xs, ex_l (e.trans e2) hx⟩, fun D hD =>
  lc_new (Yx := fun i x => xs[i]? = some x) (fun i x => (wipe σ vs).set j (some x)) (walk_list (K := K) (a := a) (xs := xs)) hD hz (fun H' e' => ex_l ((e.trans e2).trans e') hx) (fun i x H' R _ _ _ r => r) (fun i x => hw x) (fun i x H' e' _ hi => ht i x H' ((e.trans e2).trans e') hi) (fun i x H' e' _ hi => he i x H' ((e.trans e2).trans e') hi)
    (fun us H' e' hD' g => q D us H' (fresh_back e2 hD) (e2.trans e') hD' (g.mono (off_ex (fr_dn e2))))⟩
theorem dl_T (f : Nat → Bool) (d : Nat → PyData) (h : Ev tl σ H (.ref a)) (hx : SqT K H a xs) (hz : xs.length ≤ 40000) (hw : ∀ x, wipe ((wipe σ vs).set j (some x)) vs = wipe σ vs)
    (ht : ∀ (i : Nat) (x : V) H1, Ex H H1 → xs[i]? = some x → EvT t ((wipe σ vs).set j (some x)) H1 (f i)) (he : ∀ (i : Nat) (x : V) H1, Ex H H1 → xs[i]? = some x → f i = true → EvD te ((wipe σ vs).set j (some x)) H1 (d i)) :
    EvLD (tLc (iTup K tl) (gName j) t te vs) σ H ((upTo f xs.length).map d) := fun H1 e Q q => h H1 e _ fun H2 e2 => ⟨a, rfl, ⟨xs, ex_t (e.trans e2) hx⟩, fun D hD =>
  lc_new (Yx := fun i x => xs[i]? = some x) (fun i x => (wipe σ vs).set j (some x)) (walk_tup (K := K) (a := a) (xs := xs)) hD hz (fun H' e' => ex_t ((e.trans e2).trans e') hx) (fun i x H' R _ _ _ r => r) (fun i x => hw x) (fun i x H' e' _ hi => ht i x H' ((e.trans e2).trans e') hi) (fun i x H' e' _ hi => he i x H' ((e.trans e2).trans e') hi)
    (fun us H' e' hD' g => q D us H' (fresh_back e2 hD) (e2.trans e') hD' (g.mono (off_ex (fr_dn e2))))⟩
theorem dl_R1 {ta : TA} {n : Int} (f : Nat → Bool) (d : Nat → PyData) (h : EvA ta σ H [.int n]) (hn : 0 ≤ n ∧ n ≤ 40000) (hw : ∀ x, wipe ((wipe σ vs).set j (some x)) vs = wipe σ vs)
    (ht : ∀ (i : Nat) H1, Ex H H1 → (i : Int) < n → EvT t ((wipe σ vs).set j (some (.int (i : Int)))) H1 (f i)) (he : ∀ (i : Nat) H1, Ex H H1 → (i : Int) < n → f i = true → EvD te ((wipe σ vs).set j (some (.int (i : Int)))) H1 (d i)) :
    EvLD (tLc (iRng1 ta) (gName j) t te vs) σ H ((upTo f n.toNat).map d) := fun H1 e Q q => h H1 e _ fun H2 e2 => ⟨n, rfl, by omega, by omega, fun D hD =>
  lc_new (Yx := fun i x => x = .int ((0 : Int) + (i : Int))) (fun i x => (wipe σ vs).set j (some x)) walk_range hD (by omega) (fun H' e' => trivial) (fun i x H' R _ _ _ r => r) (fun i x => hw x)
    (fun i x H' e' hi hx => by rw [hx, Int.zero_add]; exact ht i H' ((e.trans e2).trans e') (by omega)) (fun i x H' e' hi hx hf => by rw [hx, Int.zero_add]; exact he i H' ((e.trans e2).trans e') (by omega) hf)
    (fun us H' e' hD' g => q D us H' (fresh_back e2 hD) (e2.trans e') hD' (g.mono (off_ex (fr_dn e2))))⟩
theorem dl_R2 {ta : TA} {lo n : Int} (f : Nat → Bool) (d : Nat → PyData) (h : EvA ta σ H [.int lo, .int n]) (hn : 0 ≤ lo ∧ lo ≤ 40000 ∧ 0 ≤ n ∧ n ≤ 40000) (hw : ∀ x, wipe ((wipe σ vs).set j (some x)) vs = wipe σ vs)
    (ht : ∀ (i : Nat) H1, Ex H H1 → lo + (i : Int) < n → EvT t ((wipe σ vs).set j (some (.int (lo + (i : Int))))) H1 (f i)) (he : ∀ (i : Nat) H1, Ex H H1 → lo + (i : Int) < n → f i = true → EvD te ((wipe σ vs).set j (some (.int (lo + (i : Int))))) H1 (d i)) :
    EvLD (tLc (iRng2 ta) (gName j) t te vs) σ H ((upTo f (n - lo).toNat).map d) := fun H1 e Q q => h H1 e _ fun H2 e2 => ⟨lo, n, rfl, ⟨by omega, by omega, by omega, by omega⟩, fun D hD =>
  lc_new (Yx := fun i x => x = .int (lo + (i : Int))) (fun i x => (wipe σ vs).set j (some x)) (walk_range (lo := lo) (n := (n - lo).toNat)) hD (by omega) (fun H' e' => trivial) (fun i x H' R _ _ _ r => r) (fun i x => hw x)
    (fun i x H' e' hi hx => by rw [hx]; exact ht i H' ((e.trans e2).trans e') (by omega)) (fun i x H' e' hi hx hf => by rw [hx]; exact he i H' ((e.trans e2).trans e') (by omega) hf)
    (fun us H' e' hD' g => q D us H' (fresh_back e2 hD) (e2.trans e') hD' (g.mono (off_ex (fr_dn e2))))⟩
end
theorem upTo_map {α : Type} (d : PyData) (l : List α) (c : α) (f : α → PyData) : (upTo (fun _ => true) l.length).map (fun i => f (l.getD i c)) = l.map f := by
  unfold upTo
  rw [List.filter_eq_self.mpr fun _ _ => rfl]
  apply List.ext_getElem (by simp)
  intro i h1 h2
  have h3 : i < l.length := by simpa using h2
  simp [List.getD_eq_getElem?_getD, List.getElem?_eq_getElem h3]
theorem upTo_filt {α : Type} (l : List α) (c : α) (p : α → Bool) (f : α → PyData) : (upTo (fun i => p (l.getD i c)) l.length).map (fun i => f (l.getD i c)) = (l.filter p).map f := by
  have h : ∀ (l r : List α), ((List.range' r.length l.length).filter fun i => p ((r ++ l).getD i c)).map (fun i => f ((r ++ l).getD i c)) = (l.filter p).map f := by
    intro l
    induction l with
    | nil => intro r; rfl
    | cons x l ih =>
      intro r
      have e : (r ++ x :: l).getD r.length c = x := by simp [List.getD_eq_getElem?_getD]
      have ih2 := ih (r ++ [x])
      rw [List.append_assoc, List.length_append] at ih2
      change ((List.range' (r.length + 1) l.length).filter fun i => p ((r ++ x :: l).getD i c)).map (fun i => f ((r ++ x :: l).getD i c)) = (l.filter p).map f at ih2
      rw [List.length_cons, List.range'_succ, List.filter_cons, List.filter_cons, e]
      cases hp : p x with
      | true =>
        simp only [if_true, List.map_cons, e]
        rw [ih2]
      | false =>
        simp only [Bool.false_eq_true, if_false]
        exact ih2
  have := h l []
  simp only [List.length_nil, List.nil_append] at this
  unfold upTo
  rw [List.range_eq_range']
  exact this
end Wk

set_option Elab.async false
set_option linter.all false
set_option maxRecDepth 100000
set_option maxHeartbeats 400000
namespace Wk
open PySem PySem.Spec PyProof.Rows L2 Evl
theorem ix_tupK {X : Cx} {K : PySem.W.Frag} (hK : X.K = K) : IxR X (rIxT K) := by
  subst hK
  exact ix_tup
/-! a row that is read -/
def EvRow (tl : TE) (σ : L2.St) (H : Hp) (row : List Wy) : Prop := ∀ H1, Ex H H1 → ∀ Q : VK, (∀ u H2, Ex H1 H2 → Dq H2 u (rd row) → Q u H2) → tl σ H1 Q
section
variable {K : PySem.W.Frag} {t : TT} {te tl : TE} {σ : L2.St} {H : Hp} {j : Nat} {vs : List Nat} {row : List Wy}
theorem dl_W (f : Nat → Bool) (d : Nat → PyData) (h : EvRow tl σ H row) (hz : row.length ≤ 40000) (hw : ∀ x, wipe ((wipe σ vs).set j (some x)) vs = wipe σ vs)
    (ht : ∀ (i : Nat) (a : Addr) (w : Wy) H1, Ex H H1 → row[i]? = some w → H1 a = some (.tup (w.map V.int)) → EvT t ((wipe σ vs).set j (some (.ref a))) H1 (f i)) (he : ∀ (i : Nat) (a : Addr) (w : Wy) H1, Ex H H1 → row[i]? = some w → H1 a = some (.tup (w.map V.int)) → f i = true → EvD te ((wipe σ vs).set j (some (.ref a))) H1 (d i)) :
    EvLD (tLc (iTup K tl) (gName j) t te vs) σ H ((upTo f row.length).map d) := fun H1 e Q q => h H1 e _ fun u H2 e2 hu => by
  unfold rd at hu
  cases hu with
  | @tup a xs _ a1 a2 =>
    have l1 := a2.length
    rw [List.length_map] at l1
    refine ⟨a, rfl, ⟨xs, st_of a1⟩, fun D hD => ?_⟩
    have at_ : ∀ {i : Nat} {x : V} {H' : Hp}, Ex H2 H' → xs[i]? = some x → ∃ b w, row[i]? = some w ∧ x = .ref b ∧ H' b = some (.tup (w.map V.int)) := fun {i x H'} e' hx => by
      obtain ⟨w, w1, w2⟩ := a2.wds_inv hx
      obtain ⟨b, rfl, hb⟩ := wd_ref w2
      exact ⟨b, w, w1, rfl, e' _ _ hb⟩
    exact lc_new (Yx := fun i x => xs[i]? = some x) (fun i x => (wipe σ vs).set j (some x)) (walk_tup (K := K) (a := a) (xs := xs)) hD (by omega) (fun H' e' => st_of (e' _ _ a1)) (fun i x H' R _ _ _ r => r) (fun i x => hw x)
      (fun i x H' e' _ hi => by
        obtain ⟨b, w, w1, rfl, w2⟩ := at_ e' hi
        exact ht i b w H' ((e.trans e2).trans e') w1 w2) (fun i x H' e' _ hi hf => by
        obtain ⟨b, w, w1, rfl, w2⟩ := at_ e' hi
        exact he i b w H' ((e.trans e2).trans e') w1 w2 hf)
      (fun us H' e' hD' g => q D us H' (fresh_back e2 hD) (e2.trans e') hD' (by rw [l1] at g; exact g.mono (off_ex (fr_dn e2))))
theorem row_ways {CW CN : Addr} {W : L2.St → XK} {ta ti : TE} {v : V} {rows : List (List Wy)} {i : Nat} (ha : Ev ta σ H v) (hw : WO CW H v rows) (hi : Ev ti σ H (.int (i : Int))) (hr : rows[i]? = some row) : EvRow (tMeAt CW "ways" (spWays CW CN) W ta (tCons ti tNil)) σ H row := fun H1 e Q q =>
  t_ways (ha.mono e) (hw.up e) (hi.mono e) hr fun u H' e' hu => q u H' e' hu
/-- way[1:] -/
theorem d_tail {tw : TE} {a : Addr} {w : Wy} (hw : Ev tw σ H (.ref a)) (ha : H a = some (.tup (w.map V.int))) : EvD (tSl (rSlA K) tw (tPart (tC (.int 1))) tNoPart) σ H (wd (w.drop 1)) := fun H1 e Q q =>
  hw H1 e _ fun H2 e2 => by
    have h2 := (e.trans e2) _ _ ha
    have hc : cutV (w.map V.int) (some 1) none = (w.drop 1).map V.int := drop1 w
    refine ⟨1, rfl, a, _, rfl, st_of h2, fun hz => ?_, fun hz p hp => ?_⟩
    · have ec : cutV (w.map V.int) (some 1) none = w.map V.int := by
        unfold cutV
        rw [hz.1, hz.2]
        simp
        exact List.take_of_length_le (by simp)
      rw [hc] at ec
      refine q _ H2 e2 (dq_fr e2 (noL_wd _) (wd_of ?_))
      rw [ec]
      exact h2
    · rw [hc]
      have e3 := Ex.new (o := .tup ((w.drop 1).map V.int)) hp
      exact q _ _ (e2.trans e3) (dq_fr (e2.trans e3) (noL_wd _) (wd_of upd_same))
end
/-! heard_ways, offered -/
def restsW (rows : List (List Wy)) (p : Wy) : List Wy := ((rows.getD (p.getD 1 0).toNat []).filter fun w => decide (w.getD 1 0 = p.getD 0 0)).map (List.drop 1)
section
variable {P : Program} {w : World} {K : PySem.W.Frag} {mg : Str → Option Value} {base : Heap} {f : Addr} {fd : FuncData} {CW CN : Addr}
def spHeard (CW : Addr) : Sp := fun vs H Q _ => ∃ (wv pv : V) (rows : List (List Wy)) (u v : Nat), vs = [wv, pv] ∧ WO CW H wv rows ∧ Dq H pv (wd [(u : Int), (v : Int)]) ∧ v < rows.length ∧ ∀ H' l us, H l = none → Ex H H' → H' l = some (.lst us) → DqA (off l (Fr H H')) us ((restsW rows [(u : Int), (v : Int)]).map wd) → Q (.ref l) H'
abbrev nHeard : List Str := ["wishes", "pair", "way"]
/-! offered: each way with the place of the line that it hears -/
def plV (o : Option Nat) : V := match o with
  | some i => .int (i : Int)
  | none => .non
def plD (o : Option Nat) : PyData := match o with
  | some i => .int (i : Int)
  | none => .none
theorem dq_pl {H : Hp} (o : Option Nat) : Dq H (plV o) (plD o) := by
  cases o with
  | none => exact .non
  | some i => exact .int _
theorem noL_pl (o : Option Nat) : noL (plD o) = true := by cases o <;> rfl
/-- the place of a line -/
def plW (ls : List Wy) (p : Wy) : Option Nat := if p ∈ ls then some (ls.idxOf p) else none
/-- a dict that tells the places -/
def PlK (ls : List Wy) (kvs : List (List L2.Key × V)) : Prop := ∀ p : Wy, (valV kvs (keyW p)).getD .non = plV (plW ls p)
def offD (ls : List Wy) (r : Nat) (w : Wy) : PyData := .tuple [wd w, plD (plW ls [w.getD 1 0, (r : Int)])]
def spOffered (CW : Addr) : Sp := fun vs H Q _ => ∃ (wv : V) (D : Addr) (rows : List (List Wy)) (ls : List Wy) (kvs : List (List L2.Key × V)) (r : Nat), vs = [wv, .int (r : Int), .ref D] ∧ WO CW H wv rows ∧ r < rows.length ∧ H D = some (.dT kvs) ∧ PlK ls kvs ∧
  ∀ H' l us, H l = none → Ex H H' → H' l = some (.lst us) → DqA (off l (Fr H H')) us ((rows.getD r []).map (offD ls r)) → Q (.ref l) H'
abbrev nOffered : List Str := ["wishes", "router", "places", "way"]
theorem d_get {σ : L2.St} {H : Hp} {D : Addr} {kvs : List (List L2.Key × V)} {ls : List Wy} {td tk : TE} {p : Wy} (hd : Ev td σ H (.ref D)) (hD : H D = some (.dT kvs)) (hp : PlK ls kvs) (hk : EvU tk σ H (p.map V.int)) : EvD (tDGet1 td tk) σ H (plD (plW ls p)) := fun H1 e Q q =>
  hd H1 e _ fun H2 e2 => ⟨D, rfl, .inr ⟨kvs, .inl ((e.trans e2) _ _ hD)⟩, hk H2 (e.trans e2) _ fun b H3 nb e3 hb => ⟨_, DGet.t (k := keyW p) (((e.trans e2).trans e3) _ _ hD) (by rw [keyW_kV]; exact hb), by
    rw [hp p]
    exact q _ H3 (e2.trans e3) (dq_fr (e2.trans e3) (noL_pl _) (dq_pl _))⟩⟩
end
end Wk

set_option Elab.async false
set_option linter.all false
set_option maxRecDepth 100000
set_option maxHeartbeats 400000
namespace Wk
open PySem PySem.Spec PyProof.Rows L2 Evl
/-! lines -/
theorem ln_in {rows : List (List Wy)} (hG : GW rows) (h8 : rows.length ≤ 8) (p : Wy) : p ∈ linesW rows ↔ p ∈ pairsW rows := by
  unfold linesW
  rw [List.mem_map]
  constructor
  · rintro ⟨c, hc, rfl⟩
    exact of_decide_eq_true (List.mem_filter.mp hc).2
  · intro h
    obtain ⟨u, v, hu, hv, rfl⟩ := pairs_bd hG h8 p h
    exact ⟨u * 8 + v, List.mem_filter.mpr ⟨List.mem_range.mpr (by omega), decide_eq_true (by rw [cd_pair hv]; exact h)⟩, cd_pair hv⟩
theorem ln_shape {rows : List (List Wy)} (hG : GW rows) (h8 : rows.length ≤ 8) {p : Wy} (h : p ∈ linesW rows) : ∃ u v : Nat, p = [(u : Int), (v : Int)] ∧ 1 ≤ u ∧ u < rows.length ∧ 1 ≤ v ∧ v < rows.length := by
  obtain ⟨w, hw, rfl⟩ := List.mem_map.mp ((ln_in hG h8 p).mp h)
  obtain ⟨hw, hb⟩ := List.mem_filter.mp hw
  obtain ⟨row, hr, hwr⟩ := List.mem_flatten.mp hw
  obtain ⟨i, hi, rfl⟩ := List.getElem_of_mem hr
  have hri : rows[i]? = some rows[i] := List.getElem?_eq_getElem hi
  have ok := hG.ok i _ hri w hwr
  have l2 := ok.l2
  have h1 : w.getD 1 0 = w[1] := by rw [List.getD_eq_getElem?_getD, List.getElem?_eq_getElem (show 1 < w.length by omega)]; rfl
  have h0 : w.getD 0 0 = (i : Int) := by rw [List.getD_eq_getElem?_getD, ok.hd]; rfl
  have b := ok.rg _ (List.getElem_mem (show 1 < w.length by omega))
  have hi1 : 1 ≤ i := by
    rcases Nat.eq_zero_or_pos i with z | z
    · subst z
      have := hG.goal _ hri
      rw [this] at hwr
      cases hwr
    · exact z
  have hne : ¬ w[1] = 0 := by
    unfold lnB at hb
    rw [h1] at hb
    simpa using hb
  refine ⟨w[1].toNat, i, ?_, by omega, by omega, hi1, hi⟩
  unfold prW
  rw [h1, h0, Int.toNat_of_nonneg b.1]
theorem ln_nd (rows : List (List Wy)) : (linesW rows).Nodup := by
  unfold linesW List.Nodup
  rw [List.pairwise_map]
  refine List.Pairwise.imp (R := fun a b => a < b) ?_ (List.Pairwise.filter _ List.pairwise_lt_range)
  intro a b hab e
  unfold cdW at e
  injection e with e1 e2
  injection e2 with e2 _
  omega
theorem lnw_len (rows : List (List Wy)) : (linesW rows).length ≤ 64 := by
  unfold linesW
  rw [List.length_map]
  refine Nat.le_trans (List.length_filter_le _ _) ?_
  rw [List.length_range]
  exact Nat.le_refl _
theorem ln_way {rows : List (List Wy)} (hG : GW rows) (h8 : rows.length ≤ 8) {r : Nat} {row : List Wy} {w : Wy} (hr : rows[r]? = some row) (hw : w ∈ row) (hn : w.getD 1 0 ≠ 0) : [w.getD 1 0, (r : Int)] ∈ linesW rows := by
  rw [ln_in hG h8]
  have ok := hG.ok r _ hr w hw
  have h0 : w.getD 0 0 = (r : Int) := by rw [List.getD_eq_getElem?_getD, ok.hd]; rfl
  refine List.mem_map.mpr ⟨w, List.mem_filter.mpr ⟨List.mem_flatten.mpr ⟨row, List.mem_of_getElem? hr, hw⟩, by unfold lnB; simp only [Bool.not_eq_true', decide_eq_false_iff_not]; exact hn⟩, ?_⟩
  unfold prW
  rw [h0]
/-! data beside an object that changes -/
def Of1 (x : Addr) (H H' : Hp) : Prop := ∀ b o, b ≠ x → H b = some o → H' b = some o
theorem Of1.ex {x : Addr} {H H' : Hp} (e : Ex H H') : Of1 x H H' := fun b o _ h => e b o h
theorem Of1.trans {x : Addr} {H H1 H2 : Hp} (a : Of1 x H H1) (b : Of1 x H1 H2) : Of1 x H H2 := fun c o n h => b c o n (a c o n h)
theorem Of1.upd (x : Addr) (H : Hp) (o : HO) : Of1 x H (L2.upd H x o) := fun b u hb h => by rw [upd_ne hb]; exact h
mutual
theorem dq_of1 {x C dx : Addr} {fs : List (Str × V)} {H H' : Hp} (o : Of1 x H H') (hx : H x = some (.ins C dx fs)) : ∀ {d : PyData} {v : V}, Dq H v d → Dq H' v d
  | .none, _, .non => .non
  | .bool _, _, .bl b => .bl b
  | .int _, _, .int i => .int i
  | .str _, _, .str x => .str x
  | .list _, _, .lst h a => .lst (o _ _ (fun z => by rw [z, hx] at h; cases h) h) (dqa_of1 o hx a)
  | .tuple _, _, .tup h a => .tup (o _ _ (fun z => by rw [z, hx] at h; cases h) h) (dqa_of1 o hx a)
  | .dict _, _, .dic h => .dic (o _ _ (fun z => by rw [z, hx] at h; cases h) h)
theorem dqa_of1 {x C dx : Addr} {fs : List (Str × V)} {H H' : Hp} (o : Of1 x H H') (hx : H x = some (.ins C dx fs)) : ∀ {ds : List PyData} {vs : List V}, DqA H vs ds → DqA H' vs ds
  | [], _, .nil => .nil
  | _ :: _, _, .cons h t => .cons (dq_of1 o hx h) (dqa_of1 o hx t)
end
theorem WO.of1 {CW : Addr} {x C dx w : Addr} {fs : List (Str × V)} {H H' : Hp} {rows : List (List Wy)} (h : WO CW H (.ref w) rows) (nw : w ≠ x) (o : Of1 x H H') (hx : H x = some (.ins C dx fs)) : WO CW H' (.ref w) rows := by
  obtain ⟨w', dw, lv, h1, h2, h3⟩ := h.ex
  injection h1 with h1
  subst h1
  exact ⟨⟨w, dw, lv, rfl, o _ _ nw h2, dq_of1 o hx h3⟩, h.g, h.n2, h.n8, h.r6⟩
/-! {pair: place for place, pair in enumerate(pairs)} -/
def KPl (ls : List Wy) (i : Nat) (kvs : List (List L2.Key × V)) : Prop := ∀ q, (∃ j p, j < i ∧ ls[j]? = some p ∧ keyW p = q ∧ valV kvs q = some (.int (j : Int))) ∨ (valV kvs q = none ∧ ∀ j p, j < i → ls[j]? = some p → keyW p ≠ q)
theorem KPl.plk {ls : List Wy} {kvs : List (List L2.Key × V)} (h : KPl ls ls.length kvs) (nd : ls.Nodup) : PlK ls kvs := fun p => by
  unfold plW
  rcases h (keyW p) with ⟨j, p', hj, h1, h2, h3⟩ | ⟨h1, h2⟩
  · have e := keyW_inj h2
    subst e
    have hm := List.mem_of_getElem? h1
    rw [if_pos hm, h3]
    have : ls.idxOf p' = j := by
      have h4 := List.idxOf_lt_length_iff.mpr hm
      have h5 : ls[ls.idxOf p'] = p' := List.getElem_idxOf h4
      have h6 : ls[j] = p' := (List.getElem?_eq_some_iff.mp h1).2
      exact (List.getElem_inj nd).mp (h5.trans h6.symm)
    rw [this]
    rfl
  · rw [if_neg, h1]
    · rfl
    · intro hm
      obtain ⟨j, hj, e⟩ := List.getElem_of_mem hm
      exact h2 j p hj (by rw [List.getElem?_eq_getElem hj, e]) rfl
theorem t_places {K : PySem.W.Frag} {tl : TE} {σ : L2.St} {H : Hp} {a : Addr} {us : List V} {ls : List Wy} {i j : Nat} {vs : List Nat} {Q : VK} (h : Ev tl σ H (.ref a)) (ha : H a = some (.lst us)) (hus : DqA H us (ls.map wd)) (hz : ls.length ≤ 1000) (hw : ∀ x y, wipe (((wipe σ vs).set i (some x)).set j (some y)) vs = wipe σ vs)
    (hi : ∀ x y, (((wipe σ vs).set i (some x)).set j (some y))[i]? = some (some x)) (hj : ∀ x y, (((wipe σ vs).set i (some x)).set j (some y))[j]? = some (some y))
    (k : ∀ D kvs H', H D = none → Ex H H' → H' D = some (.dT kvs) → KPl ls ls.length kvs → Q (.ref D) H') : tDq (iEnum K (tCons tl tNil)) (gTup K 2 (gCons (gName i) (gCons (gName j) gNil))) tYes (tVar j) (tVar i) vs σ H Q := by
  refine h H (Ex.refl _) _ fun H1 e1 => ⟨a, us, rfl, sq_of (e1 _ _ ha), fun D hD => ?_⟩
  have hul := hus.length
  rw [List.length_map] at hul
  have w := walk_enum (K := K) (a := a) (xs := us)
  have hGd : ∀ {H' : Hp}, Ex H1 H' → SqL K H' a us := fun e => sq_of (e _ _ (e1 _ _ ha))
  refine ⟨fun n m H' => m = us.length - n ∧ n ≤ us.length ∧ Ex H1 H' ∧ ∃ kvs, H' D = some (.dT kvs) ∧ kvs.length ≤ n ∧ KPl ls n kvs, ⟨us.length, by simp, Nat.zero_le _, Ex.new hD, [], upd_same, Nat.le_refl _, fun q => .inr ⟨rfl, fun j p hj => absurd hj (Nat.not_lt_zero _)⟩⟩, ?_⟩
  rintro n m H2 ⟨rfl, hn, p2, kvs, p3, p4, p5⟩
  by_cases lt : n < us.length
  · refine .inr ⟨w.goes n H2 lt (hGd p2), fun H' => Ex H1 H' ∧ ∃ kvs, H' D = some (.dT kvs) ∧ kvs.length ≤ n + 1 ∧ KPl ls (n + 1) kvs, fun Ha q => ⟨us.length - (n + 1), by omega, rfl, lt, q⟩, fun x Ha y => ?_⟩
    obtain ⟨T, x1, y1, rfl, hT, rfl, hx1, hy1⟩ := w.yields n H2 x Ha lt (hGd p2) y
    cases hx1
    obtain ⟨p, hp1, hp2⟩ := hus.wds_inv hy1
    obtain ⟨b, rfl, hb⟩ := wd_ref hp2
    have eT := Ex.new (o := .tup [V.int (n : Int), .ref b]) hT
    refine ⟨T, _, rfl, st_of upd_same, rfl, g_two ⟨hw _ _, ?_⟩⟩
    refine ⟨.ref b, hj _ _, .int (n : Int), hi _ _, ?_⟩
    have d3 := eT _ _ p3
    refine ⟨_, DPut.t (k := keyW p) d3 (by rw [keyW_kV]; exact eT _ _ (p2 _ _ (e1 _ _ hb))) (sz_lt (by omega)), Ex.mut (p2.trans eT) hD, _, upd_same, ?_, fun q => ?_⟩
    · have := length_putK kvs (keyW p) (V.int (n : Int))
      omega
    · rw [valV_put]
      by_cases e : q = keyW p
      · rw [if_pos e]
        exact .inl ⟨n, p, Nat.lt_succ_self n, hp1, e.symm, rfl⟩
      · rw [if_neg e]
        rcases p5 q with ⟨j', p', z1, z2, z3, z4⟩ | ⟨z, z2⟩
        · exact .inl ⟨j', p', by omega, z2, z3, z4⟩
        · refine .inr ⟨z, fun j' p' hj' hp' => ?_⟩
          rcases Nat.lt_succ_iff_lt_or_eq.mp hj' with z3 | z3
          · exact z2 j' p' z3 hp'
          · subst z3
            rw [hp1] at hp'
            cases hp'
            exact fun z4 => e z4.symm
  · have e : n = us.length := by omega
    subst e
    refine .inl ⟨w.stops H2 (hGd p2), k D kvs H2 (fresh_back e1 hD) (e1.trans p2) p3 (by rw [← hul]; exact p5)⟩
end Wk

set_option Elab.async false
set_option linter.all false
set_option maxRecDepth 100000
set_option maxHeartbeats 400000
namespace Wk
open PySem PySem.Spec PyProof.Rows L2 Evl
theorem lk_putF {f g : Str} {v : V} {fs : List (Str × V)} (h : ¬ g = f) : (putF f v fs).lookup g = fs.lookup g := by rw [lookup_putF, if_neg h]
theorem lk_putS {f : Str} {v : V} {fs : List (Str × V)} : (putF f v fs).lookup f = some v := by rw [lookup_putF, if_pos rfl]
theorem len_putF (f : Str) (v : V) : ∀ fs : List (Str × V), (putF f v fs).length ≤ fs.length + 1
  | [] => Nat.le_refl _
  | (g, x) :: r => by
    have ih := len_putF f v r
    unfold putF
    split
    · simp
    · simp only [List.length_cons]; omega
theorem pe_fldK {X : Cx} {K : PySem.W.Frag} {e : Expr} {ta : TE} {f : Str} {pos : Pos} (hK : X.K = K) (he : PE X e ta) (hb : attributeBase e f X.env (eval e X.env) = eval e X.env) : PE X (.Attribute e f pos) (tFld K ta f) := by
  subst hK
  exact pe_fld he hb
theorem q_fldU {K : PySem.W.Frag} {ta tv : TE} {f : Str} {tz : TS} {D : Ends} {σ : L2.St} {H : Hp} (h : tv σ H fun y H1 => ta σ H1 fun x H2 => ∃ a C dx fs, x = .ref a ∧ H2 a = some (.ins C dx fs) ∧ Cls K C ∧ NoAttr K C f ∧ fs.length < 1000 ∧ tz D σ (upd H2 a (.ins C dx (putF f y fs)))) : tSeq (sFld K ta tv f) tz D σ H := h
theorem s_fldU {K : PySem.W.Frag} {ta tv : TE} {f : Str} {D : Ends} {σ : L2.St} {H : Hp} (h : tv σ H fun y H1 => ta σ H1 fun x H2 => ∃ a C dx fs, x = .ref a ∧ H2 a = some (.ins C dx fs) ∧ Cls K C ∧ NoAttr K C f ∧ fs.length < 1000 ∧ D.nx σ (upd H2 a (.ins C dx (putF f y fs)))) : sFld K ta tv f D σ H := h
/-- over a list of pairs -/
theorem dl_P {K : PySem.W.Frag} {te tl : TE} {σ : L2.St} {H : Hp} {a : Addr} {us : List V} {ls : List Wy} {i j : Nat} {vs : List Nat} (d : Nat → PyData) (h : Ev tl σ H (.ref a)) (ha : H a = some (.lst us)) (hus : DqA H us (ls.map wd)) (h2 : ∀ p ∈ ls, ∃ u v : Int, p = [u, v]) (hz : ls.length ≤ 40000)
    (hw : ∀ x y, wipe (((wipe σ vs).set i (some x)).set j (some y)) vs = wipe σ vs) (he : ∀ n u v H1, Ex H H1 → ls[n]? = some [u, v] → EvD te (((wipe σ vs).set i (some (.int u))).set j (some (.int v))) H1 (d n)) :
    EvLD (tLc (iList K tl) (gTup K 2 (gCons (gName i) (gCons (gName j) gNil))) tYes te vs) σ H ((upTo (fun _ => true) ls.length).map d) := fun H1 e Q q => h H1 e _ fun H2 e2 => by
  have hul := hus.length
  rw [List.length_map] at hul
  refine ⟨a, rfl, ⟨us, sq_of ((e.trans e2) _ _ ha)⟩, fun D hD => ?_⟩
  have at_ : ∀ {n : Nat} {x : V} {H' : Hp}, Ex H2 H' → us[n]? = some x → ∃ b u v, ls[n]? = some [u, v] ∧ x = .ref b ∧ H' b = some (.tup [.int u, .int v]) := fun {n x H'} e' hx => by
    obtain ⟨p, p1, p2⟩ := hus.wds_inv hx
    obtain ⟨b, rfl, hb⟩ := wd_ref p2
    obtain ⟨u, v, rfl⟩ := h2 p (List.mem_of_getElem? p1)
    exact ⟨b, u, v, p1, rfl, ((e.trans e2).trans e') _ _ hb⟩
  refine lc_new (Yx := fun n x => us[n]? = some x) (f := fun _ => true) (d := d) (fun n x => ((wipe σ vs).set i (some (.int ((ls.getD n []).getD 0 0)))).set j (some (.int ((ls.getD n []).getD 1 0)))) (walk_list (K := K) (a := a) (xs := us)) hD (by omega) (fun H' e' => sq_of (((e.trans e2).trans e') _ _ ha))
    (fun n x H' R e' _ hx r => ?_) (fun n x => hw _ _) (fun n x H' e' _ hx => et_yes) (fun n x H' e' _ hx _ => ?_) (fun us' H' e' hD' g => q D us' H' (fresh_back e2 hD) (e2.trans e') hD' (by rw [hul] at g; exact g.mono (off_ex (fr_dn e2))))
  · obtain ⟨b, u, v, p1, rfl, hb⟩ := at_ e' hx
    have eg : ls.getD n [] = [u, v] := by rw [List.getD_eq_getElem?_getD, p1]; rfl
    rw [eg] at r
    exact ⟨b, _, rfl, st_of hb, rfl, g_two r⟩
  · obtain ⟨b, u, v, p1, rfl, hb⟩ := at_ e' hx
    have eg : ls.getD n [] = [u, v] := by rw [List.getD_eq_getElem?_getD, p1]; rfl
    show EvD te (((wipe σ vs).set i (some (.int ((ls.getD n []).getD 0 0)))).set j (some (.int ((ls.getD n []).getD 1 0)))) H' (d n)
    rw [eg]
    exact he n u v H' ((e.trans e2).trans e') p1
theorem upTo_range (n : Nat) : upTo (fun _ => true) n = List.range n := by
  unfold upTo
  exact List.filter_eq_self.mpr fun _ _ => rfl
/-! works -/
structure KTx (K : PySem.W.Frag) (mg : Str → Option Value) (CK : Addr) : Prop where
  cl : Cls K CK
  n1 : NoAttr K CK "wishes"
  n2 : NoAttr K CK "places"
  n3 : NoAttr K CK "heard"
  n4 : NoAttr K CK "offers"
  n5 : NoAttr K CK "steps"
  g : mg "Works" = some (.ref CK)
def heardD (rows : List (List Wy)) : List PyData := (linesW rows).map fun p => .list ((restsW rows p).map wd)
def offersD (rows : List (List Wy)) : List PyData := (List.range rows.length).map fun r => .list ((rows.getD r []).map (offD (linesW rows) r))
def tellD (p : Wy) : PyData := .tuple (.str "tell" :: p.map PyData.int)
def stepsD (rows : List (List Wy)) : List PyData := (linesW rows).map tellD ++ (List.range (rows.length - 1)).map fun i => .tuple [.str "choose", .int ((i + 1 : Nat) : Int)]
structure WkO (CK CW : Addr) (H : Hp) (x : Addr) (wv : V) (rows : List (List Wy)) : Prop where
  ex : ∃ (dx P S : Addr) (fs : List (Str × V)) (kvs : List (List L2.Key × V)) (hv ov : V) (us : List V), H x = some (.ins CK dx fs) ∧ fs.lookup ("wishes" : Str) = some wv ∧ fs.lookup ("places" : Str) = some (.ref P) ∧ fs.lookup ("heard" : Str) = some hv ∧ fs.lookup ("offers" : Str) = some ov ∧ fs.lookup ("steps" : Str) = some (.ref S) ∧
    H P = some (.dT kvs) ∧ PlK (linesW rows) kvs ∧ Dq H hv (.list (heardD rows)) ∧ Dq H ov (.list (offersD rows)) ∧ H S = some (.lst us) ∧ DqA (off S H) us (stepsD rows)
  wo : WO CW H wv rows
section
variable {P : Program} {w : World} {K : PySem.W.Frag} {mg : Str → Option Value} {base : Heap} {f : Addr} {fd : FuncData} {CW CN CK : Addr}
abbrev nWkI : List Str := ["self", "wishes", "pairs", "tells", "place", "pair", "router", "teller", "hearer"]
def spWkI (CK CW : Addr) : Sp := fun vs H Q _ => ∃ (x dx wv : Addr) (rows : List (List Wy)), vs = [.ref x, .ref wv] ∧ H x = some (.ins CK dx []) ∧ wv ≠ x ∧ WO CW H (.ref wv) rows ∧ ∀ H', Of1 x H H' → WkO CK CW H' x (.ref wv) rows → (∀ dx fs S, H' x = some (.ins CK dx fs) → fs.lookup ("steps" : Str) = some (.ref S) → H S = none) → Q .non H'
/-- lines as a method -/
structure ML (P : Program) (w : World) (K : PySem.W.Frag) (mg : Str → Option Value) (base : Heap) (CW : Addr) : Prop where
  tx : WTx K mg CW
  ln : ∃ (fM : Addr) (fd : FuncData), Meth K CW "lines" fM ∧ FnOk P w K mg base CX0 7 fM fd ["self"] (spLines CW) ∧ Binds K fd ["self"] []
end
end Wk

set_option Elab.async false
set_option linter.all false
set_option maxRecDepth 100000
set_option maxHeartbeats 1000000
namespace Wk
open PySem PySem.Spec PyProof.Rows L2 Evl
theorem tuple_mul1 (l : Addr) (items : Array Value) (n : Nat) (dd : Option Addr) (sl : Array (Option Value)) (u : Tok) :
    Meets (Builtin.«tuple.__mul__» ⟨[.ref l, .int 1 u], []⟩) (fun _ R s => s.heap.get? l = some { cls := .type "tuple", dict := dd, data := .seq items n, slots := sl } ∧ R (.ok (.ret (Value.ref l))) s) :=
  .of_wp fun prog w A R s h => by
    obtain ⟨hp, g, d, tk, os⟩ := s
    obtain ⟨hl, h⟩ := h
    have f1 := AutoSeq1.idx_int
    wp_walk using wpAny_loadPart' hl
    exact ⟨_, rfl, h⟩
theorem tuple_mul0 (l : Addr) (items : Array Value) (n : Nat) (dd : Option Addr) (sl : Array (Option Value)) (u : Tok) (c1 : (items.isEmpty || (0 : Int) == 1) = false) :
    Meets (Builtin.«tuple.__mul__» ⟨[.ref l, .int 0 u], []⟩) (fun _ R s => s.heap.get? l = some { cls := .type "tuple", dict := dd, data := .seq items n, slots := sl } ∧
      R (.ok (.ret (Value.ref s.heap.objs.size))) { s with heap := s.heap.push { cls := Value.type "tuple", data := Data.seq #[] }, toks := s.toks }) :=
  .of_wp fun prog w A R s h => by
    obtain ⟨hp, g, d, tk, os⟩ := s
    obtain ⟨hl, h⟩ := h
    have f1 := AutoSeq1.idx_int
    wp_walk using wpAny_loadPart' hl
    repeat (first
      | (refine wpAny_ite_false (decide_eq_false (by rw [c1]; exact Bool.false_ne_true)) ?_; wp_walk using wpAny_loadPart' hl))
    exact ⟨_, rfl, h⟩
end Wk
namespace L2
open PySem PySem.Spec PyProof.Rows
def rRepV (K : PySem.W.Frag) : R2 := fun x y H Q => ∃ l k xs, x = .ref l ∧ y = .int k ∧ SqT K H l xs ∧ xs ≠ [] ∧ 0 ≤ k ∧ k ≤ 1000 ∧ xs.length ≤ 1000 ∧ (k = 0 → ∀ p, H p = none → Q (.ref p) (upd H p (.tup []))) ∧ (k = 1 → Q (.ref l) H) ∧ (2 ≤ k → ∀ p, H p = none → Q (.ref p) (upd H p (.tup (List.replicate k.toNat xs).flatten)))
theorem op_repV {X : Cx} {K : PySem.W.Frag} (hK : X.K = K) : OpR X (binaryOp .Mult) (rRepV K) := by
  subst hK
  intro pins s σ H x y v u Q I rx ry h
  obtain ⟨l, k, xs, rfl, rfl, hT, hne, h1, h2, hz, q0, q1, q⟩ := h
  by_cases hk : 2 ≤ k
  · exact op_repT pins s σ H (.ref l) (.int k) v u Q I rx ry ⟨l, k, xs, rfl, rfl, hT, hne, hk, h2, hz, q hk⟩
  · cases rx
    obtain ⟨t, rfl⟩ := ry
    obtain ⟨its, r, ⟨⟨cls, dd, data, sl⟩, ho, hc, n, hd⟩, hs⟩ := I.tuple hT
    simp only at hc hd
    subst hc hd
    have hle : its.length = xs.length := r.length.symm
    have hn : its ≠ [] := fun e => hne (by
      rw [e] at hle
      exact List.eq_nil_of_length_eq_zero hle.symm)
    have hi : its.toArray.isEmpty = false := by
      cases its with
      | nil => exact absurd rfl hn
      | cons a b => rfl
    by_cases k0 : k = 0
    · subst k0
      refine wpAny_binaryOp_repeat_ref (T := "tuple") (U := "int") (by decide) ⟨_, ho, rfl⟩ (fun s' => typeIs_int s' 0 t) noFill_tuple_mul F.fills_int_mul F.slot_int_rmul repeat_tuple F.slot_int_index.lookup
        (call_meets F.slot_int_rmul (typeIs_int s 0 t) F.entry_int_rmul (F.args_int_rmul_2 _ _) (int_rmul_tuple 0 t l its.toArray n dd sl)
          ⟨ho, rfl, ⟨_, ho, rfl⟩, call_meets F.slot_tuple_mul ⟨_, ho, rfl⟩ F.entry_tuple_mul (F.args_tuple_mul_2 _ _) (Wk.tuple_mul0 l its.toArray n dd sl t (by rw [hi]; rfl)) ⟨ho, ?_⟩⟩)
      refine ⟨.ref s.heap.objs.size, _, I.laid (t' := s.toks) (o := .tup []) (fun b ob q => Heap.get?_push_of_some _ q) (Nat.le_refl _) ?_, rfl, q0 rfl _ (I.hok.fresh (Nat.le_refl _))⟩
      exact ⟨Nat.zero_le _, _, .nil, IsTup.new _ _⟩
    · have e : k = 1 := by omega
      subst e
      exact wpAny_binaryOp_repeat_ref (T := "tuple") (U := "int") (by decide) ⟨_, ho, rfl⟩ (fun s' => typeIs_int s' 1 t) noFill_tuple_mul F.fills_int_mul F.slot_int_rmul repeat_tuple F.slot_int_index.lookup
        (call_meets F.slot_int_rmul (typeIs_int s 1 t) F.entry_int_rmul (F.args_int_rmul_2 _ _) (int_rmul_tuple 1 t l its.toArray n dd sl)
          ⟨ho, rfl, ⟨_, ho, rfl⟩, call_meets F.slot_tuple_mul ⟨_, ho, rfl⟩ F.entry_tuple_mul (F.args_tuple_mul_2 _ _) (Wk.tuple_mul1 l its.toArray n dd sl t) ⟨ho, ⟨.ref l, H, I, rfl, q1 rfl⟩⟩⟩)
end L2
namespace Wk
open PySem PySem.Spec PyProof.Rows L2 Evl
theorem flat_rep {α : Type} (x : α) : ∀ n, (List.replicate n [x]).flatten = List.replicate n x
  | 0 => rfl
  | n + 1 => by rw [List.replicate_succ, List.flatten_cons, flat_rep x n, List.replicate_succ]; rfl
/-- ((),) * n -/
theorem t_emRep {K : PySem.W.Frag} {σ : L2.St} {H : Hp} {tn : TE} {n : Nat} {Q : VK} (hn : ∀ H1, Ex H H1 → Ev tn σ H1 (.int (n : Int))) (h9 : n ≤ 1000) (k : ∀ t e H', Ex H H' → H' e = some (.tup []) → H' t = some (.tup (List.replicate n (.ref e))) → Q (.ref t) H') :
    tOp (rRepV K) (tTup (tCons (tTup tNil) tNil)) tn σ H Q := by
  refine ⟨by show 0 ≤ sizeLine; decide, fun e he => ⟨by show 1 ≤ sizeLine; decide, fun c hc => ?_⟩⟩
  have e1 := Ex.new (o := .tup ([] : List V)) he
  have e2 := Ex.new (o := .tup [V.ref e]) hc
  have hee : (upd (upd H e (.tup [])) c (.tup [V.ref e])) e = some (.tup []) := e2 _ _ upd_same
  have hcc : (upd (upd H e (.tup [])) c (.tup [V.ref e])) c = some (.tup [V.ref e]) := upd_same
  have e12 := e1.trans e2
  generalize upd (upd H e (.tup [])) c (.tup [V.ref e]) = H2 at *
  refine hn H2 e12 H2 (Ex.refl _) _ fun H3 e3 => ?_
  refine ⟨c, (n : Int), [.ref e], rfl, rfl, st_of (e3 _ _ hcc), by simp, by omega, by omega, by simp, fun z p hp => ?_, fun z => ?_, fun z p hp => ?_⟩
  · have e4 := Ex.new (o := .tup ([] : List V)) hp
    refine k p e _ (e12.trans (e3.trans e4)) (e4 _ _ (e3 _ _ hee)) ?_
    rw [show n = 0 by omega]
    exact upd_same
  · refine k c e H3 (e12.trans e3) (e3 _ _ hee) ?_
    rw [show n = 1 by omega]
    exact e3 _ _ hcc
  · have e4 := Ex.new (o := .tup (List.replicate (n : Int).toNat [V.ref e]).flatten) hp
    refine k p e _ (e12.trans (e3.trans e4)) (e4 _ _ (e3 _ _ hee)) ?_
    rw [upd_same, flat_rep, Int.toNat_natCast]
end Wk

set_option Elab.async false
set_option linter.all false
set_option maxRecDepth 100000
set_option maxHeartbeats 4000000
namespace Wk
open PySem PySem.Spec PyProof.Rows L2 Evl SeqAt
/-! zip(list, tuple) -/
def ItzM (K : PySem.W.Frag) (a b : Addr) : It where
  go := fun i H => ∃ xs ys x y, SqL K H a xs ∧ SqT K H b ys ∧ xs[i]? = some x ∧ ys[i]? = some y ∧ xs.length = ys.length
  yld := fun i H v H' => ∃ T x y, v = V.ref T ∧ H T = none ∧ H' = upd H T (.tup [x, y]) ∧ (∀ l, SqL K H a l → l[i]? = some x) ∧ (∀ l, SqT K H b l → l[i]? = some y)
  stop := fun i H => ∃ xs ys, SqL K H a xs ∧ SqT K H b ys ∧ xs.length = i ∧ ys.length = i
theorem sep_new {n a b : Nat} (ha : a < n) (hb : b < n) : ZipSep2 (n + 4) (n + 2) (n + 3) n (n + 1) [n, a] [n + 1, b] := by
  constructor <;> simp only [List.mem_cons, List.not_mem_nil, or_false, ne_eq, not_or, true_or] <;> first | exact trivial | (show ¬ @Eq Nat _ _; omega) | (constructor <;> (show ¬ @Eq Nat _ _; omega))
/-- where such an iterator stands -/
def stM (z TI TO i1 i2 a b : Addr) (i : Nat) (h : Heap) : Prop := IsZip h z TI TO .none ∧ IsTupOf2 h TI (.ref i1) (.ref i2) ∧ (∃ u v, IsTupOf2 h TO u v) ∧ h.IsListIter i1 a i ∧ h.IsTupleIter i2 b i
theorem stM.keep {z TI TO i1 i2 a b : Addr} {i : Nat} {h h' : Heap} (st : stM z TI TO i1 i2 a b i h) (k : ∀ c o, c ∈ [z, TI, TO, i1, i2] → h.get? c = some o → h'.get? c = some o) : stM z TI TO i1 i2 a b i h' := by
  obtain ⟨s1, s2, ⟨u, v, s3⟩, s4, s5⟩ := st
  exact ⟨k _ _ (by simp) s1, k _ _ (by simp) s2, ⟨u, v, k _ _ (by simp) s3⟩, s4.at fun o q => k _ o (by simp) q, s5.at fun o q => k _ o (by simp) q⟩
theorem turnM {P : Program} {w : World} {K : PySem.W.Frag} {es : List Expr} {n : Nat} {ps : Pos} {a b z TI TO i1 i2 : Addr} (S : ZipSep2 z TI TO i1 i2 [i1, a] [i2, b]) :
    Turn P w K (.Tuple es n ps) (ItzM K a b) [z, TI, TO, i1, i2] z (stM z TI TO i1 i2 a b) := by
  refine ⟨by simp, ?_, fun i h h' st k => st.keep fun c o hc q => k c hc o q, ?_, ?_, fun A i s Q E st q => wpAny_pyIter_zip st.1 q⟩
  · intro i h st c hc
    obtain ⟨s1, s2, ⟨u, v, s3⟩, ⟨o1, q1, _, d1⟩, ⟨o2, q2, _, d2⟩⟩ := st
    simp only [List.mem_cons, List.not_mem_nil, or_false] at hc
    rcases hc with rfl | rfl | rfl | rfl | rfl
    · exact ⟨_, s1, fun v q => by cases q⟩
    · exact ⟨_, s2, fun v q => by cases q⟩
    · exact ⟨_, s3, fun v q => by cases q⟩
    · exact ⟨o1, q1, fun v q => by rw [d1] at q; cases q⟩
    · exact ⟨o2, q2, fun v q => by rw [d2] at q; cases q⟩
  · intro X eP ew eK calm i pins s σ H E I hf st hg
    subst eP ew eK
    obtain ⟨xs, ys, x, y, hxs, hys, hx, hy, hl⟩ := hg
    obtain ⟨l1, r1, g1, _⟩ := I.list hxs
    obtain ⟨l2, r2, g2, _⟩ := I.tuple hys
    obtain ⟨u1, hu1, ru1⟩ := r1.get hx
    obtain ⟨u2, hu2, ru2⟩ := r2.get hy
    obtain ⟨s1, s2, ⟨u, v, s3⟩, s4, s5⟩ := st
    have hh : X.A.in1.handled = none := I.ok.hd calm
    have nai : a ≠ i1 := fun e => by
      obtain ⟨o, q, c, _⟩ := s4
      obtain ⟨o', q', c', _⟩ := g1.isList
      rw [← e, q'] at q
      injection q with q
      rw [← q, c'] at c
      simp at c
    have nbi : b ≠ i2 := fun e => by
      obtain ⟨o, q, c, _⟩ := s5
      obtain ⟨o', q', c', _⟩ := (show s.heap.IsTuple b l2.toArray from g2)
      rw [← e, q'] at q
      injection q with q
      rw [← q, c'] at c
      simp at c
    have D1 := Draws.list (prog := X.prog) (w := X.w) (A := X.A.in1) hh i1 a nai l1.toArray
    have D2 := Draws.tuple (prog := X.prog) (w := X.w) (A := X.A.in1) hh i2 b nbi l2.toArray
    have k1 : i < l1.toArray.size := by
      have := (List.getElem?_eq_some_iff.mp hu1).1
      simpa using this
    have k2 : i < l2.toArray.size := by
      have := (List.getElem?_eq_some_iff.mp hu2).1
      simpa using this
    have hzs : z < s.heap.objs.size := Heap.lt_size s1
    refine wpAny_pyNext_zipD2_item S D1 D2 s1 s2 s3 ⟨s4, g1.isList⟩ ⟨s5, g2⟩ k1 k2 fun v1 v2 h1 tk e1 e2 t1 t2 t3 t4 t5 hsz hk => ?_
    have ev1 : v1 = u1 := by
      have z : l1[i]? = some v1 := by simpa using e1
      rw [hu1] at z
      exact (Option.some.inj z).symm
    have ev2 : v2 = u2 := by
      have z : l2[i]? = some v2 := by simpa using e2
      rw [hu2] at z
      exact (Option.some.inj z).symm
    subst ev1 ev2
    refine ⟨_, rfl, wpAny_letOwnedTupleGo_zip (s := { s with heap := h1, toks := tk }) t1 fun h2 t6 sb => ?_⟩
    have up : ∀ c o, c ≠ z → h1.get? c = some o → h2.get? c = some o := fun c o nc q => (sb.2 c nc).trans q
    have hT := up _ _ (Nat.ne_of_gt hzs) t5
    have kk : ∀ c o, c ∉ [z, TI, TO, i1, i2] → s.heap.get? c = some o → h2.get? c = some o := fun c o nc q => by
      simp only [List.mem_cons, List.not_mem_nil, or_false, not_or] at nc
      exact up c o nc.1 (hk c o nc.1 nc.2.2.1 nc.2.2.2.1 nc.2.2.2.2 q)
    refine ⟨.ref s.heap.objs.size, _, I.turnedNew (t' := tk) (ob := .tup [x, y]) kk hf (Nat.le_refl _) ⟨by show 2 ≤ sizeLine; decide, [v1, v2], .cons ru1 (.cons ru2 .nil), _, hT, rfl, _, rfl⟩, rfl, ⟨_, x, y, rfl, I.hok.fresh (Nat.le_refl _), rfl, fun l q => ?_, fun l q => ?_⟩, ?_, fun c hc => ?_⟩
    · rw [I.list_inj q hxs]; exact hx
    · rw [I.tuple_inj q hys]; exact hy
    · have q1 : i1 ≠ z := fun e => S.zi1 e.symm
      have q2 : i2 ≠ z := fun e => S.zi2 e.symm
      have nTI : TI ≠ i2 := S.TIi2
      exact ⟨t6, up _ _ S.TIz (hk _ _ S.TIz S.TITO S.TIi1 nTI s2), ⟨_, _, up _ _ S.TOz t2⟩, t3.1.at fun o q => up _ o q1 q, t4.1.at fun o q => up _ o q2 q⟩
    · rw [upd_ne fun e => ?_]
      · exact (hf c hc).1
      · have hlt : c < s.heap.objs.size := by
          simp only [List.mem_cons, List.not_mem_nil, or_false] at hc
          rcases hc with rfl | rfl | rfl | rfl | rfl
          · exact hzs
          · exact Heap.lt_size s2
          · exact Heap.lt_size s3
          · obtain ⟨_, q, _⟩ := s4; exact Heap.lt_size q
          · obtain ⟨_, q, _⟩ := s5; exact Heap.lt_size q
        rw [e] at hlt
        exact Nat.lt_irrefl _ hlt
  · intro X eP ew eK calm i pins s σ H E I hf st hg
    subst eP ew eK
    obtain ⟨xs, ys, hxs, hys, e1, e2⟩ := hg
    obtain ⟨l1, r1, g1, _⟩ := I.list hxs
    obtain ⟨l2, r2, g2, _⟩ := I.tuple hys
    obtain ⟨s1, s2, ⟨u, v, s3⟩, s4, s5⟩ := st
    have hh : X.A.in1.handled = none := I.ok.hd calm
    have nai : a ≠ i1 := fun e => by
      obtain ⟨o, q, c, _⟩ := s4
      obtain ⟨o', q', c', _⟩ := g1.isList
      rw [← e, q'] at q
      injection q with q
      rw [← q, c'] at c
      simp at c
    have nbi : b ≠ i2 := fun e => by
      obtain ⟨o, q, c, _⟩ := s5
      obtain ⟨o', q', c', _⟩ := (show s.heap.IsTuple b l2.toArray from g2)
      rw [← e, q'] at q
      injection q with q
      rw [← q, c'] at c
      simp at c
    have D1 := Draws.list (prog := X.prog) (w := X.w) (A := X.A.in1) hh i1 a nai l1.toArray
    have D2 := Draws.tuple (prog := X.prog) (w := X.w) (A := X.A.in1) hh i2 b nbi l2.toArray
    have n1 := r1.length
    have n2 := r2.length
    have m1 : l1.toArray.size = i := by simp; omega
    have m2 : l2.toArray.size = i := by simp; omega
    refine wpAny_pyNext_zipD2_end S D1 D2 s1 s2 s3 ⟨s4, g1.isList⟩ ⟨s5, g2⟩ (by omega) (by omega) (.inl m1.symm) fun h1 tk hk => ⟨rfl, I.turnedL (t' := tk) (ch := [z, TI, TO, i1, i2]) (fun c o nc q => ?_) hf⟩
    simp only [List.mem_cons, List.not_mem_nil, or_false, not_or] at nc
    exact hk c o nc.1 nc.2.2.1 nc.2.2.2.1 nc.2.2.2.2 q
def iZipM (K : PySem.W.Frag) (ta : TA) : L2.TI := fun σ H R => ta σ H fun vs H1 => ∃ a b xs ys, vs = [V.ref a, V.ref b] ∧ SqL K H1 a xs ∧ SqT K H1 b ys ∧ R (ItzM K a b) H1
theorem pi_zipM {X : Cx} {e e2 : Expr} {ta : TA} {p pos tpos : Pos} {es : List Expr} {n : Nat} (hg : Gl X "zip") (hm : X.mg "zip" = none) (ha : PA X [e, e2] ta)
    (hs : starEach [e, e2] X.env = (false, eval e X.env) :: starEach [e2] X.env := by rfl) (hp : (backTo pos (starEach [e2] X.env)).any (·.1) = false := by rfl) : PI X (.Tuple es n tpos) (.Call (.Name "zip" p) [e, e2] [] pos) (iZipM X.K ta) := by
  constructor
  intro pins s σ H R I h
  refine Call_ (ld_blt I hg hm PyProof.Rows.boot_zip (PyProof.Rows.callWith_type1 (thn (ha.run pos pins s σ H _ I h) fun us s1 q => ?_) hs hp))
  obtain ⟨vs, H1, I1, rv, a, b, xs, ys, rfl, hxs, hys, hR⟩ := q
  obtain ⟨u1, u2, rfl, q1, q2⟩ := vals2 rv
  obtain rfl : u1 = Value.ref a := q1
  obtain rfl : u2 = Value.ref b := q2
  obtain ⟨l1, r1, g1, _⟩ := I1.list hxs
  obtain ⟨l2, r2, g2, _⟩ := I1.tuple hys
  have g2' : s1.heap.IsTuple b l2.toArray := g2
  have bl : b < s1.heap.objs.size := by
    obtain ⟨o, q, _⟩ := g2'
    exact Heap.lt_size q
  refine zip_begins2 (begins_list a l1.toArray) (begins_tuple b l2.toArray) g1.isList g2' fun h1 z1 z2 z3 z4 z5 hsz hk => wpAny_pyIter_zip z1 ?_
  have I2 : Inv X pins σ H1 { s1 with heap := h1 } := I1.kept (t' := s1.toks) hk
  refine ⟨_, [s1.heap.objs.size + 4, s1.heap.objs.size + 2, s1.heap.objs.size + 3, s1.heap.objs.size, s1.heap.objs.size + 1], _, _, H1, rfl, I2, turnM (sep_new g1.lt bl), ⟨z1, z2, ⟨_, _, z3⟩, ⟨_, z4, rfl, rfl⟩, ⟨_, z5, rfl, rfl⟩⟩, fun c hc => ?_, hR⟩
  have hle : s1.heap.objs.size ≤ c := by
    simp only [List.mem_cons, List.not_mem_nil, or_false] at hc
    rcases hc with rfl | rfl | rfl | rfl | rfl
    · exact Nat.le_add_right _ _
    · exact Nat.le_add_right _ _
    · exact Nat.le_add_right _ _
    · exact Nat.le_refl _
    · exact Nat.le_add_right _ _
  exact I1.fpOk hle (I1.hok.fresh hle)
theorem q_forZM {K : PySem.W.Frag} {ta : TA} {σ : L2.St} {H : Hp} {g : TG} {tu tz : TS} {D : Ends} {a b : Addr} {xs ys : List V} (h : EvA ta σ H [.ref a, .ref b]) (hxs : SqL K H a xs) (hys : SqT K H b ys) (hl : xs.length = ys.length) (Pv : Nat → L2.St → Hp → Prop) (h0 : ∀ H1, Ex H H1 → Pv 0 σ H1)
    (hk : ∀ i σ' H', Pv i σ' H' → SqL K H' a xs ∧ SqT K H' b ys) (hs : ∀ (i : Nat) (x y : V) (T : Addr) (σ' : L2.St) (H' : Hp), xs[i]? = some x → ys[i]? = some y → Pv i σ' H' → H' T = none → g (.ref T) σ' (upd H' T (.tup [x, y])) fun σ2 H2 => tu { D with nx := Pv (i + 1), ct := Pv (i + 1), bk := tz D } σ2 H2)
    (hd : ∀ σ' H', Pv xs.length σ' H' → tz D σ' H') : tSeq (tFor (iZipM K ta) g tu) tz D σ H := h H (Ex.refl H) _ fun H1 e1 => by
  refine ⟨a, b, xs, ys, rfl, ex_l e1 hxs, ex_t e1 hys, fun i m σ' H' => m = xs.length - i ∧ i ≤ xs.length ∧ Pv i σ' H', ⟨_, rfl, Nat.zero_le _, h0 H1 e1⟩, ?_⟩
  rintro i m σ' H' ⟨rfl, hi, p⟩
  obtain ⟨k1, k2⟩ := hk i σ' H' p
  by_cases c : i < xs.length
  · have c2 : i < ys.length := by omega
    refine .inr ⟨⟨xs, ys, xs[i], ys[i], k1, k2, List.getElem?_eq_getElem c, List.getElem?_eq_getElem c2, hl⟩, Pv (i + 1), fun σ2 H2 p2 => ⟨_, by omega, rfl, c, p2⟩, fun v H2 y => ?_⟩
    obtain ⟨T, x, y, rfl, hT, rfl, f1, f2⟩ := y
    exact hs i x y T σ' H' (f1 xs k1) (f2 ys k2) p hT
  · have e : i = xs.length := by omega
    subst e
    exact .inl ⟨⟨xs, ys, k1, k2, rfl, hl.symm⟩, hd σ' H' p⟩
end Wk

set_option Elab.async false
set_option linter.all false
set_option maxRecDepth 100000
set_option maxHeartbeats 1000000
namespace Wk
open PySem PySem.Spec PyProof.Rows L2 Evl
theorem walk_zipM {K : PySem.W.Frag} {a b : Addr} {xs ys : List V} (hl : xs.length = ys.length) : Walk (ItzM K a b) xs.length (fun H => SqL K H a xs ∧ SqT K H b ys) (YPair (fun i => xs[i]?) (fun i => ys[i]?)) := by
  refine ⟨fun i _ hi q => ?_, fun _ q => ⟨xs, ys, q.1, q.2, rfl, hl.symm⟩, fun i H v H' _ q y => ?_⟩
  · have h2 : i < ys.length := by omega
    exact ⟨xs, ys, xs[i], ys[i], q.1, q.2, by simp [hi], by simp [h2], hl⟩
  · obtain ⟨T, x, z, h1, h2, h3, h4, h5⟩ := y
    exact ⟨T, x, z, h1, h2, h3, h4 xs q.1, h5 ys q.2⟩
theorem ev_allZM {K : PySem.W.Frag} {σ : L2.St} {H : Hp} {te : TE} {ta : TA} {a b : Addr} {xs ys : List V} {i j : Nat} {vs : List Nat} (g : Nat → Bool) (h : EvA ta σ H [.ref a, .ref b]) (hx : SqL K H a xs) (hy : SqT K H b ys) (hl : xs.length = ys.length) (hz : xs.length ≤ 40000) (hw : ∀ x y, wipe (((wipe σ vs).set i (some x)).set j (some y)) vs = wipe σ vs)
    (he : ∀ (k : Nat) (x y : V) H1, Ex H H1 → xs[k]? = some x → ys[k]? = some y → Ev te (((wipe σ vs).set i (some x)).set j (some y)) H1 (.bl (g k))) :
    Ev (tCB (rAll K) (tCons (tLc (iZipM K ta) (gTup K 2 (gCons (gName i) (gCons (gName j) gNil))) tYes te vs) tNil)) σ H (.bl (((List.range xs.length).map g).all id)) :=
  ev_allL (by
    have q : EvL (tLc (iZipM K ta) (gTup K 2 (gCons (gName i) (gCons (gName j) gNil))) tYes te vs) σ H (given xs.length (fun _ => true) (fun k => .bl (g k))) := fun H0 e Q q => h H0 e _ fun H1 e1 => ⟨a, b, xs, ys, rfl, ex_l (e.trans e1) hx, ex_t (e.trans e1) hy, fun Dl hD =>
      lc_it (walk_zipM (K := K) (a := a) (b := b) hl) (Cw H1 (fun _ => true) (fun k => .bl (g k)) Dl) ⟨hD, Ex.new hD, upd_same⟩ (fun i H' _ p => ⟨ex_l ((e.trans e1).trans p.2.1) hx, ex_t ((e.trans e1).trans p.2.1) hy⟩)
        (fun k z H' H2 hk p y => by
          obtain ⟨T, u, y, rfl, hT, rfl, hu, hy⟩ := y
          have eT : Ex H' (upd H' T (.tup [u, y])) := Ex.new hT
          refine ⟨T, _, rfl, st_of upd_same, rfl, g_two ⟨hw _ _, ?_⟩⟩
          exact cw_turn ⟨p.1, p.2.1.trans eT, eT _ _ p.2.2⟩ (by omega) et_yes (fun _ => he k u y H1 (e.trans e1) hu hy))
        (fun H' p => q Dl H' (fresh_back e1 p.1) (e1.trans p.2.1) p.2.2)⟩
    rw [given_all] at q
    rw [List.map_map]
    exact q)
theorem ev_orV {a b : Bool} {ta tb : TE} {σ : L2.St} {H : Hp} (h1 : Ev ta σ H (.bl a)) (h2 : a = false → Ev tb σ H (.bl b)) : Ev (tOrV ta tb) σ H (.bl (a || b)) := fun H1 e Q q => h1 H1 e _ fun H2 e2 => ⟨a, rfl, by
  cases a with
  | true =>
    show Q (.bl true) H2
    exact q H2 e2
  | false =>
    show tb σ H2 Q
    exact h2 rfl H2 (e.trans e2) Q fun H3 e3 => q H3 (e2.trans e3)⟩
/-! first_stand -/
def begT (rows : List (List Wy)) : List Wy := [0] :: List.replicate (rows.length - 1) []
def begK (rows : List (List Wy)) : List Wy := List.replicate (linesW rows).length []
def standD (ts ks : List Wy) : PyData := .tuple [.tuple (ts.map wd), .tuple (ks.map wd)]
theorem dpa_em {K : PySem.W.Frag} {H : Hp} {e : Addr} (h : H e = some (.tup [])) : ∀ n, DpAll K H (List.replicate n (.ref e)) ((List.replicate n ([] : Wy)).map wd)
  | 0 => .nil
  | n + 1 => .cons (dp_of_wd (w := []) (st_of h)) (dpa_em h n)
/-- the fields of works -/
theorem ev_wf {K : PySem.W.Frag} {mg : Str → Option Value} {CK : Addr} {σ : L2.St} {H : Hp} {te : TE} {x dx : Addr} {fs : List (Str × V)} {v : V} {n : Str} (T : Cls K CK) (N : NoAttr K CK n) (h : Ev te σ H (.ref x)) (hx : H x = some (.ins CK dx fs)) (hl : fs.lookup n = some v) : Ev (tFld K te n) σ H v := fun H1 e Q q =>
  h H1 e _ fun H2 e2 => ⟨x, CK, dx, fs, v, rfl, (e.trans e2) _ _ hx, T, N, hl, q H2 e2⟩
theorem WkO.hv {CK CW : Addr} {H : Hp} {x : Addr} {wv : V} {rows : List (List Wy)} (h : WkO CK CW H x wv rows) : ∃ dx fs ha us, H x = some (.ins CK dx fs) ∧ fs.lookup ("wishes" : Str) = some wv ∧ fs.lookup ("heard" : Str) = some (.ref ha) ∧ H ha = some (.lst us) ∧ DqA H us (heardD rows) ∧ us.length = (linesW rows).length := by
  obtain ⟨dx, P, S, fs, kvs, hv, ov, us, hx, fw, fp, fh, fo, fs', hP, hpk, hh, ho, hS, hus⟩ := h.ex
  cases hh with
  | lst h1 h2 =>
    have := h2.length
    unfold heardD at this
    rw [List.length_map] at this
    exact ⟨dx, fs, _, _, hx, fw, fh, h1, h2, this⟩
section
variable {P : Program} {w : World} {K : PySem.W.Frag} {mg : Str → Option Value} {base : Heap} {f : Addr} {fd : FuncData} {CW CN CK : Addr}
def spFirstS (K : PySem.W.Frag) (CK CW : Addr) : Sp := fun vs H Q _ => ∃ (x wv : Addr) (rows : List (List Wy)), vs = [.ref x] ∧ WkO CK CW H x (.ref wv) rows ∧ ∀ H' u, Ex H H' → Dp K H' u (standD (begT rows) (begK rows)) → Q u H'
/-! steps, begin -/
theorem call1 {sp : Sp} {E : XK} {te : TE} {σ : L2.St} {H : Hp} {Q : VK} (h : te σ H fun x H1 => sp [x] H1 Q E) : tCall sp [] E (tCons te tNil) σ H Q := h
theorem passAt0 {X : Cx} {σ : L2.St} : PassesAt CX0 X σ E0 := fun _ _ _ _ _ _ h => h.elim
theorem t_mkW {σ : L2.St} {H : Hp} {ta : TE} {wv : Addr} {rows : List (List Wy)} {Q : VK} {W : L2.St → XK} (ha : Ev ta σ H (.ref wv)) (hw : WO CW H (.ref wv) rows) (k : ∀ H' x, Ex H H' → H x = none → WkO CK CW H' x (.ref wv) rows → (∀ dx fs S, H' x = some (.ins CK dx fs) → fs.lookup ("steps" : Str) = some (.ref S) → H S = none) → Q (.ref x) H') : tMkAt CK (spWkI CK CW) W (tCons ta tNil) σ H Q := ha H (Ex.refl H) _ fun H1 e1 => fun x dx nx ndx nex => by
  have eU : Ex H1 (upd (upd H1 dx (.own x)) x (.ins CK dx [])) := fun b o hb => by
    rw [upd_ne (ne_of_none hb nx), upd_ne (ne_of_none hb ndx)]
    exact hb
  have nwx : wv ≠ x := fun z => by
    obtain ⟨w', _, _, h1, h2, _⟩ := (hw.up e1).ex
    injection h1 with h1
    rw [← h1, z, nx] at h2
    cases h2
  refine ⟨x, dx, wv, rows, rfl, upd_same, nwx, hw.up (e1.trans eU), fun H' o hK hS => ⟨rfl, k H' x (fun b u hb => ?_) (fresh_back e1 nx) hK fun dx' fs' S q1 q2 => fresh_back (e1.trans eU) (hS dx' fs' S q1 q2)⟩⟩
  have hb1 := e1 _ _ hb
  exact o b u (ne_of_none hb1 nx) (eU _ _ hb1)
/-- how works are made -/
structure MkK (P : Program) (w : World) (K : PySem.W.Frag) (mg : Str → Option Value) (base : Heap) (CK CW : Addr) : Prop where
  tx : KTx K mg CK
  ex : ∃ (fI : Addr) (fd : FuncData), Mk K CK fI ∧ FnOk P w K mg base CX0 8 fI fd ["self", "wishes"] (spWkI CK CW) ∧ Binds K fd ["self", "wishes"] []
end
end Wk

set_option Elab.async false
set_option linter.all false
set_option maxRecDepth 100000
set_option maxHeartbeats 1000000
namespace Wk
open PySem PySem.Spec PyProof.Rows L2 Evl
theorem dq_tup {G : Hp} {v : V} {d : PyData} (h : Dq G v d) (g : isTu d = true) : ∃ (ca : Addr) (cs : List V) (ds2 : List PyData), v = .ref ca ∧ d = .tuple ds2 ∧ G ca = some (.tup cs) ∧ DqA G cs ds2 := by
  cases h with
  | tup c1 c2 => exact ⟨_, _, _, rfl, rfl, c1, c2⟩
  | _ => simp [isTu] at g
def hdB (ws : List Wy) (x : PyData) : Bool := intsB x && (decide (rts x = []) || decide (rts x ∈ ws))
def stB (rows : List (List Wy)) : PyData → Bool
  | .tuple [a, b] => tkB rows (some a) && (tgN ((linesW rows).length : Int) (some b) && ((List.range (linesW rows).length).map fun i => (((itemsT b)[i]?).map (hdB (restsW rows ((linesW rows).getD i [])))).getD false).all id)
  | _ => false
def SmS (d : PyData) : Prop := ∀ a ∈ itemsT d, ∀ x ∈ itemsT a, (itemsT x).length ≤ 1000
theorem lay_list_wds (ws : List Wy) : (PyData.list (ws.map wd)).canLay0 = true := by
  simp only [PyData.canLay0]
  exact lay_wds ws
section
variable {P : Program} {w : World} {K : PySem.W.Frag} {mg : Str → Option Value} {base : Heap} {f : Addr} {fd : FuncData} {CW CN CK : Addr}
/-! is_heard -/
abbrev spHd : Sp := spP fun H vs z => ∃ (wl v : V) (ws : List Wy) (d : PyData), vs = [wl, v] ∧ Dq H wl (.list (ws.map wd)) ∧ Dq H v d ∧ (itemsT d).length ≤ 1000 ∧ z = .bl (hdB ws d)
abbrev spHd1 (K : PySem.W.Frag) : Sp := spP fun H vs z => ∃ (wl v : V) (ws : List Wy) (x : Wy), vs = [wl, v] ∧ Dq H wl (.list (ws.map wd)) ∧ Dp K H v (wd x) ∧ x.length ≤ 1000 ∧ (x = [] ∨ x ∈ ws) ∧ z = .bl true
theorem rv_eqEm {σ : L2.St} {H : Hp} {tv : TE} {v : V} {x : Wy} (h : Ev tv σ H v) (hx : ∀ H1, Ex H H1 → Dp K H1 v (wd x)) : Ev (tOp (rEqD K) tv (tTup tNil)) σ H (.bl (decide (x = []))) :=
  ev_opU h (eu_tup ea_nil (by simp)) fun p H1 hp e1 => fun H2 e2 Q q => ⟨wd x, .tuple [], hx H2 (e1.trans e2), .tup (st_of (e2 _ _ hp)) .nil, shaped_wd _, shaped_wd [], by
    have := eqv_wd x []
    rw [show PyData.eqv (wd x) (.tuple []) = decide (x = []) from this]
    exact q H2 (Ex.refl _)⟩
theorem rv_inWs {σ : L2.St} {H : Hp} {tv tw : TE} {v wl : V} {x : Wy} {ws : List Wy} (h : Ev tv σ H v) (hw : Ev tw σ H wl) (hx : ∀ H1, Ex H H1 → Dp K H1 v (wd x)) (hws : ∀ H1, Ex H H1 → Dq H1 wl (.list (ws.map wd))) : Ev (tOp (rInD K) tv tw) σ H (.bl (decide (x ∈ ws))) :=
  ev_op h hw fun H1 e1 Q q => by
    refine ⟨wd x, ws.map wd, hx H1 e1, Dq.dp (lay_list_wds ws) (hws H1 e1), shaped_wd _, shaped_wds _, ?_⟩
    rw [any_wd]
    exact q H1 (Ex.refl _)
/-! is_stand_of -/
abbrev spSO (CK CW : Addr) : Sp := spP fun H vs z => ∃ (x wv : Addr) (rows : List (List Wy)) (v : V) (d : PyData), vs = [.ref x, v] ∧ WkO CK CW H x (.ref wv) rows ∧ Dq H v d ∧ SmS d ∧ z = .bl (stB rows d)
abbrev nSO : List Str := ["works", "thing", "ways", "item"]
theorem WkO.up {H H' : Hp} {x : Addr} {wv : V} {rows : List (List Wy)} (h : WkO CK CW H x wv rows) (e : Ex H H') : WkO CK CW H' x wv rows := by
  obtain ⟨dx, P, S, fs, kvs, hv, ov, us, hx, fw, fp, fh, fo, fs', hP, hpk, hh, ho, hS, hus⟩ := h.ex
  exact ⟨⟨dx, P, S, fs, kvs, hv, ov, us, e _ _ hx, fw, fp, fh, fo, fs', e _ _ hP, hpk, hh.mono e, ho.mono e, e _ _ hS, hus.mono (off_ex e)⟩, h.wo.up e⟩
/-! is_stand_of of a stand that is one -/
structure StOk (rows : List (List Wy)) (ts ks : List Wy) : Prop where
  t : FullT rows ts
  kl : ks.length = (linesW rows).length
  ko : ∀ i x, ks[i]? = some x → (x = [] ∨ x ∈ restsW rows ((linesW rows).getD i [])) ∧ x.length ≤ 1000
theorem stOk_beg {rows : List (List Wy)} (h2 : 2 ≤ rows.length) : StOk rows (begT rows) (begK rows) := by
  refine ⟨⟨by unfold begT; rw [List.length_cons, List.length_replicate]; omega, fun i x h => ?_⟩, by unfold begK; rw [List.length_replicate], fun i x h => ?_⟩
  · unfold begT at h
    unfold chW
    cases i with
    | zero =>
      rw [if_pos rfl]
      simp at h
      simp [h]
    | succ i =>
      rw [if_neg (by omega)]
      rw [List.getElem?_cons_succ, List.getElem?_replicate] at h
      split at h
      · injection h with h
        rw [← h]
        simp
      · cases h
  · unfold begK at h
    rw [List.getElem?_replicate] at h
    split at h
    · injection h with h
      rw [← h]
      exact ⟨.inl rfl, by simp⟩
    · cases h
abbrev spSO1 (K : PySem.W.Frag) (CK CW : Addr) : Sp := spP fun H vs z => ∃ (x wv : Addr) (rows : List (List Wy)) (v : V) (ts ks : List Wy), vs = [.ref x, v] ∧ WkO CK CW H x (.ref wv) rows ∧ Dp K H v (standD ts ks) ∧ StOk rows ts ks ∧ z = .bl true
end
end Wk

set_option Elab.async false
set_option linter.all false
set_option maxRecDepth 100000
set_option maxHeartbeats 1000000
namespace Wk
open PySem PySem.Spec PyProof.Rows L2 Evl
theorem op_catAK {X : Cx} {K : PySem.W.Frag} (hK : X.K = K) : OpR X (binaryOp .Add) (rCatA K) := by
  subst hK
  exact op_catA
/-! a list that is made, of ways or pairs -/
def EvLn (tl : TE) (σ : L2.St) (H : Hp) (ls : List Wy) : Prop := ∀ H1, Ex H H1 → ∀ Q : VK, (∀ a us H2, Ex H1 H2 → H1 a = none → H2 a = some (.lst us) → DqA H2 us (ls.map wd) → Q (.ref a) H2) → tl σ H1 Q
section
variable {K : PySem.W.Frag} {t : TT} {te tl : TE} {σ : L2.St} {H : Hp} {j : Nat} {vs : List Nat} {row : List Wy}
theorem dl_LW (f : Nat → Bool) (d : Nat → PyData) (h : EvLn tl σ H row) (hz : row.length ≤ 40000) (hw : ∀ x, wipe ((wipe σ vs).set j (some x)) vs = wipe σ vs)
    (ht : ∀ (i : Nat) (a : Addr) (w : Wy) H1, Ex H H1 → row[i]? = some w → H1 a = some (.tup (w.map V.int)) → EvT t ((wipe σ vs).set j (some (.ref a))) H1 (f i)) (he : ∀ (i : Nat) (a : Addr) (w : Wy) H1, Ex H H1 → row[i]? = some w → H1 a = some (.tup (w.map V.int)) → f i = true → EvD te ((wipe σ vs).set j (some (.ref a))) H1 (d i)) :
    EvLD (tLc (iList K tl) (gName j) t te vs) σ H ((upTo f row.length).map d) := fun H1 e Q q => h H1 e _ fun a xs H2 e2 na a1 a2 => by
  have l1 := a2.length
  rw [List.length_map] at l1
  refine ⟨a, rfl, ⟨xs, sq_of a1⟩, fun D hD => ?_⟩
  have at_ : ∀ {i : Nat} {x : V} {H' : Hp}, Ex H2 H' → xs[i]? = some x → ∃ b w, row[i]? = some w ∧ x = .ref b ∧ H' b = some (.tup (w.map V.int)) := fun {i x H'} e' hx => by
    obtain ⟨w, w1, w2⟩ := a2.wds_inv hx
    obtain ⟨b, rfl, hb⟩ := wd_ref w2
    exact ⟨b, w, w1, rfl, e' _ _ hb⟩
  exact lc_new (Yx := fun i x => xs[i]? = some x) (fun i x => (wipe σ vs).set j (some x)) (walk_list (K := K) (a := a) (xs := xs)) hD (by omega) (fun H' e' => sq_of (e' _ _ a1)) (fun i x H' R _ _ _ r => r) (fun i x => hw x)
    (fun i x H' e' _ hi => by
      obtain ⟨b, w, w1, rfl, w2⟩ := at_ e' hi
      exact ht i b w H' ((e.trans e2).trans e') w1 w2) (fun i x H' e' _ hi hf => by
      obtain ⟨b, w, w1, rfl, w2⟩ := at_ e' hi
      exact he i b w H' ((e.trans e2).trans e') w1 w2 hf)
    (fun us H' e' hD' g => q D us H' (fresh_back e2 hD) (e2.trans e') hD' (by rw [l1] at g; exact g.mono (off_ex (fr_dn e2))))
/-- ("tell",) + line -/
theorem d_tell {s : Str} {tv : TE} {a : Addr} {p : Wy} (hv : Ev tv σ H (.ref a)) (ha : H a = some (.tup (p.map V.int))) (h0 : p ≠ []) (h9 : p.length ≤ 1000) : EvD (tOp (rCatA K) (tTup (tCons (tC (.str s)) tNil)) tv) σ H (.tuple (.str s :: p.map PyData.int)) := fun H1 e Q q => by
  refine ⟨by show 1 ≤ sizeLine; decide, fun t ht => ?_⟩
  have e1 := Ex.new (o := .tup [V.str s]) ht
  refine hv _ (e.trans e1) _ fun H2 e2 => ?_
  refine ⟨t, a, [.str s], p.map V.int, rfl, rfl, st_of (e2 _ _ upd_same), st_of (((e.trans e1).trans e2) _ _ ha), by rw [List.length_map, sizeLine_eq]; show 1 + p.length ≤ _; omega, (fun z => by cases z), fun _ z => absurd (List.map_eq_nil_iff.mp z) h0, fun _ _ r hr => ?_⟩
  have e3 := Ex.new (o := .tup ([V.str s] ++ p.map V.int)) hr
  refine q _ _ ((e1.trans e2).trans e3) (.tup ?_ (.cons (.str s) (DqA.ints p)))
  rw [fr_at fun l z => by rw [(e1.trans e2) _ _ z] at hr; cases hr]
  exact upd_same
end
section
variable {P : Program} {w : World} {K : PySem.W.Frag} {mg : Str → Option Value} {base : Heap} {f : Addr} {fd : FuncData}
/-! _law_rests -/
def spRests : Sp := fun vs H Q _ => ∃ (lv pv : V) (rows : List (List Wy)) (u v : Nat), vs = [lv, pv] ∧ Dq H lv (pd rows) ∧ GW rows ∧ (∀ row ∈ rows, row.length ≤ 6) ∧ Dq H pv (wd [(u : Int), (v : Int)]) ∧ v < rows.length ∧ ∀ H' l us, H l = none → Ex H H' → H' l = some (.lst us) → DqA (off l (Fr H H')) us ((restsW rows [(u : Int), (v : Int)]).map wd) → Q (.ref l) H'
abbrev nRests : List Str := ["_law_lists_here", "_law_line", "_law_way"]
theorem rests_eq {rows : List (List Wy)} {u v : Nat} {row : List Wy} (h : rows[v]? = some row) : restsW rows [(u : Int), (v : Int)] = (row.filter fun w => decide (w.getD 1 0 = (u : Int))).map (List.drop 1) := by
  unfold restsW
  have e : rows.getD (([(u : Int), (v : Int)] : Wy).getD 1 0).toNat [] = row := by
    show rows.getD ((v : Int)).toNat [] = _
    rw [Int.toNat_natCast, List.getD_eq_getElem?_getD, h]
    rfl
  rw [e]
  rfl
/-! _law_steps -/
def spLSteps : Sp := fun vs H Q _ => ∃ (lv : V) (rows : List (List Wy)), vs = [lv] ∧ Dq H lv (pd rows) ∧ GW rows ∧ 2 ≤ rows.length ∧ rows.length ≤ 8 ∧ (∀ row ∈ rows, row.length ≤ 6) ∧ ∀ H' l us, Ex H H' → H l = none → H' l = some (.lst us) → DqA (off l (Fr H H')) us (stepsD rows) → Q (.ref l) H'
abbrev nLSteps : List Str := ["_law_lists_here", "_law_line", "_law_k"]
theorem evln_lines {lv : V} {rows : List (List Wy)} {σ : L2.St} {H : Hp} (h0 : σ[0]? = some (some lv)) (hl : Dq H lv (pd rows)) (hG : GW rows) (h8 : rows.length ≤ 8) (h6 : ∀ row ∈ rows, row.length ≤ 6) : EvLn (tCall spLLines [] E0 (tCons (tVar 0) tNil)) σ H (linesW rows) := fun H1 e Q q =>
  ⟨lv, h0, lv, rows, rfl, hl.mono e, hG, h8, h6, fun H' l us e' nl hl hus => q l us H' e' nl hl hus⟩
/-! _law_begin -/
def spLBegin : Sp := fun vs H Q _ => ∃ (lv : V) (rows : List (List Wy)), vs = [lv] ∧ Dq H lv (pd rows) ∧ GW rows ∧ 2 ≤ rows.length ∧ rows.length ≤ 8 ∧ (∀ row ∈ rows, row.length ≤ 6) ∧ ∀ H' u, Ex H H' → Dq H' u (standD (begT rows) (begK rows)) → Q u H'
abbrev sLBegin : Stmt := top 46
theorem scLBegin : FnScope ["_law_lists_here"] ["_law_lists_here"] (defScope sLBegin) := ⟨rfl, rfl, rfl, by decide +kernel, rfl, by decide +kernel, by decide +kernel⟩
theorem dqa_em {H : Hp} {e : Addr} (h : H e = some (.tup [])) : ∀ n, DqA H (List.replicate n (.ref e)) ((List.replicate n ([] : Wy)).map wd)
  | 0 => .nil
  | n + 1 => .cons (wd_of (w := []) h) (dqa_em h n)
theorem ok_lBegin (B : Bl mg) (CL : Cal P w K mg base "_law_lines" ["_law_lists_here"] 1 spLLines) (F : FnP K "_law_begin" sLBegin f fd) : FnOk P w K mg base CX0 2 f fd ["_law_lists_here"] spLBegin := by
  refine F.ok scLBegin (fun vs H Q E h => ?_) (fun cdv A outer s H vs Q E hr h => ?_)
  · obtain ⟨lv, rows, rfl, _⟩ := h
    rfl
  · obtain ⟨lv, rows, rfl, hl, hG, h2, h8, h6, k⟩ := h
    refine ⟨_, pss_one (ps_ret (pe_tup (pa_cons (pe_op op_catA (pe_tup (pa_cons (pe_tup (pa_cons pe_int pa_nil)) pa_nil)) (pe_op (op_repV (K := K) rfl) (pe_tup (pa_cons (pe_tup pa_nil) pa_nil)) (pe_op op_sub (pe_callB call_len_seq (by rfl) B.len PySem.boot_len (pa_cons (pv 0) pa_nil)) pe_int)))
      (pa_cons (pe_op (op_repV (K := K) rfl) (pe_tup (pa_cons (pe_tup pa_nil) pa_nil)) (pe_callB call_len_seq (by rfl) B.len PySem.boot_len (pa_cons (pe_cal CL hr (by rfl) (pa_cons (pv 0) pa_nil)) pa_nil))) pa_nil)))), ?_⟩
    have hll := lnw_len rows
    have hlw : ∃ la lxs, lv = .ref la ∧ H la = some (.tup lxs) ∧ lxs.length = rows.length := by
      have hl' := hl
      unfold pd at hl'
      cases hl' with
      | tup z1 z2 =>
        have := z2.length
        rw [List.length_map] at this
        exact ⟨_, _, rfl, z1, this⟩
    obtain ⟨la, lxs, rfl, l1, lxl⟩ := hlw
    refine ⟨by show 1 ≤ sizeLine; decide, fun z hz => ⟨by show 1 ≤ sizeLine; decide, fun t1 ht1 => ?_⟩⟩
    have e0 := Ex.new (o := .tup [V.int 0]) hz
    have e1 := Ex.new (o := .tup [V.ref z]) ht1
    have hz1 := e1 _ _ (show (upd H z (.tup [.int 0])) z = some (.tup [.int 0]) from upd_same)
    have h1 : (upd (upd H z (.tup [.int 0])) t1 (.tup [V.ref z])) t1 = some (.tup [V.ref z]) := upd_same
    have e01 := e0.trans e1
    generalize upd (upd H z (.tup [.int 0])) t1 (.tup [V.ref z]) = H1 at *
    refine t_emRep (K := K) (n := rows.length - 1) (fun H2 e2 => ?_) (by omega) fun t e H2 e2 he ht => ?_
    · have hl2 := (e01.trans e2) _ _ l1
      exact ev_is (ev_op (ev_lenT (K := K) (ev_var (i := 0) rfl) (st_of hl2)) ev_c rv_I0) (by rw [lxl, show ((rows.length : Int) - 1) = ((rows.length - 1 : Nat) : Int) by omega])
    refine ⟨t1, t, [.ref z], List.replicate (rows.length - 1) (.ref e), rfl, rfl, st_of (e2 _ _ h1), st_of ht, by rw [List.length_replicate, sizeLine_eq]; show 1 + _ ≤ _; omega, (fun z => by cases z), fun _ z => ?_, fun _ _ b hb => ?_⟩
    · exfalso
      have := congrArg List.length z
      rw [List.length_replicate] at this
      simp at this
      omega
    have e3 := Ex.new (o := .tup ([V.ref z] ++ List.replicate (rows.length - 1) (.ref e))) hb
    have hb3 : (upd H2 b (.tup ([V.ref z] ++ List.replicate (rows.length - 1) (.ref e)))) b = some (.tup ([V.ref z] ++ List.replicate (rows.length - 1) (.ref e))) := upd_same
    have he3 := e3 _ _ he
    generalize upd H2 b (.tup ([V.ref z] ++ List.replicate (rows.length - 1) (.ref e))) = H3 at *
    have e03 := (e01.trans e2).trans e3
    refine t_emRep (K := K) (n := (linesW rows).length) (fun H4 e4 => ?_) (by omega) fun t' e' H4 e4 he' ht' => ⟨by show 2 ≤ sizeLine; decide, fun T2 hT2 => ?_⟩
    · exact fun H5 e5 Q5 q5 => evln_lines (σ := start ["_law_lists_here"] [V.ref la]) rfl (hl.mono (e03.trans e4)) hG h8 h6 H5 e5 _ fun l us H6 e6 nl hl6 hus6 => ⟨l, us, rfl, .inl (sq_of hl6), by
        have := hus6.length
        rw [List.length_map] at this
        rw [this]
        exact q5 H6 e6⟩
    have e5 := Ex.new (o := .tup [V.ref b, .ref t']) hT2
    refine k _ _ ((e03.trans e4).trans e5) (.tup upd_same (.cons (.tup ((e4.trans e5) _ _ hb3) ?_) (.cons (.tup (e5 _ _ ht') (dqa_em (e5 _ _ he') _)) .nil)))
    exact .cons (wd_of (w := [0]) (((e2.trans e3).trans (e4.trans e5)) _ _ hz1)) (dqa_em ((e4.trans e5) _ _ he3) _)
end
end Wk

set_option Elab.async false
set_option linter.all false
set_option maxRecDepth 100000
set_option maxHeartbeats 1000000
namespace Wk
open PySem PySem.Spec PyProof.Rows L2 Evl
section
variable {P : Program} {w : World} {K : PySem.W.Frag} {mg : Str → Option Value} {base : Heap} {f : Addr} {fd : FuncData} {CW : Addr}
/-! _law_is_stand -/
def WS (rows : List (List Wy)) (x : Wy) : Prop := x.length ≤ 8 ∧ ∀ i ∈ x, 0 ≤ i ∧ i < (rows.length : Int)
theorem WyOk.ws {rows : List (List Wy)} {r : Nat} {x : Wy} (h : WyOk rows.length r x) : WS rows x := ⟨h.l8, h.rg⟩
theorem ws_nil (rows : List (List Wy)) : WS rows [] := ⟨by simp, fun i h => by cases h⟩
theorem restWS {rows : List (List Wy)} {p : Wy} (hG : GW rows) {x : Wy} (h : x ∈ restsW rows p) : WS rows x := by
  unfold restsW at h
  obtain ⟨w, hw, rfl⟩ := List.mem_map.mp h
  obtain ⟨hw, _⟩ := List.mem_filter.mp hw
  rw [List.getD_eq_getElem?_getD] at hw
  cases hr : rows[(p.getD 1 0).toNat]? with
  | none => rw [hr] at hw; cases hw
  | some row =>
    rw [hr] at hw
    have ok := hG.ok _ row hr w hw
    have := ok.l8
    exact ⟨by rw [List.length_drop]; omega, fun i hi => ok.rg i (List.mem_of_mem_drop hi)⟩
theorem restLen {rows : List (List Wy)} {p : Wy} (hG : GW rows) {x : Wy} (h : x ∈ restsW rows p) : x.length ≤ 8 := by
  unfold restsW at h
  obtain ⟨w, hw, rfl⟩ := List.mem_map.mp h
  obtain ⟨hw, _⟩ := List.mem_filter.mp hw
  rw [List.getD_eq_getElem?_getD] at hw
  cases hr : rows[(p.getD 1 0).toNat]? with
  | none => rw [hr] at hw; cases hw
  | some row =>
    rw [hr] at hw
    have := (hG.ok _ row hr w hw).l8
    rw [List.length_drop]
    omega
end
end Wk

set_option Elab.async false
set_option linter.all false
set_option maxRecDepth 100000
set_option maxHeartbeats 1000000
namespace Wk
open PySem PySem.Spec PyProof.Rows L2 Evl
/-! moves as mathematics -/
abbrev Stp := Wy ⊕ Nat
def stepD : Stp → PyData
  | .inl p => tellD p
  | .inr r => .tuple [.str "choose", .int (r : Int)]
def StpOk (rows : List (List Wy)) : Stp → Prop
  | .inl p => p ∈ linesW rows
  | .inr r => 1 ≤ r ∧ r < rows.length
def hrB (rows : List (List Wy)) (ks : List Wy) (r : Nat) (w : Wy) : Bool := decide (w.length = 2) || decide (ks.getD ((linesW rows).idxOf [w.getD 1 0, (r : Int)]) [] = w.drop 1)
def chooseW (rows : List (List Wy)) (ks : List Wy) (r : Nat) : Wy := ((rows.getD r []).find? (hrB rows ks r)).getD []
def tellW (rows : List (List Wy)) (ts : List Wy) (p : Wy) : Wy := if (p.getD 1 0 :: ts.getD (p.getD 0 0).toNat []) ∈ rows.getD (p.getD 1 0).toNat [] then ts.getD (p.getD 0 0).toNat [] else []
def mvW (rows : List (List Wy)) (ts ks : List Wy) : Stp → List Wy × List Wy
  | .inl p => (ts, ks.set ((linesW rows).idxOf p) (tellW rows ts p))
  | .inr r => (ts.set r (chooseW rows ks r), ks)
structure ShS (rows : List (List Wy)) (ts ks : List Wy) : Prop where
  tl : ts.length = rows.length
  kl : ks.length = (linesW rows).length
  t8 : ∀ x ∈ ts, WS rows x
  k8 : ∀ x ∈ ks, WS rows x
theorem idxOf_ne : ∀ {ls : List Wy} {p w : Wy} {m : Nat}, m < ls.idxOf p → ls[m]? = some w → w ≠ p
  | [], p, w, m, h, e => by cases e
  | x :: ls, p, w, m, h, e => by
    rw [List.idxOf_cons] at h
    by_cases c : x == p
    · rw [c] at h
      simp at h
    · have c' : (x == p) = false := by simpa using c
      rw [c'] at h
      cases m with
      | zero =>
        simp at e
        subst e
        intro z
        rw [z] at c
        simp at c
      | succ m => exact idxOf_ne (ls := ls) (by simpa using h) (by simpa using e)
theorem wy_sec {n r : Nat} {w : Wy} (h : WyOk n r w) (hl : w.length ≠ 2) : w.getD 1 0 ≠ 0 := by
  have l2 := h.l2
  have h1 : w.getD 1 0 = w[1] := by rw [List.getD_eq_getElem?_getD, List.getElem?_eq_getElem (show 1 < w.length by omega)]; rfl
  intro z
  rw [h1] at z
  have hlast := h.lt
  rw [List.getLast?_eq_getElem?, List.getElem?_eq_getElem (show w.length - 1 < w.length by omega)] at hlast
  injection hlast with hlast
  have := (List.getElem_inj h.nd).mp (z.trans hlast.symm)
  omega
theorem mem_setW {ts : List Wy} {i : Nat} {x : Wy} {y : Wy} (h : y ∈ ts.set i x) : y ∈ ts ∨ y = x := List.mem_or_eq_of_mem_set h
theorem ShS.mv {rows : List (List Wy)} {ts ks : List Wy} (hG : GW rows) (h : ShS rows ts ks) (s : Stp) : ShS rows (mvW rows ts ks s).1 (mvW rows ts ks s).2 := by
  cases s with
  | inl p =>
    refine ⟨h.tl, by show (ks.set _ _).length = _; rw [List.length_set]; exact h.kl, h.t8, fun x hx => ?_⟩
    rcases mem_setW hx with z | z
    · exact h.k8 x z
    · rw [z]
      unfold tellW
      split
      · rw [List.getD_eq_getElem?_getD]
        cases hq : ts[(p.getD 0 0).toNat]? with
        | none => exact ws_nil rows
        | some y => exact h.t8 y (List.mem_of_getElem? hq)
      · exact ws_nil rows
  | inr r =>
    refine ⟨by show (ts.set _ _).length = _; rw [List.length_set]; exact h.tl, h.kl, fun x hx => ?_, h.k8⟩
    rcases mem_setW hx with z | z
    · exact h.t8 x z
    · rw [z]
      unfold chooseW
      cases hq : (rows.getD r []).find? (hrB rows ks r) with
      | none => exact ws_nil rows
      | some w =>
        have hm := List.mem_of_find?_eq_some hq
        rw [List.getD_eq_getElem?_getD] at hm
        cases hr : rows[r]? with
        | none => rw [hr] at hm; cases hm
        | some row =>
          rw [hr] at hm
          exact (hG.ok r row hr w hm).ws
section
variable {K : PySem.W.Frag} {σ : L2.St} {H : Hp}
/-- lines.index((x, y)) -/
theorem ev_idxW {tl ty : TE} {L : Addr} {lls : List V} {ls : List Wy} {p : Wy} (hl : Ev tl σ H (.ref L)) (hL : H L = some (.lst lls)) (hd : DqA H lls (ls.map wd)) (hp : EvU ty σ H (p.map V.int)) (hm : p ∈ ls) : Ev (tBM K "list" (rIndexD K) tl (tCons ty tNil)) σ H (.int ((ls.idxOf p : Nat) : Int)) := fun H1 e Q q =>
  hl H1 e _ fun H2 e2 => ⟨.inl ⟨rfl, lls, sq_of ((e.trans e2) _ _ hL)⟩, hp H2 (e.trans e2) _ fun b H3 nb e3 hb => by
    have e03 := (e.trans e2).trans e3
    have hlt := List.idxOf_lt_length_iff.mpr hm
    refine ⟨L, .ref b, wd p, ls.map wd, ls.idxOf p, wd p, rfl, rfl, .lst (sq_of (e03 _ _ hL)) (DqA.dp (lay_wds ls) (hd.mono e03)), dp_of_wd (st_of hb), shaped_wds _, shaped_wd _, ?_, by rw [eqv_wd]; simp, fun m z' hmi hz => ?_, q H3 (e2.trans e3)⟩
    · rw [List.getElem?_map, List.getElem?_eq_getElem hlt, List.getElem_idxOf hlt]
      rfl
    · rw [List.getElem?_map] at hz
      cases hq : ls[m]? with
      | none => rw [hq] at hz; cases hz
      | some w =>
        rw [hq] at hz
        have e : z' = wd w := (Option.some.inj hz).symm
        subst e
        rw [eqv_wd]
        exact decide_eq_false (idxOf_ne hmi hq)⟩
/-- (v,) + t in row -/
theorem ev_inCat {tv tt tr : TE} {v : Int} {x : V} {w : Wy} {row : List Wy} {rv : V} (hv : Ev tv σ H (.int v)) (ht : Ev tt σ H x) (hx : Dq H x (wd w)) (hl : w.length ≤ 1000) (hr : Ev tr σ H rv) (hrow : Dq H rv (rd row)) :
    Ev (tOp (rInU K) (tOp (rCatA K) (tTup (tCons tv tNil)) tt) tr) σ H (.bl (decide ((v :: w) ∈ row))) := fun H1 e Q q => by
  refine hv H1 e _ fun H2 e2 => ⟨by show 1 ≤ sizeLine; decide, fun t1 ht1 => ?_⟩
  have e3 := Ex.new (o := .tup [V.int v]) ht1
  have h1 : (upd H2 t1 (.tup [V.int v])) t1 = some (.tup [V.int v]) := upd_same
  have e03 := (e.trans e2).trans e3
  generalize upd H2 t1 (.tup [V.int v]) = H3 at *
  refine ht H3 e03 _ fun H4 e4 => ?_
  obtain ⟨a, rfl, ha⟩ := wd_ref (hx.mono (e03.trans e4))
  have fin : ∀ (H5 : Hp) (b : Addr), Ex H4 H5 → H5 b = some (.tup ((v :: w).map V.int)) → tr σ H5 fun y H6 => rInU K (.ref b) y H6 Q := fun H5 b e5 hb => by
    have e05 := (e03.trans e4).trans e5
    refine hr H5 e05 _ fun H6 e6 => ?_
    refine ⟨wd (v :: w), row.map wd, dp_of_wd (st_of (e6 _ _ hb)), ?_, shaped_wd _, lay_wds row, ?_⟩
    · exact Dq.dp (by simp only [PyData.canLay0]; exact lay_wds row) (hrow.mono (e05.trans e6))
    · rw [any_wd]
      exact q H6 (((e2.trans e3).trans e4).trans (e5.trans e6))
  refine ⟨t1, a, [.int v], w.map V.int, rfl, rfl, st_of (e4 _ _ h1), st_of ha, by rw [List.length_map, sizeLine_eq]; show 1 + w.length ≤ _; omega, (fun z => by cases z), fun _ z => ?_, fun _ _ r hr => ?_⟩
  · have : w = [] := List.map_eq_nil_iff.mp z
    subst this
    exact fin H4 t1 (Ex.refl _) (e4 _ _ h1)
  · exact fin _ r (Ex.new hr) upd_same
/-- (tuple(takes), tuple(kept)) -/
theorem t_pairTup {i j : Nat} {A B : Addr} {us vs : List V} {ts ks : List Wy} {Q : VK} (hi : σ[i]? = some (some (.ref A))) (hj : σ[j]? = some (some (.ref B))) (hA : H A = some (.lst us)) (hB : H B = some (.lst vs)) (du : DqA H us (ts.map wd)) (dv : DqA H vs (ks.map wd)) (k : ∀ H' u, Ex H H' → Dq H' u (standD ts ks) → Q u H') :
    tTup (tCons (tCB (fun xs H Q => ∃ p ys, xs = [.ref p] ∧ ((SqL K H p ys ∧ ∀ l, H l = none → Q (.ref l) (upd H l (.tup ys))) ∨ (SqT K H p ys ∧ Q (.ref p) H))) (tCons (tVar i) tNil)) (tCons (tCB (fun xs H Q => ∃ p ys, xs = [.ref p] ∧ ((SqL K H p ys ∧ ∀ l, H l = none → Q (.ref l) (upd H l (.tup ys))) ∨ (SqT K H p ys ∧ Q (.ref p) H))) (tCons (tVar j) tNil)) tNil)) σ H Q := by
  refine ⟨.ref A, hi, A, us, rfl, .inl ⟨sq_of hA, fun t1 ht1 => ?_⟩⟩
  have e1 := Ex.new (o := .tup us) ht1
  refine ⟨.ref B, hj, B, vs, rfl, .inl ⟨sq_of (e1 _ _ hB), fun t2 ht2 => ⟨by show 2 ≤ sizeLine; decide, fun T hT => ?_⟩⟩⟩
  have e2 := Ex.new (o := .tup vs) ht2
  have e3 := Ex.new (o := .tup [V.ref t1, .ref t2]) hT
  exact k _ _ ((e1.trans e2).trans e3) (.tup upd_same (.cons (.tup ((e2.trans e3) _ _ upd_same) (du.mono ((e1.trans e2).trans e3))) (.cons (.tup (e3 _ _ upd_same) (dv.mono ((e1.trans e2).trans e3))) .nil)))
end
end Wk

set_option Elab.async false
set_option linter.all false
set_option maxRecDepth 100000
set_option maxHeartbeats 1000000
namespace Wk
open PySem PySem.Spec PyProof.Rows L2 Evl
theorem dqa_set {H : Hp} {v : V} {x : Wy} (hv : Dq H v (wd x)) : ∀ {us : List V} {ws : List Wy} (i : Nat), DqA H us (ws.map wd) → DqA H (us.set i v) ((ws.set i x).map wd)
  | [], [], _, _ => .nil
  | [], _ :: _, _, h => by cases h
  | _ :: _, [], _, h => by cases h
  | u :: us, w :: ws, 0, .cons _ t => .cons hv t
  | u :: us, w :: ws, i + 1, .cons h t => .cons h (dqa_set hv i t)
theorem el_listT {K : PySem.W.Frag} {σ : L2.St} {H : Hp} {te : TE} {a : Addr} {xs : List V} (h : Ev te σ H (.ref a)) (ha : H a = some (.tup xs)) : EvL (tCB (rListS K) (tCons te tNil)) σ H xs := fun H1 e Q q =>
  h H1 e _ fun H2 e2 => ⟨a, xs, rfl, .inr (st_of ((e.trans e2) _ _ ha)), fun l hl => q l _ (fresh_back e2 hl) (e2.trans (Ex.new hl)) upd_same⟩
theorem q_setLU {te ta tb : TE} {tz : TS} {D : Ends} {σ : L2.St} {H : Hp} {l : Addr} {xs ys : List V} {j : Nat} (hl : H l = some (.lst xs)) (h : EvU te σ H ys) (ho : Ev ta σ H (.ref l)) (hi : Ev tb σ H (.int (j : Int))) (hj : j < xs.length) (k : ∀ p H1, Ex H H1 → H1 p = some (.tup ys) → tz D σ (upd H1 l (.lst (xs.set j (.ref p))))) : tSeq (tAsg te (gSub ta tb rSetL)) tz D σ H :=
  h H (Ex.refl H) _ fun p H1 np e1 hp => ho H1 e1 _ fun H2 e2 => hi H2 (e1.trans e2) _ fun H3 e3 => ⟨l, xs, (j : Int), j, rfl, rfl, ((e1.trans e2).trans e3) l _ hl, ixN_nat hj, k p H3 ((e1.trans e2).trans e3) ((e2.trans e3) _ _ hp)⟩
/-- the first of a row that is heard, or () -/
def fstW (f : Wy → Bool) (row : List Wy) : Wy := (row.find? f).getD []
theorem fst_step {f : Wy → Bool} {row : List Wy} {i : Nat} {w : Wy} (h : row[i]? = some w) (hne : ∀ x ∈ row, x ≠ []) : fstW f (row.take (i + 1)) = if (f w && decide (fstW f (row.take i) = [])) = true then w else fstW f (row.take i) := by
  unfold fstW
  rw [take_snoc h, List.find?_append]
  cases hq : (row.take i).find? f with
  | some x =>
    have hx := hne x (List.mem_of_mem_take (List.mem_of_find?_eq_some hq))
    show x = if (f w && decide (x = [])) = true then w else x
    rw [decide_eq_false hx, Bool.and_false]
    rfl
  | none =>
    show ([w].find? f).getD [] = if (f w && decide (([] : Wy) = [])) = true then w else []
    rw [decide_eq_true rfl, Bool.and_true]
    cases hf : f w with
    | true => simp [hf]
    | false => simp [hf]
section
variable {P : Program} {w : World} {K : PySem.W.Frag} {mg : Str → Option Value} {base : Heap} {f : Addr} {fd : FuncData}
/-! _law_moved -/
def spMoved : Sp := fun vs H Q _ => ∃ (lv sv stv : V) (L : Addr) (lls : List V) (rows : List (List Wy)) (ts ks : List Wy) (s : Stp), vs = [lv, .ref L, sv, stv] ∧ Dq H lv (pd rows) ∧ GW rows ∧ rows.length ≤ 8 ∧ (∀ row ∈ rows, row.length ≤ 6) ∧ H L = some (.lst lls) ∧ DqA H lls ((linesW rows).map wd) ∧ Dq H sv (standD ts ks) ∧ ShS rows ts ks ∧ Dq H stv (stepD s) ∧ StpOk rows s ∧
  ∀ H' u, Ex H H' → Dq H' u (standD (mvW rows ts ks s).1 (mvW rows ts ks s).2) → Q u H'
abbrev nMoved : List Str := ["_law_lists_here", "_law_lines_here", "_law_stand", "_law_step", "_law_takes", "_law_kept", "_law_place", "_law_router", "_law_way", "_law_heard"]
end
end Wk

set_option Elab.async false
set_option linter.all false
set_option maxRecDepth 100000
set_option maxHeartbeats 1000000
namespace Wk
open PySem PySem.Spec PyProof.Rows L2 Evl
/-! the pool beside what stays -/
def Em : Hp := fun _ => none
theorem Pl.em {G H : Hp} {p q : Addr} (h : Pl G H p q) : Pl Em H p q := h.less fun b o z => by cases z
structure Dv (p q : Addr) (H H' : Hp) : Prop where
  off : Off p q H H'
  pl : Pl Em H' p q
theorem Dv.refl {p q : Addr} {H : Hp} (h : Pl Em H p q) : Dv p q H H := ⟨Off.refl _ _ _, h⟩
theorem Dv.trans {p q : Addr} {H H1 H2 : Hp} (a : Dv p q H H1) (b : Dv p q H1 H2) : Dv p q H H2 := ⟨a.off.trans b.off, b.pl⟩
theorem Dv.ext {p q : Addr} {H H1 H2 : Hp} (a : Dv p q H H1) (e : Ex H1 H2) : Dv p q H H2 := ⟨a.off.trans (.ex e), a.pl.ext e⟩
theorem Dv.draw {p q : Addr} {H H1 H2 : Hp} (a : Dv p q H H1) (h : Pl (Hd H1 p q) H2 p q) : Dv p q H H2 := ⟨a.off.trans h.off, h.em⟩
theorem Dv.mut {p q A : Addr} {H H1 : Hp} {o : HO} (a : Dv p q H H1) (g : H A = none) (np : A ≠ p) (nq : A ≠ q) : Dv p q H (upd H1 A o) :=
  ⟨fun b u b1 b2 hb => by
    rw [upd_ne (fun z => by rw [z, g] at hb; cases hb)]
    exact a.off b u b1 b2 hb, a.pl.mut rfl np nq⟩
theorem Dv.kp {p q : Addr} {H H' : Hp} (a : Dv p q H H') (hP : Pl Em H p q) : Kp H H' := by
  obtain ⟨_, _, h1, h2, _⟩ := hP.at_
  exact Kp.off h1 h2 a.off
/-- one of a list, of a tuple, drawn -/
theorem t_pickL {K : PySem.W.Frag} {σ : L2.St} {H : Hp} {Q : VK} {p q A : Addr} {i : Nat} {xs : List V} (hv : σ[i]? = some (some (.ref A))) (hA : H A = some (.lst xs)) (np : A ≠ p) (nq : A ≠ q) (h0 : 0 < xs.length) (h9 : xs.length ≤ 1000) (hs : σ[0]? = some (some (.ref p))) (hP : Pl Em H p q)
    (k : ∀ (H' : Hp) (j : Nat) (x : V), Dv p q H H' → xs[j]? = some x → Q x H') : tOp (rIxL K) (tVar i) (tCall spDraw [] E0 (tCons (tVar 0) (tCons (tCB (rLenS K) (tCons (tVar i) tNil)) tNil))) σ H Q :=
  ⟨.ref A, hv, .ref p, hs, (ev_len (K := K) (ev_var hv) (sq_of hA) : Ev _ σ H (.int (xs.length : Int))) H (Ex.refl _) _ fun H1 e1 => ⟨Hd H1 p q, p, q, (xs.length : Int), rfl, (hP.ext e1).hd, by omega, by omega, fun H2 j h2 hj0 hj1 => by
    obtain ⟨m, rfl⟩ : ∃ m : Nat, j = (m : Int) := ⟨j.toNat, by omega⟩
    have hm : m < xs.length := by omega
    exact ⟨A, xs, (m : Int), xs[m], rfl, rfl, sq_of (h2.off _ _ np nq (e1 _ _ hA)), atI_nat (List.getElem?_eq_getElem hm), k H2 m _ (((Dv.refl hP).ext e1).draw h2) (List.getElem?_eq_getElem hm)⟩⟩⟩
theorem t_pickT {K : PySem.W.Frag} {σ : L2.St} {H : Hp} {Q : VK} {p q A : Addr} {i : Nat} {xs : List V} (hv : σ[i]? = some (some (.ref A))) (hA : H A = some (.tup xs)) (h0 : 0 < xs.length) (h9 : xs.length ≤ 1000) (hs : σ[0]? = some (some (.ref p))) (hP : Pl Em H p q)
    (k : ∀ (H' : Hp) (j : Nat) (x : V), Dv p q H H' → xs[j]? = some x → Q x H') : tOp (rIxT K) (tVar i) (tCall spDraw [] E0 (tCons (tVar 0) (tCons (tCB (rLenS K) (tCons (tVar i) tNil)) tNil))) σ H Q :=
  ⟨.ref A, hv, .ref p, hs, (ev_lenT (K := K) (ev_var hv) (st_of hA) : Ev _ σ H (.int (xs.length : Int))) H (Ex.refl _) _ fun H1 e1 => ⟨Hd H1 p q, p, q, (xs.length : Int), rfl, (hP.ext e1).hd, by omega, by omega, fun H2 j h2 hj0 hj1 => by
    obtain ⟨m, rfl⟩ : ∃ m : Nat, j = (m : Int) := ⟨j.toNat, by omega⟩
    have hm : m < xs.length := by omega
    have dv := ((Dv.refl hP).ext e1).draw h2
    exact ⟨A, xs, (m : Int), xs[m], rfl, rfl, st_of ((dv.kp hP).tup hA), atI_nat (List.getElem?_eq_getElem hm), k H2 m _ dv (List.getElem?_eq_getElem hm)⟩⟩⟩
theorem s_appC {K : PySem.W.Frag} {i : Nat} {A : Addr} {us : List V} {te : TE} {D : Ends} {σ : L2.St} {H : Hp} (hv : σ[i]? = some (some (.ref A))) (hA : H A = some (.lst us)) (h : te σ H fun x H1 => rAppend (.ref A) [x] H1 fun _ H2 => D.nx σ H2) : tDrop (tBM K "list" rAppend (tVar i) (tCons te tNil)) D σ H := ⟨.ref A, hv, .inl ⟨rfl, us, sq_of hA⟩, h⟩
theorem q_forRO {ta : TA} {j : Nat} {tu tz : TS} {D : Ends} {σ : L2.St} {H : Hp} (FF : Nat → Hp → Prop) (h : ∀ R : List V → Hp → Prop, (∀ (n : Nat) H1, n ≤ 1000 → FF n H1 → R [.int (n : Int)] H1) → ta σ H R) (Pv : Nat → Nat → L2.St → Hp → Prop) (h0 : ∀ n H1, FF n H1 → Pv n 0 σ H1)
    (hs : ∀ n (i : Nat) σ' H', i < n → Pv n i σ' H' → tu { D with nx := Pv n (i + 1), ct := Pv n (i + 1), bk := tz D } (σ'.set j (some (.int (i : Int)))) H') (hd : ∀ n σ' H', Pv n n σ' H' → tz D σ' H') : tSeq (tFor (iRng1 ta) (gName j) tu) tz D σ H :=
  h _ fun n H1 hn hF => ⟨(n : Int), rfl, by omega, by omega, for_it (D := { D with nx := tz D }) (walk_range (lo := 0) (n := ((n : Int)).toNat)) (Pv n) (h0 n H1 hF) (fun _ _ _ _ _ => trivial) (fun i x σ' H2 H3 hi pv y => by
    obtain ⟨rfl, rfl⟩ := y
    show gName j (.int ((0 : Int) + (i : Int))) _ _ _
    rw [Int.zero_add]
    exact hs n i σ' _ (by omega) pv) (fun σ' H' pv => hd n σ' H' (by rw [Int.toNat_natCast] at pv; exact pv))⟩
mutual
theorem dq_kp {H H' : Hp} (kp : Kp H H') : ∀ {d : PyData} {v : V}, noL d = true → Dq H v d → Dq H' v d
  | .none, _, _, .non => .non
  | .bool _, _, _, .bl b => .bl b
  | .int _, _, _, .int i => .int i
  | .str _, _, _, .str x => .str x
  | .list _, _, h, .lst _ _ => by simp [noL] at h
  | .tuple _, _, h, .tup a b => .tup (kp.tup a) (dqa_kp kp (by simpa [noL] using h) b)
  | .dict _, _, h, .dic _ => by simp [noL] at h
theorem dqa_kp {H H' : Hp} (kp : Kp H H') : ∀ {ds : List PyData} {vs : List V}, noLA ds = true → DqA H vs ds → DqA H' vs ds
  | [], _, _, .nil => .nil
  | d :: ds, _, h, .cons a t => by
    have h' : noL d = true ∧ noLA ds = true := by
      have z : (noL d && noLA ds) = true := h
      simpa using z
    exact .cons (dq_kp kp h'.1 a) (dqa_kp kp h'.2 t)
end
theorem noL_stand (ts ks : List Wy) : noL (standD ts ks) = true := by
  unfold standD
  simp only [noL, noLA, noLA_wds, Bool.and_true]
theorem noLA_steps (rows : List (List Wy)) : noLA (stepsD rows) = true := noLA_all fun d hd => by
  unfold stepsD at hd
  rcases List.mem_append.mp hd with z | z
  · obtain ⟨p, _, rfl⟩ := List.mem_map.mp z
    unfold tellD
    show noLA (PyData.str "tell" :: p.map PyData.int) = true
    exact noLA_all fun d hd => by
      rcases List.mem_cons.mp hd with z | z
      · rw [z]; rfl
      · obtain ⟨i, _, rfl⟩ := List.mem_map.mp z
        rfl
  · obtain ⟨j, _, rfl⟩ := List.mem_map.mp z
    rfl
theorem steps_at {rows : List (List Wy)} (h2 : 2 ≤ rows.length) {i : Nat} {d : PyData} (h : (stepsD rows)[i]? = some d) : ∃ s : Stp, d = stepD s ∧ StpOk rows s := by
  have hm := List.mem_of_getElem? h
  unfold stepsD at hm
  rcases List.mem_append.mp hm with z | z
  · obtain ⟨p, hp, rfl⟩ := List.mem_map.mp z
    exact ⟨.inl p, rfl, hp⟩
  · obtain ⟨j, hj, rfl⟩ := List.mem_map.mp z
    have := List.mem_range.mp hj
    exact ⟨.inr (j + 1), rfl, by omega, by omega⟩
end Wk

set_option Elab.async false
set_option linter.all false
set_option maxRecDepth 100000
set_option maxHeartbeats 4000000
namespace Wk
open PySem PySem.Spec PyProof.Rows L2 Evl
/-! an own error with one field of any name -/
def spXF (C : Addr) (n : Str) : Sp := fun vs H Q _ => ∃ (a : Addr) (y : V), vs = [.ref a, y] ∧ H a = some (exo a C none) ∧ ∀ dx, H dx = none → dx ≠ a → Q .non (upd (upd H dx (exd dx [(n, y)])) a (exo a C (some dx)))
theorem mk_errF {C : Addr} {n : Str} {te : TE} {σ : L2.St} {H : Hp} {y : V} {W : XK} (h : Ev te σ H y) (k : ∀ d H', H d = none → Ex H H' → H' d = some (.xd [(n, y)]) → W (.ref C) (some d) H') : tMkO C (spXF C n) [] (tCons te tNil) σ H W := by
  refine h H (Ex.refl H) _ fun H1 e => ⟨by show 1 ≤ 1000; decide, fun a ha => ?_⟩
  refine ⟨a, y, rfl, upd_same, fun dx hd hne => ⟨rfl, dx, [(n, y)], upd_same, by rw [upd_ne hne, upd_same], ?_, ?_⟩⟩
  · rw [upd_ne hne] at hd
    exact hd
  · have hd1 : H1 dx = none := by rw [upd_ne hne] at hd; exact hd
    refine k dx _ (fresh_back e hd1) (fun b o hb => ?_) upd_same
    have hb1 := e b o hb
    have nb : b ≠ dx := ne_of_none hb1 hd1
    have na : b ≠ a := ne_of_none hb1 ha
    rw [upd_ne nb, del_ne na, upd_ne na, upd_ne nb, upd_ne na]
    exact hb1
structure ErrF (P : Program) (w : World) (K : PySem.W.Frag) (mg : Str → Option Value) (base : Heap) (x : Str) (C : Addr) (n : Str) : Prop where
  g : mg x = some (.ref C)
  oex : OexC K C
  xf : XfC K C
  no : PySem.W.findIn K (.ref C) n = some none
  te : PySem.W.exmOne K (.ref C) (.ref C) = some true
  ini : ∃ (fI : Addr) (fd : FuncData), PySem.W.findIn K (.ref C) "__init__" = some (some (.ref fI)) ∧ PySem.W.typeIn K (.ref fI) = some (.type "function") ∧ FnOk P w K mg base CX0 1 fI fd ["self", n] (spXF C n) ∧ Binds K fd ["self", n] []
theorem pmk_errF {X : Cx} {x n : Str} {C : Addr} {e : Expr} {ta : TA} {p pos : Pos} (T : ErrF X.prog X.w X.K X.mg X.base x C n) (hr : Room 2 X.A) (hg : Gl X x) (ha : PA X [e] ta)
    (hdb : (x == ("__debug__" : Str)) = false := by decide) (he : starEach [e] X.env = (false, eval e X.env) :: starEach [] X.env := by rfl) (hpl : (backTo pos (starEach [] X.env)).any (·.1) = false := by rfl) : PMk X (.Call (.Name x p) [e] [] pos) (tMkO C (spXF C n) [] ta) := by
  obtain ⟨fI, fd, h1, h2, h3, h4⟩ := T.ini
  exact pmk_oex T.oex h1 h2 h3 hr h4 .nil pass0 hg T.g ha hdb he hpl
section
variable {P : Program} {w : World} {K : PySem.W.Frag} {mg : Str → Option Value} {base : Heap} {f : Addr} {fd : FuncData}
end
end Wk

set_option Elab.async false
set_option linter.all false
set_option maxRecDepth 100000
set_option maxHeartbeats 4000000
namespace Wk
open PySem PySem.Spec PyProof.Rows L2 Evl
end Wk
namespace L2
open PySem PySem.Spec PyProof.Rows
def rRepU (K : PySem.W.Frag) : R2 := fun x y H Q => ∃ l k xs, x = .ref l ∧ y = .int k ∧ SqT K H l xs ∧ xs ≠ [] ∧ 1 ≤ k ∧ k ≤ 1000 ∧ xs.length ≤ 1000 ∧ (k = 1 → Q (.ref l) H) ∧ (2 ≤ k → ∀ p, H p = none → Q (.ref p) (upd H p (.tup (List.replicate k.toNat xs).flatten)))
theorem op_repU {X : Cx} {K : PySem.W.Frag} (hK : X.K = K) : OpR X (binaryOp .Mult) (rRepU K) := by
  subst hK
  intro pins s σ H x y v u Q I rx ry h
  obtain ⟨l, k, xs, rfl, rfl, hT, hne, h1, h2, hz, q1, q⟩ := h
  by_cases hk : 2 ≤ k
  · exact op_repT pins s σ H (.ref l) (.int k) v u Q I rx ry ⟨l, k, xs, rfl, rfl, hT, hne, hk, h2, hz, q hk⟩
  · have e : k = 1 := by omega
    subst e
    cases rx
    obtain ⟨t, rfl⟩ := ry
    obtain ⟨its, r, ⟨⟨cls, dd, data, sl⟩, ho, hc, n, hd⟩, hs⟩ := I.tuple hT
    simp only at hc hd
    subst hc hd
    exact wpAny_binaryOp_repeat_ref (T := "tuple") (U := "int") (by decide) ⟨_, ho, rfl⟩ (fun s' => typeIs_int s' 1 t) noFill_tuple_mul F.fills_int_mul F.slot_int_rmul repeat_tuple F.slot_int_index.lookup
      (call_meets F.slot_int_rmul (typeIs_int s 1 t) F.entry_int_rmul (F.args_int_rmul_2 _ _) (int_rmul_tuple 1 t l its.toArray n dd sl)
        ⟨ho, rfl, ⟨_, ho, rfl⟩, call_meets F.slot_tuple_mul ⟨_, ho, rfl⟩ F.entry_tuple_mul (F.args_tuple_mul_2 _ _) (Wk.tuple_mul1 l its.toArray n dd sl t) ⟨ho, ⟨.ref l, H, I, rfl, q1 rfl⟩⟩⟩)
end L2
namespace Wk
open PySem PySem.Spec PyProof.Rows L2 Evl
theorem set_cut {xs : List V} {i : Nat} {v : V} (h : i < xs.length) : cutV xs none (some (i : Int)) ++ [v] ++ cutV xs (some ((i : Int) + 1)) none = xs.set i v := by
  rw [cut_to xs i (by omega), show ((i : Int) + 1) = ((i + 1 : Nat) : Int) by omega, cut_from xs (i + 1) (by omega), List.set_eq_take_append_cons_drop, if_pos h, List.append_assoc]
  rfl
theorem ip_mul {X : Cx} : PIp X .Mult (fun x y H Q => ∃ i j, x = .int i ∧ y = .int j ∧ CMul i j ∧ Q (.int (i * j)) H) := by
  intro pins s σ H x y v u Q I r1 r2 h
  obtain ⟨i, j, e1, e2, c, q⟩ := h
  subst e1; subst e2
  obtain ⟨t, rfl⟩ := r1
  obtain ⟨t', rfl⟩ := r2
  exact imul_int ⟨.int _, H, I.tok _, ⟨_, rfl⟩, q⟩ c.ok
section
variable {P : Program} {w : World} {K : PySem.W.Frag} {mg : Str → Option Value} {base : Heap} {f : Addr} {fd : FuncData} {CW CN CT : Addr}
/-! replaced -/
def spRepl : Sp := fun vs H Q _ => ∃ (a : Addr) (i : Nat) (v : V) (xs : List V), vs = [.ref a, .int (i : Int), v] ∧ H a = some (.tup xs) ∧ i < xs.length ∧ xs.length ≤ 1000 ∧ ∀ H' t, Ex H H' → H' t = some (.tup (xs.set i v)) → Q (.ref t) H'
abbrev nRepl : List Str := ["row", "place", "item"]
/-! refuse_more_takings -/
theorem chW_len {rows : List (List Wy)} (hG : GW rows) {i : Nat} {row : List Wy} (h : rows[i]? = some row) : (chW rows i).length = row.length + 1 := by
  unfold chW
  by_cases c : i = 0
  · subst c
    rw [if_pos rfl, hG.goal row h]
    rfl
  · rw [if_neg c, List.getD_eq_getElem?_getD, h, List.length_append]
    rfl
def spRMT (CW CT : Addr) : Sp := fun vs H Q E => ∃ (wv : V) (most : Int) (rows : List (List Wy)), vs = [wv, .int most] ∧ WO CW H wv rows ∧ ((tks rows : Int) ≤ most → ∀ H', Ex H H' → Q .non H') ∧
  (most < (tks rows : Int) → ∀ dx H', H dx = none → Ex H H' → H' dx = some (.xd [("most", .int most)]) → E (.ref CT) (some dx) H')
abbrev nRMT : List Str := ["wishes", "most", "many", "router"]
theorem tks_le {rows : List (List Wy)} (h6 : ∀ row ∈ rows, row.length ≤ 6) : ∀ i, i ≤ 8 → tks (rows.take i) ≤ 7 ^ i := by
  intro i
  induction i with
  | zero => intro _; exact Nat.le_refl _
  | succ i ih =>
    intro hi
    have h := ih (by omega)
    cases e : rows[i]? with
    | none =>
      have hl := List.getElem?_eq_none_iff.mp e
      rw [List.take_of_length_le (by omega)]
      rw [List.take_of_length_le (by omega)] at h
      rw [Nat.pow_succ]
      omega
    | some row =>
      rw [tks_take e, Nat.pow_succ]
      exact Nat.mul_le_mul h (by have := h6 row (List.mem_of_getElem? e); omega)
/-! no_items -/
def spNoI (K : PySem.W.Frag) (CW : Addr) : Sp := fun vs H Q _ => ∃ (wv : V) (rows : List (List Wy)), vs = [wv] ∧ WO CW H wv rows ∧ ∀ H' b xs, Ex H H' → H' b = some (.tup xs) → DpAll K H' xs ((ptk rows.length [[0]]).map od) → Q (.ref b) H'
theorem dpa_non {K : PySem.W.Frag} {H : Hp} : ∀ n, DpAll K H (List.replicate n V.non) ((List.replicate n (none : Option Wy)).map od)
  | 0 => .nil
  | n + 1 => .cons .non (dpa_non n)
end
end Wk

set_option Elab.async false
set_option linter.all false
set_option maxRecDepth 100000
set_option maxHeartbeats 4000000
namespace Wk
open PySem PySem.Spec PyProof.Rows L2 Evl
theorem pi_listK {X : Cx} {K : PySem.W.Frag} {tg l : Expr} {tl : TE} (hK : X.K = K) (hl : PE X l tl) : PI X tg l (iList K tl) := by
  subst hK
  exact pi_list hl
theorem q_asgW_last {te : TE} {D : Ends} {σ : L2.St} {H : Hp} {i : Nat} (h : te σ H fun x H1 => D.nx (σ.set i (some x)) H1) : tAsg te (gName i) D σ H := h
theorem asc_ex {ws : List Wy} (nd : ws.Nodup) : ∃ as, Asc ltW as ∧ as.Perm ws := by
  have hperm := List.mergeSort_perm ws (fun p q => !ltW q p)
  have hpw := List.pairwise_mergeSort (le := fun p q : Wy => !ltW q p) (fun a b c h1 h2 => ?_) (fun a b => ?_) ws
  · exact ⟨_, asc_of sto_W (hpw.imp fun {p q} z => by simpa using z) (hperm.nodup_iff.mpr nd), hperm⟩
  · simp only [Bool.not_eq_true'] at h1 h2 ⊢
    cases hc : ltW c a with
    | false => rfl
    | true =>
      by_cases e1 : a = b
      · rw [e1] at hc; rw [h2] at hc; cases hc
      rcases sto_W.tri a b e1 with z | z
      · rw [sto_W.tr _ _ _ hc z] at h2
        cases h2
      · rw [h1] at z
        cases z
  · by_cases e1 : a = b
    · rw [e1, sto_W.irr]
      rfl
    · rcases sto_W.tri a b e1 with z | z
      · rw [sto_W.asym z]
        rfl
      · rw [sto_W.asym z]
        simp
/-! rows of items in the heap -/
def RowAt (K : PySem.W.Frag) (n : Nat) (H : Hp) (u : V) (pre : List Wy) : Prop := ∃ b xs, u = .ref b ∧ H b = some (.tup xs) ∧ DpAll K H xs ((ptk n pre).map od)
theorem RowAt.up {K : PySem.W.Frag} {n : Nat} {H H' : Hp} {u : V} {pre : List Wy} (e : Ex H H') (h : RowAt K n H u pre) : RowAt K n H' u pre := by
  obtain ⟨b, xs, h1, h2, h3⟩ := h
  exact ⟨b, xs, h1, e _ _ h2, DpAll.up e h3⟩
theorem rd_off {D a : Addr} {H : Hp} {o : HO} {l : List V} (hD : H D = some (.lst l)) (h : Rd H a o) (ho : ∀ l, o ≠ .lst l) : Rd (off D H) a o := by
  have n : a ≠ D := fun z => by
    subst z
    rcases h with h | ⟨x, h⟩
    · rw [h] at hD
      injection hD with hD
      exact ho l hD
    · rw [h] at hD
      cases hD
  rcases h with h | ⟨x, h⟩
  · exact .inl (by rw [off_at n]; exact h)
  · exact .inr ⟨x, by rw [off_at n]; exact h⟩
theorem st_off {K : PySem.W.Frag} {D a : Addr} {H : Hp} {l xs : List V} (hD : H D = some (.lst l)) (h : SqT K H a xs) : SqT K (off D H) a xs := h.imp (fun h => rd_off hD h (fun l z => by cases z)) id
theorem dp_off {K : PySem.W.Frag} {D : Addr} {H : Hp} {l : List V} {v : V} {o : Option Wy} (hD : H D = some (.lst l)) (h : Dp K H v (od o)) : Dp K (off D H) v (od o) := by
  cases o with
  | none =>
    have e := dp_od_none h
    subst e
    exact .non
  | some w =>
    obtain ⟨a, rfl, ha⟩ := dp_wd h
    exact dp_of_wd (st_off hD ha)
theorem dpa_off {K : PySem.W.Frag} {D : Addr} {H : Hp} {l : List V} (hD : H D = some (.lst l)) : ∀ {xs : List V} {t : List (Option Wy)}, DpAll K H xs (t.map od) → DpAll K (off D H) xs (t.map od)
  | [], [], _ => .nil
  | [], _ :: _, h => by cases h
  | _ :: _, [], h => by cases h
  | x :: xs, o :: t, h => by
    cases h with
    | cons h1 h2 => exact .cons (dp_off hD h1) (dpa_off hD h2)
theorem RowAt.off {K : PySem.W.Frag} {n : Nat} {D : Addr} {H : Hp} {l : List V} {u : V} {pre : List Wy} (hD : H D = some (.lst l)) (h : RowAt K n H u pre) : RowAt K n (off D H) u pre := by
  obtain ⟨b, xs, h1, h2, h3⟩ := h
  exact ⟨b, xs, h1, by rw [off_at (fun z => by rw [z, hD] at h2; cases h2)]; exact h2, dpa_off hD h3⟩
inductive RwT (K : PySem.W.Frag) (n : Nat) (H : Hp) : List V → List (List Wy) → Prop
  | nil : RwT K n H [] []
  | cons {u : V} {pre : List Wy} {us : List V} {L : List (List Wy)} : RowAt K n H u pre → RwT K n H us L → RwT K n H (u :: us) (pre :: L)
theorem RwT.up {K : PySem.W.Frag} {n : Nat} {H H' : Hp} {us : List V} {L : List (List Wy)} (e : Ex H H') (h : RwT K n H us L) : RwT K n H' us L := by
  induction h with
  | nil => exact .nil
  | cons a b ih => exact .cons (a.up e) ih
theorem RwT.off {K : PySem.W.Frag} {n : Nat} {D : Addr} {H : Hp} {l : List V} {us : List V} {L : List (List Wy)} (hD : H D = some (.lst l)) (h : RwT K n H us L) : RwT K n (off D H) us L := by
  induction h with
  | nil => exact .nil
  | cons a b ih => exact .cons (a.off hD) ih
theorem RwT.len {K : PySem.W.Frag} {n : Nat} {H : Hp} {us : List V} {L : List (List Wy)} (h : RwT K n H us L) : us.length = L.length := by
  induction h with
  | nil => rfl
  | cons a b ih => rw [List.length_cons, List.length_cons, ih]
theorem RwT.app {K : PySem.W.Frag} {n : Nat} {H : Hp} {us vs : List V} {L M : List (List Wy)} (h : RwT K n H us L) (k : RwT K n H vs M) : RwT K n H (us ++ vs) (L ++ M) := by
  induction h with
  | nil => exact k
  | cons a b ih => exact .cons a ih
theorem RwT.at {K : PySem.W.Frag} {n : Nat} {H : Hp} {us : List V} {L : List (List Wy)} (h : RwT K n H us L) : ∀ {i : Nat} {u : V}, us[i]? = some u → ∃ pre, L[i]? = some pre ∧ RowAt K n H u pre := by
  induction h with
  | nil => intro i u e; simp at e
  | cons a b ih =>
    intro i u e
    cases i with
    | zero =>
      simp at e
      subst e
      exact ⟨_, rfl, a⟩
    | succ i =>
      obtain ⟨pre, h1, h2⟩ := ih (by simpa using e)
      exact ⟨pre, by simpa using h1, h2⟩
theorem grown_rw {K : PySem.W.Frag} {n : Nat} {F : Nat → List Wy} {H : Hp} : ∀ {js : List Nat} {us : List V}, Grown (fun i u H => RowAt K n H u (F i)) H js us → RwT K n H us (js.map F)
  | [], us, h => by
    rw [show us = [] from h]
    exact .nil
  | j :: js, us, h => by
    obtain ⟨u, r, rfl, h2, h3⟩ := h
    exact .cons h2 (grown_rw h3)
theorem row_good {K : PySem.W.Frag} {n : Nat} {F : Nat → List Wy} : GoodY (fun i u H => RowAt K n H u (F i)) := ⟨fun i u H H' e h => h.up e, fun i u H D l hD h => h.off hD⟩
theorem map_getD {α β : Type} (f : α → β) (d : α) : ∀ l : List α, (List.range l.length).map (fun i => f (l.getD i d)) = l.map f := fun l => by
  apply List.ext_getElem
  · simp
  · intro i h1 h2
    have h3 : i < l.length := by simpa using h1
    simp [List.getD_eq_getElem?_getD, List.getElem?_eq_getElem h3]
theorem filter_getD {α : Type} (p : α → Bool) (d : α) (l : List α) : ((List.range l.length).filter fun i => p (l.getD i d)).map (fun i => l.getD i d) = l.filter p := by
  have h := map_getD id d l
  rw [List.map_id] at h
  conv => rhs; rw [← h]
  rw [List.filter_map]
  rfl
theorem dpa_set {K : PySem.W.Frag} {H : Hp} {v : V} {d : PyData} (hv : Dp K H v d) : ∀ {xs : List V} {ds : List PyData} (i : Nat), DpAll K H xs ds → DpAll K H (xs.set i v) (ds.set i d)
  | [], [], _, _ => .nil
  | [], _ :: _, _, h => by cases h
  | _ :: _, [], _, h => by cases h
  | x :: xs, y :: ds, 0, h => by
    cases h with
    | cons h1 h2 => exact .cons hv h2
  | x :: xs, y :: ds, i + 1, h => by
    cases h with
    | cons h1 h2 => exact .cons h1 (dpa_set hv i h2)
theorem chW_nd {rows : List (List Wy)} (hG : GW rows) {i : Nat} (hi : i < rows.length) : (chW rows i).Nodup := by
  have hrw : rows[i]? = some rows[i] := List.getElem?_eq_getElem hi
  unfold chW
  split
  · simp
  · rw [List.getD_eq_getElem?_getD, hrw]
    refine List.nodup_append.mpr ⟨hG.nd i _ hrw, by simp, fun a ha b hb => ?_⟩
    rw [List.mem_singleton.mp hb]
    intro z
    have := (hG.ok i _ hrw a ha).l2
    rw [z] at this
    simp at this
theorem chW_two {rows : List (List Wy)} (hG : GW rows) {i : Nat} (hi : i < rows.length) (h : 2 ≤ (chW rows i).length) : ∃ w rest, chW rows i = w :: rest ∧ w ≠ [] ∧ [] ∈ rest := by
  have hrw : rows[i]? = some rows[i] := List.getElem?_eq_getElem hi
  unfold chW at h ⊢
  by_cases c : i = 0
  · rw [if_pos c] at h
    simp at h
  · rw [if_neg c, List.getD_eq_getElem?_getD, hrw] at h ⊢
    show ∃ w rest, rows[i] ++ [[]] = w :: rest ∧ _
    have h' : 2 ≤ (rows[i] ++ [[]] : List Wy).length := h
    cases hr : rows[i] with
    | nil => rw [hr] at h'; simp at h'
    | cons w rest =>
      refine ⟨w, rest ++ [[]], rfl, fun z => ?_, by simp⟩
      have := (hG.ok i _ hrw w (by rw [hr]; exact List.mem_cons_self)).l2
      rw [z] at this
      simp at this
section
variable {P : Program} {w : World} {K : PySem.W.Frag} {mg : Str → Option Value} {base : Heap} {f : Addr} {fd : FuncData} {CW CN CT : Addr}
/-! followed_up -/
def spFol (K : PySem.W.Frag) (CW : Addr) : Sp := fun vs H Q _ => ∃ (wv iv : V) (r : Nat) (rows : List (List Wy)) (pre : List Wy), vs = [wv, iv, .int (r : Int)] ∧ WO CW H wv rows ∧ RowAt K rows.length H iv pre ∧ PreOk rows pre ∧ pre.length = r ∧ 1 ≤ r ∧ r < rows.length ∧
  ∀ H' l us ws, Ex H H' → H l = none → H' l = some (.lst us) → Asc ltW ws → ws.Perm (chW rows r) → RwT K rows.length H' us (fol rows ws pre) → Q (.ref l) H'
abbrev nFol : List Str := ["wishes", "items", "router", "rows", "item", "row"]
/-! [x for row in rows for x in f(row)] -/
theorem lc2_rows {tl tu te : TE} {i j n : Nat} {vs vs1 : List Nat} {σ : L2.St} {H : Hp} {a : Addr} {us : List V} {L : List (List Wy)} {Fo : List Wy → List (List Wy)} {Q : VK} (h : Ev tl σ H (.ref a)) (ha : H a = some (.lst us)) (hr : RwT K n H us L) (hz : (L.flatMap Fo).length ≤ 40000) (hz2 : ∀ pre ∈ L, (Fo pre).length ≤ 40000)
    (hw : ∀ x, wipe ((wipe σ vs).set i (some x)) vs = wipe σ vs) (hw1 : ∀ x y, wipe ((wipe ((wipe σ vs).set i (some x)) vs1).set j (some y)) vs1 = wipe ((wipe σ vs).set i (some x)) vs1)
    (hu : ∀ (u : V) (pre : List Wy) (H1 : Hp), Ex H H1 → pre ∈ L → RowAt K n H1 u pre → ∀ Q' : VK, (∀ H2 l ys, Ex H1 H2 → H1 l = none → H2 l = some (.lst ys) → RwT K n H2 ys (Fo pre) → Q' (.ref l) H2) → tu ((wipe σ vs).set i (some u)) H1 Q')
    (he : ∀ x y H1, Ev te ((wipe ((wipe σ vs).set i (some x)) vs1).set j (some y)) H1 y)
    (k : ∀ D H1 ys, H D = none → Ex H H1 → H1 D = some (.lst ys) → RwT K n H1 ys (L.flatMap Fo) → Q (.ref D) H1) :
    tLc2 (iList K tl) (gName i) tYes (iList K tu) (gName j) tYes te vs vs1 σ H Q := h H (Ex.refl _) _ fun H1 e1 => by
  have hul := hr.len
  refine ⟨a, rfl, ⟨us, sq_of (e1 _ _ ha)⟩, fun D hD => ?_⟩
  refine ⟨fun m z Hx => z = us.length - m ∧ m ≤ us.length ∧ Ex H1 Hx ∧ ∃ acc, Hx D = some (.lst acc) ∧ RwT K n (off D Hx) acc ((L.take m).flatMap Fo), ⟨us.length, by simp, Nat.zero_le _, Ex.new hD, [], upd_same, .nil⟩, ?_⟩
  rintro m z H2 ⟨rfl, hm, e2, acc, hD2, hacc⟩
  have s2 : SqL K H2 a us := sq_of (e2 _ _ (e1 _ _ ha))
  by_cases lt : m < us.length
  · refine .inr ⟨walk_list.goes m H2 lt s2, fun Hx => Ex H1 Hx ∧ ∃ acc, Hx D = some (.lst acc) ∧ RwT K n (off D Hx) acc ((L.take (m + 1)).flatMap Fo), fun Hx p => ⟨us.length - (m + 1), by omega, rfl, lt, p⟩, fun x H3 hy => ?_⟩
    obtain ⟨rfl, hx⟩ := walk_list.yields m H2 x H3 lt s2 hy
    obtain ⟨pre, hp1, hp2⟩ := hr.at hx
    have hpm := List.mem_of_getElem? hp1
    have hft : (L.take (m + 1)).flatMap Fo = (L.take m).flatMap Fo ++ Fo pre := by
      rw [take_snoc hp1, List.flatMap_append]
      simp
    rw [hft]
    have hlen : ((L.take m).flatMap Fo).length + (Fo pre).length ≤ 40000 := by
      have h1 : ((L.take (m + 1)).flatMap Fo).length ≤ (L.flatMap Fo).length := by
        conv => rhs; rw [← List.take_append_drop (m + 1) L, List.flatMap_append, List.length_append]
        omega
      rw [hft, List.length_append] at h1
      omega
    generalize (L.take m).flatMap Fo = A at *
    refine ⟨hw _, et_yes H3 (Ex.refl _) _ fun H4 e4 => ?_⟩
    rw [if_pos rfl]
    refine hu x pre H4 ((e1.trans e2).trans e4) hpm (hp2.up ((e1.trans e2).trans e4)) _ fun H5 l ys e5 nl hl hys => ?_
    have e45 := e4.trans e5
    have hD5 := e45 _ _ hD2
    have nlD : l ≠ D := fun z => by rw [z, e4 _ _ hD2] at nl; cases nl
    have hyl := hys.len
    refine ⟨l, rfl, ⟨ys, sq_of hl⟩, fun q z' Hx => z' = ys.length - q ∧ q ≤ ys.length ∧ Ex H1 Hx ∧ Hx l = some (.lst ys) ∧ RwT K n (off D Hx) ys (Fo pre) ∧ ∃ acc, Hx D = some (.lst acc) ∧ RwT K n (off D Hx) acc (A ++ (Fo pre).take q), ⟨ys.length, by simp, Nat.zero_le _, e2.trans e45, hl, hys.off hD5, acc, hD5, by simpa using hacc.up (off_ex e45)⟩, ?_⟩
    rintro q z' H6 ⟨rfl, hq, e6, hl6, hys6, acc6, hD6, hacc6⟩
    by_cases ltq : q < ys.length
    · refine .inr ⟨walk_list.goes q H6 ltq (sq_of hl6), fun Hx => Ex H1 Hx ∧ Hx l = some (.lst ys) ∧ RwT K n (off D Hx) ys (Fo pre) ∧ ∃ acc, Hx D = some (.lst acc) ∧ RwT K n (off D Hx) acc (A ++ (Fo pre).take (q + 1)), fun Hx p => ⟨ys.length - (q + 1), by omega, rfl, ltq, p⟩, fun y H7 hyy => ?_⟩
      obtain ⟨rfl, hyk⟩ := walk_list.yields q H6 y H7 ltq (sq_of hl6) hyy
      obtain ⟨py, hy1, hy2⟩ := hys6.at hyk
      refine ⟨hw1 _ _, et_yes H7 (Ex.refl _) _ fun H8 e8 => ?_⟩
      rw [if_pos rfl]
      refine he x y H8 H8 (Ex.refl _) _ fun H9 e9 => ?_
      have e89 := e8.trans e9
      have hl2 := hacc6.len
      rw [List.length_append, List.length_take] at hl2
      refine ⟨acc6, e89 _ _ hD6, sz_lt (by omega), ?_⟩
      refine ⟨Ex.mut (e6.trans e89) hD, by rw [upd_ne nlD]; exact e89 _ _ hl6, ?_, acc6 ++ [y], upd_same, ?_⟩
      · rw [off_upd]
        exact hys6.up (off_ex e89)
      · rw [off_upd, take_snoc hy1, ← List.append_assoc]
        exact (hacc6.up (off_ex e89)).app (.cons (hy2.up (off_ex e89)) .nil)
    · have eq : q = ys.length := by omega
      subst eq
      refine .inl ⟨walk_list.stops H6 (sq_of hl6), e6, acc6, hD6, ?_⟩
      rw [List.take_of_length_le (by omega)] at hacc6
      exact hacc6
  · have em : m = us.length := by omega
    subst em
    rw [List.take_of_length_le (by omega)] at hacc
    exact .inl ⟨walk_list.stops H2 s2, k D H2 acc (fresh_back e1 hD) (e1.trans e2) hD2 (hacc.up (off_in D H2))⟩
/-! outcomes -/
def spOcs (K : PySem.W.Frag) (CW CT : Addr) : Sp := fun vs H Q E => ∃ (wv : V) (rows : List (List Wy)), vs = [wv] ∧ WO CW H wv rows ∧ ((tks rows : Int) ≤ 20000 → ∀ H' l us L, Ex H H' → H l = none → H' l = some (.lst us) → RwT K rows.length H' us L → StgI rows (rows.length - 1) L → Q (.ref l) H') ∧
  (20000 < (tks rows : Int) → ∀ dx H', H dx = none → Ex H H' → H' dx = some (.xd [("most", .int 20000)]) → E (.ref CT) (some dx) H')
abbrev nOcs : List Str := ["wishes", "rows", "router", "row", "longer"]
theorem tks_mono {rows : List (List Wy)} (i : Nat) : tks (rows.take i) ≤ tks rows := by
  conv => rhs; rw [← List.take_append_drop i rows, tks_append]
  have := tks_pos (rows.drop i)
  exact Nat.le_mul_of_pos_right _ this
end
end Wk

set_option Elab.async false
set_option linter.all false
set_option maxRecDepth 100000
set_option maxHeartbeats 1000000
namespace Wk
open PySem PySem.Spec PyProof.Rows L2 Evl
/-! stands whose ways may be the module's -/
def StD (K : PySem.W.Frag) (H : Hp) (v : V) (ts ks : List Wy) : Prop := ∃ (sa ta ka : Addr) (txs kxs : List V), v = .ref sa ∧ H sa = some (.tup [.ref ta, .ref ka]) ∧ H ta = some (.tup txs) ∧ H ka = some (.tup kxs) ∧ DpAll K H txs (ts.map wd) ∧ DpAll K H kxs (ks.map wd)
theorem StD.up {K : PySem.W.Frag} {H H' : Hp} {v : V} {ts ks : List Wy} (e : Ex H H') (h : StD K H v ts ks) : StD K H' v ts ks := by
  obtain ⟨sa, ta, ka, txs, kxs, h1, h2, h3, h4, h5, h6⟩ := h
  exact ⟨sa, ta, ka, txs, kxs, h1, e _ _ h2, e _ _ h3, e _ _ h4, DpAll.up e h5, DpAll.up e h6⟩
theorem StD.dp {K : PySem.W.Frag} {H : Hp} {v : V} {ts ks : List Wy} (h : StD K H v ts ks) : Dp K H v (standD ts ks) := by
  obtain ⟨sa, ta, ka, txs, kxs, rfl, h2, h3, h4, h5, h6⟩ := h
  exact .tup (st_of h2) (.cons (.tup (st_of h3) h5) (.cons (.tup (st_of h4) h6) .nil))
theorem StD.of_dq {K : PySem.W.Frag} {H : Hp} {v : V} {ts ks : List Wy} (h : Dq H v (standD ts ks)) : StD K H v ts ks := by
  unfold standD at h
  cases h with
  | @tup sa sxs _ s1 s2 =>
  cases s2 with
  | @cons tv _ _ _ q1 q2 =>
  cases q2 with
  | @cons kv _ _ _ q3 q4 =>
  cases q4
  cases q1 with
  | @tup ta txs _ a1 a2 =>
  cases q3 with
  | @tup ka kxs _ b1 b2 =>
  exact ⟨sa, ta, ka, txs, kxs, rfl, s1, a1, b1, DqA.dp (lay_wds ts) a2, DqA.dp (lay_wds ks) b2⟩
theorem map_od (ws : List Wy) : (ws.map some).map od = ws.map wd := by
  rw [List.map_map]
  rfl
theorem StD.kp {K : PySem.W.Frag} {H H' : Hp} {v : V} {ts ks : List Wy} (k : Kp H H') (h : StD K H v ts ks) : StD K H' v ts ks := by
  obtain ⟨sa, ta, ka, txs, kxs, h1, h2, h3, h4, h5, h6⟩ := h
  have z5 := k.odsK (K := K) (xs := txs) (t := ts.map some) (by rw [map_od]; exact h5)
  have z6 := k.odsK (K := K) (xs := kxs) (t := ks.map some) (by rw [map_od]; exact h6)
  rw [map_od] at z5 z6
  exact ⟨sa, ta, ka, txs, kxs, h1, k.tup h2, k.tup h3, k.tup h4, z5, z6⟩
theorem dpw_at {K : PySem.W.Frag} {H : Hp} {xs : List V} {ws : List Wy} (h : DpAll K H xs (ws.map wd)) {i : Nat} (hi : i < ws.length) : ∃ v, xs[i]? = some v ∧ Dp K H v (wd ws[i]) := by
  have hl := dpa_len h
  rw [List.length_map] at hl
  have hx : xs[i]? = some xs[i] := List.getElem?_eq_getElem (by omega)
  obtain ⟨w, h1, h2⟩ := dpa_get h hx
  rw [List.getElem?_eq_getElem hi] at h1
  injection h1 with h1
  rw [h1]
  exact ⟨_, hx, h2⟩
theorem dpa_setp {K : PySem.W.Frag} {H : Hp} {v : V} {x : Wy} (hv : Dp K H v (wd x)) : ∀ {us : List V} {ws : List Wy} (i : Nat), DpAll K H us (ws.map wd) → DpAll K H (us.set i v) ((ws.set i x).map wd)
  | [], [], _, _ => .nil
  | [], _ :: _, _, h => by cases h
  | _ :: _, [], _, h => by cases h
  | u :: us, w :: ws, 0, .cons _ t => .cons hv t
  | u :: us, w :: ws, i + 1, .cons h t => .cons h (dpa_setp hv i t)
section
variable {P : Program} {w : World} {K : PySem.W.Frag} {mg : Str → Option Value} {base : Heap} {f : Addr} {fd : FuncData} {CW CN CK : Addr}
/-! most_wished -/
def spMW (K : PySem.W.Frag) : Sp := fun vs H Q _ => ∃ (ov tv : V) (rows : List (List Wy)) (r : Nat) (ks : List Wy), vs = [ov, tv] ∧ Dq H ov (.list ((rows.getD r []).map (offD (linesW rows) r))) ∧ (∃ (tb : Addr) (bs : List V), tv = .ref tb ∧ H tb = some (.tup bs) ∧ DpAll K H bs (ks.map wd)) ∧ GW rows ∧ rows.length ≤ 8 ∧ (∀ row ∈ rows, row.length ≤ 6) ∧ r < rows.length ∧ ks.length = (linesW rows).length ∧
  ∀ H' u, Ex H H' → Dq H' u (wd (chooseW rows ks r)) → Q u H'
abbrev nMW : List Str := ["offers", "told", "way", "place"]
theorem pl_two {rows : List (List Wy)} (hG : GW rows) (h8 : rows.length ≤ 8) {r : Nat} {row : List Wy} {w : Wy} (hr : rows[r]? = some row) (hw : w ∈ row) : (w.length = 2 → plW (linesW rows) [w.getD 1 0, (r : Int)] = none) ∧ (w.length ≠ 2 → plW (linesW rows) [w.getD 1 0, (r : Int)] = some ((linesW rows).idxOf [w.getD 1 0, (r : Int)]) ∧ [w.getD 1 0, (r : Int)] ∈ linesW rows) := by
  have ok := hG.ok r row hr w hw
  refine ⟨fun h2 => ?_, fun hn => ?_⟩
  · unfold plW
    refine if_neg fun hm => ?_
    obtain ⟨u, v, e, h1, _⟩ := ln_shape hG h8 hm
    have hlast := ok.lt
    rw [List.getLast?_eq_getElem?, h2] at hlast
    have e1 : w.getD 1 0 = 0 := by
      rw [List.getD_eq_getElem?_getD]
      show (w[1]?).getD 0 = 0
      rw [show w[1]? = some 0 from hlast]
      rfl
    rw [e1] at e
    injection e with e _
    omega
  · have hm := ln_way hG h8 hr hw (wy_sec ok hn)
    exact ⟨if_pos hm, hm⟩
theorem find_take {f : Wy → Bool} {row : List Wy} {i : Nat} {w : Wy} (h : row[i]? = some w) (hp : (row.take i).find? f = none) (hf : f w = true) : row.find? f = some w := by
  have e : row = row.take i ++ w :: row.drop (i + 1) := by
    have hi := (List.getElem?_eq_some_iff.mp h).1
    have z := List.take_append_drop i row
    rw [List.drop_eq_getElem_cons hi, (List.getElem?_eq_some_iff.mp h).2] at z
    exact z.symm
  rw [e, List.find?_append, hp, List.find?_cons, hf]
  rfl
end
end Wk

set_option Elab.async false
set_option linter.all false
set_option maxRecDepth 100000
set_option maxHeartbeats 1000000
namespace Wk
open PySem PySem.Spec PyProof.Rows L2 Evl
/-! values that may be new: a way -/
def EvWp (K : PySem.W.Frag) (te : TE) (σ : L2.St) (H : Hp) (x : Wy) : Prop := ∀ H1, Ex H H1 → ∀ Q : VK, (∀ u H2, Ex H1 H2 → Dp K H2 u (wd x) → Q u H2) → te σ H1 Q
theorem q_asgWp {K : PySem.W.Frag} {te : TE} {tz : TS} {D : Ends} {σ : L2.St} {H : Hp} {i : Nat} {x : Wy} (h : EvWp K te σ H x) (k : ∀ u H', Ex H H' → Dp K H' u (wd x) → tz D (σ.set i (some u)) H') : tSeq (tAsg te (gName i)) tz D σ H := h H (Ex.refl _) _ fun u H' e hu => k u H' e hu
theorem t_ifB {tt : TT} {ta tb : TE} {σ : L2.St} {H : Hp} {b : Bool} {Q : VK} (ht : EvT tt σ H b) (hy : b = true → ∀ H1, Ex H H1 → ta σ H1 Q) (hn : b = false → ∀ H1, Ex H H1 → tb σ H1 Q) : tIf tt ta tb σ H Q := ht H (Ex.refl _) _ fun H1 e1 => by
  cases b with
  | true => exact hy rfl H1 e1
  | false => exact hn rfl H1 e1
theorem rv_eqWp {K : PySem.W.Frag} {σ : L2.St} {H : Hp} {tv tw : TE} {v u : V} {x y : Wy} (h : Ev tv σ H v) (h2 : Ev tw σ H u) (hx : Dp K H v (wd x)) (hy : Dp K H u (wd y)) : Ev (tOp (rEqD K) tv tw) σ H (.bl (decide (x = y))) :=
  ev_op h h2 fun H1 e1 Q q => ⟨wd x, wd y, Dp.up e1 hx, Dp.up e1 hy, shaped_wd _, shaped_wd _, by
    rw [eqv_wd]
    exact q H1 (Ex.refl _)⟩
/-! what is heard -/
theorem heard_tell {rows : List (List Wy)} {ts : List Wy} (hG : GW rows) (h8 : rows.length ≤ 8) (hT : FullT rows ts) {u v : Nat} (hp : [(u : Int), (v : Int)] ∈ linesW rows) : tellW rows ts [(u : Int), (v : Int)] = if ts.getD u [] ∈ restsW rows [(u : Int), (v : Int)] then ts.getD u [] else [] := by
  obtain ⟨u', v', e', hu1, hun, hv1, hvn⟩ := ln_shape hG h8 hp
  injection e' with e1 e'
  injection e' with e2 _
  obtain rfl : u = u' := by omega
  obtain rfl : v = v' := by omega
  clear e1 e2
  unfold tellW restsW
  show (if ((v : Int) :: ts.getD u []) ∈ rows.getD v [] then ts.getD u [] else []) = if ts.getD u [] ∈ ((rows.getD v []).filter fun w => decide (w.getD 1 0 = (u : Int))).map (List.drop 1) then ts.getD u [] else []
  have hrv : rows[v]? = some rows[v] := List.getElem?_eq_getElem hvn
  have egv : rows.getD v [] = rows[v] := by rw [List.getD_eq_getElem?_getD, hrv]; rfl
  have hok := hG.ok v _ hrv
  rw [egv]
  have htun : u < ts.length := by rw [hT.len]; exact hun
  have htu : ts[u]? = some ts[u] := List.getElem?_eq_getElem htun
  have egt : ts.getD u [] = ts[u] := by rw [List.getD_eq_getElem?_getD, htu]; rfl
  have hch := hT.ok u _ htu
  rw [egt]
  generalize ts[u] = t at *
  have key : ((v : Int) :: t) ∈ rows[v] ↔ t ∈ (rows[v].filter fun w => decide (w.getD 1 0 = (u : Int))).map (List.drop 1) := by
    rw [List.mem_map]
    constructor
    · intro h
      refine ⟨(v : Int) :: t, List.mem_filter.mpr ⟨h, decide_eq_true ?_⟩, rfl⟩
      have h2 := (hok _ h).l2
      unfold chW at hch
      rw [if_neg (by omega)] at hch
      rcases List.mem_append.mp hch with z | z
      rotate_left
      · rw [List.mem_singleton.mp z] at h2
        simp at h2
      · rw [List.getD_eq_getElem?_getD] at z
        have hru : rows[u]? = some rows[u] := List.getElem?_eq_getElem hun
        rw [hru] at z
        have hh := (hG.ok u _ hru t z).hd
        cases t with
        | nil => simp at h2
        | cons a t =>
          simp at hh
          simp [hh]
    · rintro ⟨x, hx, rfl⟩
      obtain ⟨x1, x2⟩ := List.mem_filter.mp hx
      have ok := hok x x1
      cases x with
      | nil => have := ok.l2; simp at this
      | cons a x =>
        have hh := ok.hd
        simp at hh
        subst hh
        exact x1
  by_cases c : ((v : Int) :: t) ∈ rows[v]
  · rw [if_pos c, if_pos (key.mp c)]
  · rw [if_neg c, if_neg fun z => c (key.mpr z)]
theorem getD_lt {α : Type} {l : List α} {i : Nat} {c : α} (h : i < l.length) : l.getD i c = l[i] := by rw [List.getD_eq_getElem?_getD, List.getElem?_eq_getElem h]; rfl
theorem set_same {l : List Wy} {i : Nat} {x : Wy} (h : i < l.length) : l.set i x = l ↔ l[i] = x := by
  constructor
  · intro z
    have e : (l.set i x)[i]? = l[i]? := by rw [z]
    rw [List.getElem?_set_self h, List.getElem?_eq_getElem h] at e
    exact (Option.some.inj e).symm
  · intro z
    rw [← z]
    exact List.set_getElem_self h
section
variable {P : Program} {w : World} {K : PySem.W.Frag} {mg : Str → Option Value} {base : Heap} {f : Addr} {fd : FuncData} {CW CN CK : Addr}
/-! changed -/
def spCh (K : PySem.W.Frag) (CK CW : Addr) : Sp := fun vs H Q _ => ∃ (x wv : Addr) (rows : List (List Wy)) (sv stv : V) (ts ks : List Wy) (s : Stp), vs = [.ref x, sv, stv] ∧ WkO CK CW H x (.ref wv) rows ∧ StD K H sv ts ks ∧ StOk rows ts ks ∧ Dq H stv (stepD s) ∧ StpOk rows s ∧
  (mvW rows ts ks s = (ts, ks) → ∀ H', Ex H H' → Q .non H') ∧ (mvW rows ts ks s ≠ (ts, ks) → ∀ H' u, Ex H H' → StD K H' u (mvW rows ts ks s).1 (mvW rows ts ks s).2 → u ≠ .non → Q u H')
abbrev nCh : List Str := ["works", "stand", "step", "takes", "told", "place", "heard", "router", "taken"]
end
end Wk

set_option Elab.async false
set_option linter.all false
set_option maxRecDepth 100000
set_option maxHeartbeats 2000000
namespace Wk
open PySem PySem.Spec PyProof.Rows L2 Evl
/-! a stand stays one -/
theorem mv_ok {rows : List (List Wy)} {ts ks : List Wy} (hG : GW rows) (h8 : rows.length ≤ 8) (h : StOk rows ts ks) {s : Stp} (hs : StpOk rows s) : StOk rows (mvW rows ts ks s).1 (mvW rows ts ks s).2 := by
  cases s with
  | inl p =>
    have hp : p ∈ linesW rows := hs
    refine ⟨h.t, by show (ks.set _ _).length = _; rw [List.length_set]; exact h.kl, fun i x hx => ?_⟩
    have hx' : (ks.set ((linesW rows).idxOf p) (tellW rows ts p))[i]? = some x := hx
    by_cases c : i = (linesW rows).idxOf p
    · subst c
      have hj : (linesW rows).idxOf p < ks.length := by rw [h.kl]; exact List.idxOf_lt_length_iff.mpr hp
      rw [List.getElem?_set_self hj] at hx'
      have e : tellW rows ts p = x := Option.some.inj hx'
      have hd : (linesW rows).getD ((linesW rows).idxOf p) [] = p := by
        have hi := List.idxOf_lt_length_iff.mpr hp
        rw [List.getD_eq_getElem?_getD, List.getElem?_eq_getElem hi, List.getElem_idxOf hi]
        rfl
      rw [hd, ← e]
      obtain ⟨u, v, rfl, _⟩ := ln_shape hG h8 hp
      rw [heard_tell hG h8 h.t hp]
      split
      · rename_i hm
        exact ⟨.inr hm, Nat.le_trans (restLen hG hm) (by decide)⟩
      · exact ⟨.inl rfl, by simp⟩
    · rw [List.getElem?_set_ne (Ne.symm c)] at hx'
      exact h.ko i x hx'
  | inr r =>
    obtain ⟨hr1, hrn⟩ := (show 1 ≤ r ∧ r < rows.length from hs)
    refine ⟨⟨by show (ts.set _ _).length = _; rw [List.length_set]; exact h.t.len, fun i x hx => ?_⟩, h.kl, h.ko⟩
    have hx' : (ts.set r (chooseW rows ks r))[i]? = some x := hx
    by_cases c : i = r
    · subst c
      have hj : i < ts.length := by rw [h.t.len]; exact hrn
      rw [List.getElem?_set_self hj] at hx'
      rw [← (Option.some.inj hx' : chooseW rows ks i = x)]
      unfold chW chooseW
      rw [if_neg (by omega)]
      cases hq : (rows.getD i []).find? (hrB rows ks i) with
      | none => simp
      | some w => exact List.mem_append_left _ (List.mem_of_find?_eq_some hq)
    · rw [List.getElem?_set_ne (Ne.symm c)] at hx'
      exact h.t.ok i x hx'
abbrev St2 := List Wy × List Wy
def goW (rows : List (List Wy)) (st : St2) (s : Stp) : St2 := mvW rows st.1 st.2 s
def runW (rows : List (List Wy)) (st : St2) (ss : List Stp) : St2 := ss.foldl (goW rows) st
/-- the stands ahead of each step -/
def wayW (rows : List (List Wy)) (st : St2) : List Stp → List St2
  | [] => []
  | s :: ss => st :: wayW rows (goW rows st s) ss
def chgW (rows : List (List Wy)) (st : St2) : List Stp → Nat
  | [] => 0
  | s :: ss => (if goW rows st s = st then 0 else 1) + chgW rows (goW rows st s) ss
theorem runW_snoc (rows : List (List Wy)) (st : St2) (ss : List Stp) (s : Stp) : runW rows st (ss ++ [s]) = goW rows (runW rows st ss) s := by
  unfold runW
  rw [List.foldl_append]
  rfl
theorem wayW_snoc (rows : List (List Wy)) : ∀ (ss : List Stp) (st : St2) (s : Stp), wayW rows st (ss ++ [s]) = wayW rows st ss ++ [runW rows st ss]
  | [], st, s => rfl
  | a :: ss, st, s => by
    show st :: wayW rows (goW rows st a) (ss ++ [s]) = (st :: wayW rows (goW rows st a) ss) ++ [runW rows st (a :: ss)]
    rw [wayW_snoc rows ss]
    rfl
theorem chgW_snoc (rows : List (List Wy)) : ∀ (ss : List Stp) (st : St2) (s : Stp), chgW rows st (ss ++ [s]) = chgW rows st ss + (if goW rows (runW rows st ss) s = runW rows st ss then 0 else 1)
  | [], st, s => by
    show (if goW rows st s = st then 0 else 1) + 0 = 0 + (if goW rows st s = st then 0 else 1)
    omega
  | a :: ss, st, s => by
    show (if goW rows st a = st then 0 else 1) + chgW rows (goW rows st a) (ss ++ [s]) = ((if goW rows st a = st then 0 else 1) + chgW rows (goW rows st a) ss) + (if goW rows (runW rows st (a :: ss)) s = runW rows st (a :: ss) then 0 else 1)
    rw [chgW_snoc rows ss, Nat.add_assoc]
    rfl
theorem wayW_len (rows : List (List Wy)) : ∀ (ss : List Stp) (st : St2), (wayW rows st ss).length = ss.length
  | [], _ => rfl
  | a :: ss, st => by
    show (wayW rows (goW rows st a) ss).length + 1 = ss.length + 1
    rw [wayW_len rows ss]
theorem go_ok {rows : List (List Wy)} {st : St2} (hG : GW rows) (h8 : rows.length ≤ 8) (h : StOk rows st.1 st.2) {s : Stp} (hs : StpOk rows s) : StOk rows (goW rows st s).1 (goW rows st s).2 := mv_ok hG h8 h hs
theorem run_ok {rows : List (List Wy)} (hG : GW rows) (h8 : rows.length ≤ 8) : ∀ {ss : List Stp} {st : St2}, StOk rows st.1 st.2 → (∀ s ∈ ss, StpOk rows s) → StOk rows (runW rows st ss).1 (runW rows st ss).2
  | [], _, h, _ => h
  | a :: ss, st, h, hs => run_ok hG h8 (ss := ss) (st := goW rows st a) (go_ok hG h8 h (hs a List.mem_cons_self)) fun s hm => hs s (List.mem_cons_of_mem _ hm)
theorem way_ok {rows : List (List Wy)} (hG : GW rows) (h8 : rows.length ≤ 8) : ∀ {ss : List Stp} {st : St2}, StOk rows st.1 st.2 → (∀ s ∈ ss, StpOk rows s) → ∀ t ∈ wayW rows st ss, StOk rows t.1 t.2
  | [], _, _, _, t, ht => by cases ht
  | a :: ss, st, h, hs, t, ht => by
    rcases List.mem_cons.mp ht with z | z
    · rw [z]; exact h
    · exact way_ok hG h8 (go_ok hG h8 h (hs a List.mem_cons_self)) (fun s hm => hs s (List.mem_cons_of_mem _ hm)) t z
/-! tuples stay -/
structure Kt (H H' : Hp) : Prop where
  t : ∀ a xs, H a = some (.tup xs) → H' a = some (.tup xs)
  f : ∀ a u xs, H a = some (.frz u (.tup xs)) → H' a = some (.frz u (.tup xs))
theorem Kt.ex {H H' : Hp} (e : Ex H H') : Kt H H' := ⟨fun a _ h => e a _ h, fun a _ _ h => e a _ h⟩
theorem Kt.trans {H H1 H2 : Hp} (a : Kt H H1) (b : Kt H1 H2) : Kt H H2 := ⟨fun x xs h => b.t x xs (a.t x xs h), fun x u xs h => b.f x u xs (a.f x u xs h)⟩
theorem Kt.of1 {x C dx : Addr} {fs : List (Str × V)} {H H' : Hp} (o : Of1 x H H') (hx : H x = some (.ins C dx fs)) : Kt H H' :=
  ⟨fun a xs h => o a _ (fun z => by rw [z, hx] at h; cases h) h, fun a u xs h => o a _ (fun z => by rw [z, hx] at h; cases h) h⟩
theorem hd_keep {x pa C dx : Addr} {fs : List (Str × V)} {us : List V} {H : Hp} (hx : H x = some (.ins C dx fs)) (hp : H pa = some (.lst us)) {a : Addr} {o : HO} (h : H a = some o) (n1 : o ≠ .ins C dx fs) (n2 : o ≠ .lst us) : Hd H x pa a = some o := by
  unfold Hd
  rw [if_neg]
  · exact h
  · rintro (z | z)
    · rw [z, hx] at h
      exact n1 (Option.some.inj h).symm
    · rw [z, hp] at h
      exact n2 (Option.some.inj h).symm
theorem Kt.hd {x pa C dx : Addr} {fs : List (Str × V)} {us : List V} {H : Hp} (hx : H x = some (.ins C dx fs)) (hp : H pa = some (.lst us)) : Kt H (Hd H x pa) :=
  ⟨fun a xs h => hd_keep hx hp h (by intro z; cases z) (by intro z; cases z), fun a u xs h => hd_keep hx hp h (by intro z; cases z) (by intro z; cases z)⟩
theorem Kt.st {K : PySem.W.Frag} {H H' : Hp} {a : Addr} {xs : List V} (k : Kt H H') (h : SqT K H a xs) : SqT K H' a xs := h.imp (fun h => h.imp (fun h => k.t a _ h) fun ⟨u, h⟩ => ⟨u, k.f a u _ h⟩) id
theorem Kt.wd {K : PySem.W.Frag} {H H' : Hp} (k : Kt H H') {v : V} {w : Wy} (h : Dp K H v (wd w)) : Dp K H' v (wd w) := by
  obtain ⟨a, rfl, ha⟩ := dp_wd h
  exact dp_of_wd (k.st ha)
theorem Kt.wds {K : PySem.W.Frag} {H H' : Hp} (k : Kt H H') : ∀ {ws : List Wy} {vs : List V}, DpAll K H vs (ws.map Wk.wd) → DpAll K H' vs (ws.map Wk.wd)
  | [], _, .nil => .nil
  | _ :: _, _, .cons a b => .cons (k.wd a) (k.wds b)
theorem StD.kt {K : PySem.W.Frag} {H H' : Hp} {v : V} {ts ks : List Wy} (k : Kt H H') (h : StD K H v ts ks) : StD K H' v ts ks := by
  obtain ⟨sa, ta, ka, txs, kxs, h1, h2, h3, h4, h5, h6⟩ := h
  exact ⟨sa, ta, ka, txs, kxs, h1, k.t _ _ h2, k.t _ _ h3, k.t _ _ h4, k.wds h5, k.wds h6⟩
/-! without the talk and its past -/
theorem hd_sub {H : Hp} {x pa : Addr} : Ex (Hd H x pa) H := fun b u h => by
  unfold Hd at h
  split at h
  · cases h
  · exact h
theorem hd_at {H : Hp} {x pa b : Addr} (h1 : b ≠ x) (h2 : b ≠ pa) : Hd H x pa b = H b := by
  unfold Hd
  rw [if_neg (fun z => z.elim h1 h2)]
theorem hd_in {H : Hp} {x pa b : Addr} {u : HO} (h : Hd H x pa b = some u) : b ≠ x ∧ b ≠ pa ∧ H b = some u := by
  unfold Hd at h
  split at h
  · cases h
  · rename_i c
    exact ⟨fun z => c (.inl z), fun z => c (.inr z), h⟩
theorem hd_mono {H H' : Hp} {x pa : Addr} (e : Ex H H') : Ex (Hd H x pa) (Hd H' x pa) := fun b u h => by
  obtain ⟨h1, h2, h3⟩ := hd_in h
  rw [hd_at h1 h2]
  exact e _ _ h3
structure Tn (x pa pa' : Addr) (H H' : Hp) : Prop where
  off : ∀ b u, b ≠ x → b ≠ pa → H b = some u → H' b = some u
  sv : ∀ b, H' b = none → H b = none
  nw : pa' = pa ∨ H pa' = none
theorem ex_sv {H H' : Hp} (e : Ex H H') {b : Addr} (h : H' b = none) : H b = none := fresh_back e h
theorem Tn.refl (x pa : Addr) (H : Hp) : Tn x pa pa H H := ⟨fun _ _ _ _ h => h, fun _ h => h, .inl rfl⟩
theorem Tn.ex {x pa : Addr} {H H' : Hp} (e : Ex H H') : Tn x pa pa H H' := ⟨fun b u _ _ h => e b u h, fun _ h => ex_sv e h, .inl rfl⟩
theorem Tn.trans {x pa pb pc : Addr} {H H1 H2 : Hp} (a : Tn x pa pb H H1) (b : Tn x pb pc H1 H2) : Tn x pa pc H H2 :=
  ⟨fun c u h1 h2 h => b.off c u h1 (fun z => by
    rcases a.nw with q | q
    · exact h2 (z.trans q)
    · rw [z, q] at h; cases h) (a.off c u h1 h2 h), fun c h => a.sv c (b.sv c h), by
    rcases b.nw with q | q
    · rw [q]; exact a.nw
    · exact .inr (a.sv _ q)⟩
theorem upd_sv {H : Hp} {a : Addr} {o : HO} {b : Addr} (h : (upd H a o) b = none) : H b = none := by
  by_cases c : b = a
  · rw [c, upd_same] at h; cases h
  · rw [upd_ne c] at h; exact h
theorem Tn.updX {x pa : Addr} {H : Hp} {o : HO} : Tn x pa pa H (upd H x o) := ⟨fun b u h1 _ h => by rw [upd_ne h1]; exact h, fun b h => upd_sv h, .inl rfl⟩
theorem Tn.updP {x pa : Addr} {H : Hp} {o : HO} : Tn x pa pa H (upd H pa o) := ⟨fun b u _ h2 h => by rw [upd_ne h2]; exact h, fun b h => upd_sv h, .inl rfl⟩
theorem Tn.newP {x pa pb : Addr} {H : Hp} {o : HO} (h : H pb = none) : Tn x pa pb H (upd H pb o) := ⟨fun b u _ _ hb => by rw [upd_ne (fun z => by rw [z, h] at hb; cases hb)]; exact hb, fun b h => upd_sv h, .inr h⟩
theorem Tn.hd {x pa pb : Addr} {H H' : Hp} (t : Tn x pa pb H H') : Ex (Hd H x pa) (Hd H' x pb) := fun b u h => by
  obtain ⟨h1, h2, h3⟩ := hd_in h
  rw [hd_at h1 (fun z => by
    rcases t.nw with q | q
    · exact h2 (z.trans q)
    · rw [z, q] at h3; cases h3)]
  exact t.off b u h1 h2 h3
/-! the talk -/
theorem len_putO (f : Str) (v y : V) : ∀ fs : List (Str × V), fs.lookup f = some y → (putF f v fs).length = fs.length
  | [], h => by cases h
  | (g, x) :: r, h => by
    unfold putF
    split
    · rfl
    · rename_i hne
      rw [List.length_cons, List.length_cons, len_putO f v y r]
      rw [List.lookup_cons] at h
      have : (f == g) = false := beq_eq_false_iff_ne.mpr fun z => hne z.symm
      rw [this] at h
      exact h
structure TTx (K : PySem.W.Frag) (CT : Addr) : Prop where
  cl : Cls K CT
  n1 : NoAttr K CT "_works"
  n2 : NoAttr K CT "stand"
  n3 : NoAttr K CT "many"
  n4 : NoAttr K CT "past"
structure Tf (fs : List (Str × V)) (k : Addr) (sv : V) (pa : Addr) (m : Nat) : Prop where
  wk : fs.lookup ("_works" : Str) = some (.ref k)
  st : fs.lookup ("stand" : Str) = some sv
  mn : fs.lookup ("many" : Str) = some (.int (m : Int))
  ps : fs.lookup ("past" : Str) = some (.ref pa)
  m1 : fs.lookup ("do" : Str) = none
  m2 : fs.lookup ("_go" : Str) = none
  m3 : fs.lookup ("run" : Str) = none
  m4 : fs.lookup ("back" : Str) = none
  m5 : fs.lookup ("trying" : Str) = none
  m6 : fs.lookup ("ahead" : Str) = none
  m7 : fs.lookup ("to_rest" : Str) = none
  few : fs.length ≤ 50
theorem Tf.many {fs : List (Str × V)} {k pa : Addr} {sv : V} {m m' : Nat} (h : Tf fs k sv pa m) : Tf (putF "many" (.int (m' : Int)) fs) k sv pa m' := by
  refine ⟨?_, ?_, lk_putS, ?_, ?_, ?_, ?_, ?_, ?_, ?_, ?_, by rw [len_putO _ _ _ _ h.mn]; exact h.few⟩
  · rw [lk_putF (by decide +kernel)]; exact h.wk
  · rw [lk_putF (by decide +kernel)]; exact h.st
  · rw [lk_putF (by decide +kernel)]; exact h.ps
  · rw [lk_putF (by decide +kernel)]; exact h.m1
  · rw [lk_putF (by decide +kernel)]; exact h.m2
  · rw [lk_putF (by decide +kernel)]; exact h.m3
  · rw [lk_putF (by decide +kernel)]; exact h.m4
  · rw [lk_putF (by decide +kernel)]; exact h.m5
  · rw [lk_putF (by decide +kernel)]; exact h.m6
  · rw [lk_putF (by decide +kernel)]; exact h.m7
theorem Tf.stand {fs : List (Str × V)} {k pa : Addr} {sv sv' : V} {m : Nat} (h : Tf fs k sv pa m) : Tf (putF "stand" sv' fs) k sv' pa m := by
  refine ⟨?_, lk_putS, ?_, ?_, ?_, ?_, ?_, ?_, ?_, ?_, ?_, by rw [len_putO _ _ _ _ h.st]; exact h.few⟩
  · rw [lk_putF (by decide +kernel)]; exact h.wk
  · rw [lk_putF (by decide +kernel)]; exact h.mn
  · rw [lk_putF (by decide +kernel)]; exact h.ps
  · rw [lk_putF (by decide +kernel)]; exact h.m1
  · rw [lk_putF (by decide +kernel)]; exact h.m2
  · rw [lk_putF (by decide +kernel)]; exact h.m3
  · rw [lk_putF (by decide +kernel)]; exact h.m4
  · rw [lk_putF (by decide +kernel)]; exact h.m5
  · rw [lk_putF (by decide +kernel)]; exact h.m6
  · rw [lk_putF (by decide +kernel)]; exact h.m7
theorem Tf.past {fs : List (Str × V)} {k pa pa' : Addr} {sv : V} {m : Nat} (h : Tf fs k sv pa m) : Tf (putF "past" (.ref pa') fs) k sv pa' m := by
  refine ⟨?_, ?_, ?_, lk_putS, ?_, ?_, ?_, ?_, ?_, ?_, ?_, by rw [len_putO _ _ _ _ h.ps]; exact h.few⟩
  · rw [lk_putF (by decide +kernel)]; exact h.wk
  · rw [lk_putF (by decide +kernel)]; exact h.st
  · rw [lk_putF (by decide +kernel)]; exact h.mn
  · rw [lk_putF (by decide +kernel)]; exact h.m1
  · rw [lk_putF (by decide +kernel)]; exact h.m2
  · rw [lk_putF (by decide +kernel)]; exact h.m3
  · rw [lk_putF (by decide +kernel)]; exact h.m4
  · rw [lk_putF (by decide +kernel)]; exact h.m5
  · rw [lk_putF (by decide +kernel)]; exact h.m6
  · rw [lk_putF (by decide +kernel)]; exact h.m7
structure PsA (K : PySem.W.Frag) (G : Hp) (us : List V) (past : List St2) : Prop where
  len : us.length = past.length
  at_ : ∀ (i : Nat) (v : V), us[i]? = some v → ∃ t, past[i]? = some t ∧ StD K G v t.1 t.2
theorem PsA.up {K : PySem.W.Frag} {G G' : Hp} {us : List V} {past : List St2} (e : Ex G G') (h : PsA K G us past) : PsA K G' us past := ⟨h.len, fun i v hv => by
  obtain ⟨t, h1, h2⟩ := h.at_ i v hv
  exact ⟨t, h1, h2.up e⟩⟩
theorem PsA.nil (K : PySem.W.Frag) (G : Hp) : PsA K G [] [] := ⟨rfl, fun i v h => by cases h⟩
theorem PsA.snoc {K : PySem.W.Frag} {G : Hp} {us : List V} {past : List St2} {v : V} {st : St2} (h : PsA K G us past) (hv : StD K G v st.1 st.2) : PsA K G (us ++ [v]) (past ++ [st]) := by
  refine ⟨by rw [List.length_append, List.length_append, h.len]; rfl, fun i y hy => ?_⟩
  by_cases c : i < us.length
  · rw [List.getElem?_append_left c] at hy
    obtain ⟨t, h1, h2⟩ := h.at_ i y hy
    exact ⟨t, by rw [List.getElem?_append_left (by rw [← h.len]; exact c)]; exact h1, h2⟩
  · rw [List.getElem?_append_right (by omega)] at hy
    have e0 : i - us.length = 0 := by
      cases hq : i - us.length with
      | zero => rfl
      | succ n => rw [hq] at hy; cases hy
    rw [e0] at hy
    have e : v = y := Option.some.inj hy
    refine ⟨st, ?_, by rw [← e]; exact hv⟩
    rw [List.getElem?_append_right (by rw [← h.len]; omega), ← h.len, e0]
    rfl
theorem PsA.take {K : PySem.W.Frag} {G : Hp} {us : List V} {past : List St2} (h : PsA K G us past) (n : Nat) : PsA K G (us.take n) (past.take n) := by
  refine ⟨by rw [List.length_take, List.length_take, h.len], fun i y hy => ?_⟩
  rw [List.getElem?_take] at hy
  split at hy
  · rename_i c
    obtain ⟨t, h1, h2⟩ := h.at_ i y hy
    exact ⟨t, by rw [List.getElem?_take, if_pos c]; exact h1, h2⟩
  · cases hy
structure TaO (K : PySem.W.Frag) (CT CK CW : Addr) (H : Hp) (x pa wv kw : Addr) (rows : List (List Wy)) (st : St2) (past : List St2) : Prop where
  ex : ∃ (dx : Addr) (fs : List (Str × V)) (sv : V) (us : List V), H x = some (.ins CT dx fs) ∧ Tf fs kw sv pa past.length ∧ H pa = some (.lst us) ∧ WkO CK CW (Hd H x pa) kw (.ref wv) rows ∧ StD K (Hd H x pa) sv st.1 st.2 ∧ PsA K (Hd H x pa) us past
  ok : StOk rows st.1 st.2
  oks : ∀ t ∈ past, StOk rows t.1 t.2
theorem TaO.up {K : PySem.W.Frag} {CT CK CW : Addr} {H H' : Hp} {x pa wv kw : Addr} {rows : List (List Wy)} {st : St2} {past : List St2} (h : TaO K CT CK CW H x pa wv kw rows st past) (e : Ex H H') : TaO K CT CK CW H' x pa wv kw rows st past := by
  obtain ⟨dx, fs, sv, us, h1, h2, h3, h4, h5, h6⟩ := h.ex
  have e' := hd_mono (x := x) (pa := pa) e
  exact ⟨⟨dx, fs, sv, us, e _ _ h1, h2, e _ _ h3, h4.up e', h5.up e', h6.up e'⟩, h.ok, h.oks⟩
theorem TaO.wo {K : PySem.W.Frag} {CT CK CW : Addr} {H : Hp} {x pa wv kw : Addr} {rows : List (List Wy)} {st : St2} {past : List St2} (h : TaO K CT CK CW H x pa wv kw rows st past) : WO CW (Hd H x pa) (.ref wv) rows := by
  obtain ⟨dx, fs, sv, us, h1, h2, h3, h4, h5, h6⟩ := h.ex
  exact h4.wo
theorem TaO.ne {K : PySem.W.Frag} {CT CK CW : Addr} {H : Hp} {x pa wv kw : Addr} {rows : List (List Wy)} {st : St2} {past : List St2} (h : TaO K CT CK CW H x pa wv kw rows st past) : x ≠ pa := fun z => by
  obtain ⟨dx, fs, sv, us, h1, h2, h3, _⟩ := h.ex
  rw [z, h3] at h1
  cases h1
structure Msk (P : Program) (w : World) (K : PySem.W.Frag) (mg : Str → Option Value) (base : Heap) (CS : Addr) (m : Str) (ps : List Str) (n : Nat) (sp : Sp) : Prop where
  ex : ∃ (fM : Addr) (fd : FuncData), Meth K CS m fM ∧ FnOk P w K mg base CX0 n fM fd ps sp ∧ Binds K fd ps []
theorem q_fldaug {K : PySem.W.Frag} {ta tv : TE} {rd : V → V → Hp → VK → Prop} {f : Str} {tz : TS} {D : Ends} {σ : L2.St} {H : Hp} (h : sFldAug K ta tv rd f { D with nx := tz D } σ H) : tSeq (sFldAug K ta tv rd f) tz D σ H := h
section
variable {P : Program} {w : World} {K : PySem.W.Frag} {mg : Str → Option Value} {base : Heap} {f : Addr} {fd : FuncData} {CW CN CK CT : Addr}
/-! Talk._go -/
def spGo (K : PySem.W.Frag) (CT CK CW : Addr) : Sp := fun vs H Q _ => ∃ (x pa wv kw : Addr) (stv : V) (rows : List (List Wy)) (st : St2) (past : List St2) (s : Stp), vs = [.ref x, stv] ∧ TaO K CT CK CW H x pa wv kw rows st past ∧ past.length ≤ 20000 ∧ Dq (Hd H x pa) stv (stepD s) ∧ StpOk rows s ∧
  ∀ H', Tn x pa pa H H' → TaO K CT CK CW H' x pa wv kw rows (goW rows st s) (past ++ [st]) → Q (.bl (!decide (goW rows st s = st))) H'
abbrev nGo : List Str := ["self", "step", "later"]
end
end Wk

set_option Elab.async false
set_option linter.all false
set_option maxRecDepth 100000
set_option maxHeartbeats 1000000
namespace Wk
open PySem PySem.Spec PyProof.Rows L2 Evl
/-! what a step is -/
def IsS (rows : List (List Wy)) (d : PyData) : Prop := ∃ s : Stp, StpOk rows s ∧ d = stepD s
def wordS : Stp → Str
  | .inl _ => "tell"
  | .inr _ => "choose"
def restS : Stp → Wy
  | .inl p => p
  | .inr r => [(r : Int)]
theorem stepD_eq (s : Stp) : stepD s = .tuple (.str (wordS s) :: (restS s).map PyData.int) := by cases s <;> rfl
theorem mem_steps {rows : List (List Wy)} (h2 : 2 ≤ rows.length) {d : PyData} : d ∈ stepsD rows ↔ IsS rows d := by
  constructor
  · intro h
    obtain ⟨i, hi⟩ := List.mem_iff_getElem?.mp h
    obtain ⟨s, h1, h2⟩ := steps_at h2 hi
    exact ⟨s, h2, h1⟩
  · rintro ⟨s, h, rfl⟩
    unfold stepsD
    cases s with
    | inl p => exact List.mem_append_left _ (List.mem_map.mpr ⟨p, h, rfl⟩)
    | inr r =>
      obtain ⟨h1, h2⟩ := (show 1 ≤ r ∧ r < rows.length from h)
      refine List.mem_append_right _ (List.mem_map.mpr ⟨r - 1, List.mem_range.mpr (by omega), ?_⟩)
      show PyData.tuple [.str "choose", .int ((r - 1 + 1 : Nat) : Int)] = .tuple [.str "choose", .int (r : Int)]
      rw [show r - 1 + 1 = r by omega]
theorem lay_str1 {z : Str} (hz : PyData.strOk z = true) (ns : List Int) : PyData.canLayAll0 (PyData.str z :: ns.map PyData.int) = true := by
  have := lay_ints ns
  simp [PyData.canLayAll0, PyData.canLay0, this, hz]
theorem dep_str1 (z : Str) (ns : List Int) : PyData.depthAll (PyData.str z :: ns.map PyData.int) = 0 := by
  have := depth_ints ns
  simp [PyData.depthAll, PyData.depth, this]
theorem shaped_str1 {z : Str} (hz : PyData.strOk z = true) (ns : List Int) : SeqAt.shaped (.tuple (PyData.str z :: ns.map PyData.int)) = true := by
  unfold SeqAt.shaped
  have h1 := lay_str1 hz ns
  have h2 := dep_str1 z ns
  simp [PyData.canLay0, PyData.depth, h1, h2]
theorem step_of_mem {rows : List (List Wy)} {d : PyData} (h : d ∈ stepsD rows) : ∃ s : Stp, d = stepD s := by
  unfold stepsD at h
  rcases List.mem_append.mp h with z | z
  · obtain ⟨p, _, rfl⟩ := List.mem_map.mp z
    exact ⟨.inl p, rfl⟩
  · obtain ⟨j, _, rfl⟩ := List.mem_map.mp z
    exact ⟨.inr (j + 1), rfl⟩
theorem word_ok (s : Stp) : PyData.strOk (wordS s) = true := by
  cases s with
  | inl p => exact show PyData.strOk "tell" = true by decide +kernel
  | inr r => exact show PyData.strOk "choose" = true by decide +kernel
theorem layA_steps (rows : List (List Wy)) : PyData.canLayAll0 (stepsD rows) = true := layAll.mpr fun d hd => by
  obtain ⟨s, rfl⟩ := step_of_mem hd
  rw [stepD_eq]
  simp only [PyData.canLay0]
  exact lay_str1 (word_ok s) _
theorem shaped_steps (rows : List (List Wy)) : SeqAt.shaped (.list (stepsD rows)) = true := by
  unfold SeqAt.shaped
  have h1 := layA_steps rows
  have h2 : PyData.depthAll (stepsD rows) ≤ 1 := depAll.mpr fun d hd => by
    obtain ⟨s, rfl⟩ := step_of_mem hd
    rw [stepD_eq]
    have := dep_str1 (wordS s) (restS s)
    simp [PyData.depth, this]
  have : decide ((PyData.list (stepsD rows)).depth ≤ 64) = true := decide_eq_true (by simp only [PyData.depth]; omega)
  rw [this]
  simp [PyData.canLay0, h1]
theorem eqv_str1 (z y : Str) (a b : List Int) : PyData.eqv (.tuple (PyData.str z :: a.map PyData.int)) (.tuple (PyData.str y :: b.map PyData.int)) = (z == y && decide (a = b)) := by
  simp [PyData.eqv, PyData.eqvAll, eqv_ints]
theorem any_steps {rows : List (List Wy)} (h2 : 2 ≤ rows.length) (z : Str) (ns : List Int) : ((stepsD rows).any fun e => PyData.eqv e (.tuple (PyData.str z :: ns.map PyData.int))) = true ↔ IsS rows (.tuple (PyData.str z :: ns.map PyData.int)) := by
  rw [List.any_eq_true, ← mem_steps h2]
  constructor
  · rintro ⟨e, he, hq⟩
    obtain ⟨s, rfl⟩ := step_of_mem he
    rw [stepD_eq] at he hq
    rw [eqv_str1] at hq
    obtain ⟨q1, q2⟩ := Bool.and_eq_true_iff.mp hq
    rw [← eq_of_beq q1, ← of_decide_eq_true q2]
    exact he
  · intro h
    exact ⟨_, h, by rw [eqv_str1]; simp⟩
/-! a stand that is one -/
theorem stB_ok {rows : List (List Wy)} {d : PyData} (h : stB rows d = true) (hsm : SmS d) : ∃ ts ks : List Wy, d = standD ts ks ∧ StOk rows ts ks := by
  unfold stB at h
  split at h
  rotate_left
  · cases h
  rename_i a b
  obtain ⟨h1, h⟩ := Bool.and_eq_true_iff.mp h
  obtain ⟨h2, h3⟩ := Bool.and_eq_true_iff.mp h
  obtain ⟨t1, t2, t3, t4⟩ := tk_ok h1
  obtain ⟨h4, h5⟩ := Bool.and_eq_true_iff.mp (show (isTu b && decide (V.int ((itemsT b).length : Int) = V.int ((linesW rows).length : Int))) = true from h2)
  have hn : (itemsT b).length = (linesW rows).length := by have := of_decide_eq_true h5; injection this; omega
  obtain ⟨bs, rfl⟩ : ∃ bs, b = .tuple bs := by
    cases b with
    | tuple bs => exact ⟨bs, rfl⟩
    | _ => simp [isTu] at h4
  have hn' : bs.length = (linesW rows).length := hn
  have h3' : ((List.range bs.length).map fun i => ((bs[i]?).map (hdB (restsW rows ((linesW rows).getD i [])))).getD false).all id = true := by
    rw [hn']
    exact h3
  have hc : ∀ i x, bs[i]? = some x → hdB (restsW rows ((linesW rows).getD i [])) x = true := fun i x e => all_range (g := fun i => hdB (restsW rows ((linesW rows).getD i []))) h3' e
  refine ⟨(itemsT a).map rts, bs.map rts, ?_, ⟨⟨by rw [List.length_map]; exact t3, fun i x hx => ?_⟩, by rw [List.length_map]; exact hn', fun i x hx => ?_⟩⟩
  · unfold standD
    congr 1
    congr 1
    · refine t1.trans ?_
      congr 1
      unfold tkOf
      rw [List.map_map, List.map_map]
      rfl
    · congr 1
      congr 1
      rw [List.map_map]
      refine (List.map_id bs).symm.trans (List.map_congr_left fun y hy => ?_)
      obtain ⟨k, hk⟩ := List.mem_iff_getElem?.mp hy
      exact intsB_wd (Bool.and_eq_true_iff.mp (hc k y hk)).1
  · rw [List.getElem?_map] at hx
    cases hd : (itemsT a)[i]? with
    | none => rw [hd] at hx; cases hx
    | some y =>
      rw [hd] at hx
      rw [← (Option.some.inj hx : rts y = x)]
      exact of_decide_eq_true (Bool.and_eq_true_iff.mp (t4 i y hd)).2
  · rw [List.getElem?_map] at hx
    cases hd : bs[i]? with
    | none => rw [hd] at hx; cases hx
    | some y =>
      rw [hd] at hx
      rw [← (Option.some.inj hx : rts y = x)]
      obtain ⟨q1, q2⟩ := Bool.and_eq_true_iff.mp (hc i y hd)
      have hl := hsm (.tuple bs) (by simp [itemsT]) y (List.mem_of_getElem? hd)
      refine ⟨?_, ?_⟩
      · rcases Bool.or_eq_true_iff.mp q2 with z | z
        · exact .inl (of_decide_eq_true z)
        · exact .inr (of_decide_eq_true z)
      · unfold rts
        rw [List.length_map]
        exact hl
def isStr : PyData → Bool
  | .str _ => true
  | _ => false
theorem kit_str (d : PyData) : kitB (tyN d) "str" = some (isStr d) := by
  cases d with
  | none => exact show kitB "NoneType" "str" = some false by decide +kernel
  | bool b => exact show kitB "bool" "str" = some false by decide +kernel
  | int i => exact show kitB "int" "str" = some false by decide +kernel
  | str z => exact show kitB "str" "str" = some true by decide +kernel
  | list ds => exact show kitB "list" "str" = some false by decide +kernel
  | tuple ds => exact show kitB "tuple" "str" = some false by decide +kernel
  | dict ds => exact show kitB "dict" "str" = some false by decide +kernel
section
variable {P : Program} {w : World} {K : PySem.W.Frag} {mg : Str → Option Value} {base : Heap} {f : Addr} {fd : FuncData} {CW CN CK : Addr}
/-- all([.. for x in t]), t a tuple that may be new -/
theorem ev_allS {tl te : TE} {σ : L2.St} {H : Hp} {xs : List V} {j : Nat} {vs : List Nat} (g : Nat → Bool) (h : EvS tl σ H xs) (hz : xs.length ≤ 40000) (hw : ∀ x, wipe ((wipe σ vs).set j (some x)) vs = wipe σ vs)
    (he : ∀ (i : Nat) (x : V) H1, Ex H H1 → xs[i]? = some x → Ev te ((wipe σ vs).set j (some x)) H1 (.bl (g i))) :
    Ev (tCB (rAll K) (tCons (tLc (iTup K tl) (gName j) tYes te vs) tNil)) σ H (.bl (((List.range xs.length).map g).all id)) := fun H1 e Q q =>
  h H1 e _ fun p H2 e2 hp => (ev_allT (K := K) (tl := tC (.ref p)) g ev_c (st_of hp) hz hw (fun i x H3 e3 hx => he i x H3 ((e.trans e2).trans e3) hx)) H2 (Ex.refl _) Q fun H3 e3 => q H3 (e2.trans e3)
/-! is_step_of -/
def HdOk (d : PyData) : Prop := ∀ z r, d = .tuple (.str z :: r) → PyData.strOk z = true
abbrev spStp (CK CW : Addr) : Sp := spP fun H vs z => ∃ (x wv : Addr) (rows : List (List Wy)) (v : V) (d : PyData) (b : Bool), vs = [.ref x, v] ∧ WkO CK CW H x (.ref wv) rows ∧ Dq H v d ∧ HdOk d ∧ (itemsT d).length ≤ 1000 ∧ (b = true ↔ IsS rows d) ∧ z = .bl b
abbrev nStp : List Str := ["works", "thing", "item"]
def gsB (rows : List (List Wy)) : PyData → Bool
  | .tuple (.str z :: e :: es) => (e :: es).all isI && (stepsD rows).any fun y => PyData.eqv y (.tuple (.str z :: e :: es))
  | _ => false
theorem isI_rts {ds : List PyData} (h : ds.all isI = true) : ds = (rts (.tuple ds)).map PyData.int := by
  have z : intsB (.tuple ds) = true := by
    unfold intsB
    exact Bool.and_eq_true_iff.mpr ⟨rfl, h⟩
  have q := intsB_wd z
  unfold wd at q
  injection q
theorem gsB_is {rows : List (List Wy)} (hG : GW rows) (h8 : rows.length ≤ 8) (h2 : 2 ≤ rows.length) (d : PyData) : gsB rows d = true ↔ IsS rows d := by
  constructor
  · intro h
    unfold gsB at h
    split at h
    · rename_i z e es
      obtain ⟨q1, q2⟩ := Bool.and_eq_true_iff.mp h
      have ei := isI_rts q1
      rw [ei] at q2 ⊢
      exact (any_steps h2 _ _).mp q2
    · cases h
  · intro h
    have h' := h
    obtain ⟨s, hs, rfl⟩ := h
    have hne : ∃ e es, restS s = e :: es := by
      cases s with
      | inl p =>
        obtain ⟨u, v, rfl, _⟩ := ln_shape hG h8 hs
        exact ⟨_, _, rfl⟩
      | inr r => exact ⟨_, _, rfl⟩
    obtain ⟨e, es, he⟩ := hne
    rw [stepD_eq, he] at h' ⊢
    unfold gsB
    refine Bool.and_eq_true_iff.mpr ⟨?_, (any_steps h2 _ _).mpr h'⟩
    rw [List.all_eq_true]
    intro y hy
    have hy' : y ∈ (e :: es).map PyData.int := hy
    obtain ⟨n, _, rfl⟩ := List.mem_map.mp hy'
    rfl
end
end Wk

set_option Elab.async false
set_option linter.all false
set_option maxRecDepth 100000
set_option maxHeartbeats 1000000
namespace Wk
open PySem PySem.Spec PyProof.Rows L2 Evl
/-! what is due, and rest -/
def stepsW (rows : List (List Wy)) : List Stp := (linesW rows).map .inl ++ (List.range (rows.length - 1)).map fun i => .inr (i + 1)
theorem stepsD_W (rows : List (List Wy)) : stepsD rows = (stepsW rows).map stepD := by
  unfold stepsD stepsW
  rw [List.map_append, List.map_map, List.map_map]
  rfl
theorem stepsW_ok {rows : List (List Wy)} (h2 : 2 ≤ rows.length) {s : Stp} : s ∈ stepsW rows ↔ StpOk rows s := by
  unfold stepsW
  rw [List.mem_append, List.mem_map, List.mem_map]
  constructor
  · rintro (⟨p, hp, rfl⟩ | ⟨i, hi, rfl⟩)
    · exact hp
    · have := List.mem_range.mp hi
      exact ⟨by omega, by omega⟩
  · intro h
    cases s with
    | inl p => exact .inl ⟨p, h, rfl⟩
    | inr r =>
      obtain ⟨h1, h2⟩ := (show 1 ≤ r ∧ r < rows.length from h)
      exact .inr ⟨r - 1, List.mem_range.mpr (by omega), by rw [show r - 1 + 1 = r by omega]⟩
def dueW (rows : List (List Wy)) (ts ks : List Wy) : List Stp := (stepsW rows).filter fun s => !decide (mvW rows ts ks s = (ts, ks))
structure Rst (rows : List (List Wy)) (ts ks : List Wy) : Prop where
  tell : ∀ (i : Nat) (p : Wy), (linesW rows)[i]? = some p → ks[i]? = some (tellW rows ts p)
  choose : ∀ r : Nat, 1 ≤ r → r < rows.length → ts[r]? = some (chooseW rows ks r)
theorem set_same? {l : List Wy} {i : Nat} {x : Wy} (h : i < l.length) : l.set i x = l ↔ l[i]? = some x := by
  rw [set_same h, List.getElem?_eq_getElem h, Option.some.injEq]
theorem due_rest {rows : List (List Wy)} {ts ks : List Wy} (h2 : 2 ≤ rows.length) (tl : ts.length = rows.length) (kl : ks.length = (linesW rows).length) : dueW rows ts ks = [] ↔ Rst rows ts ks := by
  unfold dueW
  rw [List.filter_eq_nil_iff]
  constructor
  · intro h
    have h' : ∀ s, StpOk rows s → mvW rows ts ks s = (ts, ks) := fun s hs => by
      have := h s ((stepsW_ok h2).mpr hs)
      simpa using this
    refine ⟨fun i p hp => ?_, fun r h1 hr => ?_⟩
    · have hi := (List.getElem?_eq_some_iff.mp hp).1
      have z : ks.set ((linesW rows).idxOf p) (tellW rows ts p) = ks := congrArg Prod.snd (h' (.inl p) (List.mem_of_getElem? hp))
      have e : (linesW rows).idxOf p = i := by
        have hn := ln_nd rows
        have hx := List.idxOf_lt_length_iff.mpr (List.mem_of_getElem? hp)
        have h3 : (linesW rows)[(linesW rows).idxOf p] = (linesW rows)[i] := by
          rw [List.getElem_idxOf hx]
          exact (List.getElem?_eq_some_iff.mp hp).2.symm
        exact (List.getElem_inj hn).mp h3
      rw [e] at z
      exact (set_same? (by omega)).mp z
    · have z : ts.set r (chooseW rows ks r) = ts := congrArg Prod.fst (h' (.inr r) ⟨h1, hr⟩)
      exact (set_same? (by omega)).mp z
  · intro h s hs
    have hs' := (stepsW_ok h2).mp hs
    have : mvW rows ts ks s = (ts, ks) := by
      cases s with
      | inl p =>
        have hx := List.idxOf_lt_length_iff.mpr (show p ∈ linesW rows from hs')
        have hg : (linesW rows)[(linesW rows).idxOf p]? = some p := by rw [List.getElem?_eq_getElem hx, List.getElem_idxOf hx]
        show (ts, ks.set ((linesW rows).idxOf p) (tellW rows ts p)) = (ts, ks)
        rw [(set_same? (by omega)).mpr (h.tell _ p hg)]
      | inr r =>
        obtain ⟨h1, hr⟩ := (show 1 ≤ r ∧ r < rows.length from hs')
        show (ts.set r (chooseW rows ks r), ks) = (ts, ks)
        rw [(set_same? (by omega)).mpr (h.choose r h1 hr)]
    simp [this]
/-- two stands at rest -/
theorem rst_ts {rows : List (List Wy)} {ts ks ks' : List Wy} (h : Rst rows ts ks) (h' : Rst rows ts ks') (kl : ks.length = (linesW rows).length) (kl' : ks'.length = (linesW rows).length) : ks = ks' := by
  apply List.ext_getElem?
  intro i
  by_cases c : i < (linesW rows).length
  · rw [h.tell i _ (List.getElem?_eq_getElem c), h'.tell i _ (List.getElem?_eq_getElem c)]
  · rw [List.getElem?_eq_none (by omega), List.getElem?_eq_none (by omega)]
theorem rst_ks {rows : List (List Wy)} {ts ts' ks : List Wy} (h : Rst rows ts ks) (h' : Rst rows ts' ks) (tl : ts.length = rows.length) (tl' : ts'.length = rows.length) (h0 : ts[0]? = ts'[0]?) : ts = ts' := by
  apply List.ext_getElem?
  intro i
  cases i with
  | zero => exact h0
  | succ i =>
    by_cases c : i + 1 < rows.length
    · rw [h.choose _ (by omega) c, h'.choose _ (by omega) c]
    · rw [List.getElem?_eq_none (by omega), List.getElem?_eq_none (by omega)]
theorem full0 {rows : List (List Wy)} {ts : List Wy} (h2 : 2 ≤ rows.length) (h : FullT rows ts) : ts[0]? = some [0] := by
  have hl := h.len
  have hg := List.getElem?_eq_getElem (l := ts) (i := 0) (by omega)
  have := h.ok 0 _ hg
  unfold chW at this
  rw [if_pos rfl, List.mem_singleton] at this
  rw [hg, this]
/-- the way that is the best by what is taken, by what is told -/
theorem best_find {t : List (Option Wy)} : ∀ {ws : List Wy}, best t ws = (ws.find? (hit t)).getD []
  | [] => rfl
  | w :: ws => by
    unfold best
    rw [List.find?_cons]
    cases h : hit t w with
    | true => rfl
    | false =>
      rw [if_neg (by decide)]
      exact best_find
theorem hr_hit {rows : List (List Wy)} {ts ks : List Wy} (hG : GW rows) (h2 : 2 ≤ rows.length) (h8 : rows.length ≤ 8) (hT : FullT rows ts) (hk : ∀ (i : Nat) (p : Wy), (linesW rows)[i]? = some p → ks[i]? = some (tellW rows ts p)) {r : Nat} {row : List Wy} (hr : rows[r]? = some row) {w : Wy} (hw : w ∈ row) : hrB rows ks r w = hit (ts.map some) w := by
  have ok := hG.ok r row hr w hw
  have hl2 := ok.l2
  unfold hrB hit
  by_cases c : w.length = 2
  · have hlast := ok.lt
    rw [List.getLast?_eq_getElem?, c] at hlast
    have e1 : w.getD 1 0 = 0 := by
      rw [List.getD_eq_getElem?_getD]
      show (w[1]?).getD 0 = 0
      rw [show w[1]? = some 0 from hlast]
      rfl
    have ed : w.drop 1 = [0] := by
      match w, c with
      | [a, b], _ =>
        have hb : b = 0 := by simpa using hlast
        rw [hb]
        rfl
    rw [decide_eq_true c, Bool.true_or, e1, ed]
    show true = decide ((ts.map some).getD 0 none = some [0])
    rw [List.getD_eq_getElem?_getD, List.getElem?_map, full0 h2 hT]
    rfl
  · have hm := ln_way hG h8 hr hw (wy_sec ok c)
    have hx := List.idxOf_lt_length_iff.mpr hm
    have hg : (linesW rows)[(linesW rows).idxOf [w.getD 1 0, (r : Int)]]? = some [w.getD 1 0, (r : Int)] := by rw [List.getElem?_eq_getElem hx, List.getElem_idxOf hx]
    have hkk := hk _ _ hg
    rw [decide_eq_false c, Bool.false_or, List.getD_eq_getElem?_getD, hkk]
    obtain ⟨u, v, e, h1, hun, hv1, hvn⟩ := ln_shape hG h8 hm
    injection e with eu e
    injection e with ev _
    obtain rfl : r = v := by omega
    obtain ⟨t, htu⟩ : ∃ t, ts[u]? = some t := ⟨_, List.getElem?_eq_getElem (show u < ts.length by rw [hT.len]; exact hun)⟩
    have hrw : rows.getD r [] = row := by rw [List.getD_eq_getElem?_getD, hr]; rfl
    have etl : tellW rows ts [w.getD 1 0, (r : Int)] = if ((r : Int) :: t) ∈ row then t else [] := by
      rw [eu]
      unfold tellW
      show (if ((r : Int) :: ts.getD u []) ∈ rows.getD r [] then ts.getD u [] else []) = _
      rw [hrw, List.getD_eq_getElem?_getD, htu]
      rfl
    rw [etl]
    show decide ((if ((r : Int) :: t) ∈ row then t else []) = w.drop 1) = decide ((ts.map some).getD (w.getD 1 0).toNat none = some (w.drop 1))
    rw [eu, Int.toNat_natCast, List.getD_eq_getElem?_getD, List.getElem?_map, htu]
    show decide ((if ((r : Int) :: t) ∈ row then t else []) = w.drop 1) = decide (some t = some (w.drop 1))
    have ew : w = (r : Int) :: w.drop 1 := by
      cases w with
      | nil => simp at hl2
      | cons a w =>
        have hh := ok.hd
        simp at hh
        rw [hh]
        rfl
    have hne : w.drop 1 ≠ [] := fun z => by
      have := congrArg List.length z
      rw [List.length_drop] at this
      simp at this
      omega
    rw [decide_eq_decide, Option.some.injEq]
    constructor
    · intro z
      by_cases cm : ((r : Int) :: t) ∈ row
      · rw [if_pos cm] at z
        exact z
      · rw [if_neg cm] at z
        exact absurd z.symm hne
    · intro z
      rw [if_pos (by rw [z, ← ew]; exact hw)]
      exact z
theorem choose_best {rows : List (List Wy)} {ts ks : List Wy} (hG : GW rows) (h2 : 2 ≤ rows.length) (h8 : rows.length ≤ 8) (hT : FullT rows ts) (hk : ∀ (i : Nat) (p : Wy), (linesW rows)[i]? = some p → ks[i]? = some (tellW rows ts p)) {r : Nat} (hr : r < rows.length) : chooseW rows ks r = best (ts.map some) (rows.getD r []) := by
  have hrw : rows[r]? = some rows[r] := List.getElem?_eq_getElem hr
  rw [best_find]
  unfold chooseW
  rw [List.getD_eq_getElem?_getD, hrw]
  show (rows[r].find? (hrB rows ks r)).getD [] = (rows[r].find? (hit (ts.map some))).getD []
  have : ∀ (l : List Wy), (∀ w ∈ l, w ∈ rows[r]) → l.find? (hrB rows ks r) = l.find? (hit (ts.map some)) := fun l => by
    induction l with
    | nil => intro _; rfl
    | cons a l ih =>
      intro h
      rw [List.find?_cons, List.find?_cons, hr_hit hG h2 h8 hT hk hrw (h a List.mem_cons_self), ih fun w hw => h w (List.mem_cons_of_mem _ hw)]
  rw [this _ fun w hw => hw]
theorem ls_iff {rows : List (List Wy)} {t : List (Option Wy)} : ∀ {m i : Nat}, lsB rows t m i = true ↔ ∀ r, i ≤ r → r < i + m → t.getD r none = some (best t (rows.getD r []))
  | 0, i => by
    constructor
    · intro _ r h1 h2; omega
    · intro _; rfl
  | m + 1, i => by
    unfold lsB
    by_cases c : t.getD i none = some (best t (rows.getD i []))
    · rw [if_pos c, ls_iff]
      constructor
      · intro h r h1 h2
        by_cases e : r = i
        · rw [e]; exact c
        · exact h r (by omega) (by omega)
      · intro h r h1 h2
        exact h r (by omega) (by omega)
    · rw [if_neg c]
      constructor
      · intro z; cases z
      · intro h
        exact absurd (h i (Nat.le_refl i) (by omega)) c
/-- a stand at rest takes an outcome -/
theorem rst_ok {rows : List (List Wy)} {ts ks : List Wy} (hG : GW rows) (h2 : 2 ≤ rows.length) (h8 : rows.length ≤ 8) (hT : FullT rows ts) (h : Rst rows ts ks) : okP rows ts = true := by
  rw [okP_ls hG h2 hT, ls_iff]
  intro r h1 hr
  have hr' : r < rows.length := by omega
  rw [← choose_best hG h2 h8 hT h.tell hr', List.getD_eq_getElem?_getD, List.getElem?_map, h.choose r h1 hr']
  rfl
/-- what the lines keep of what is taken -/
def keptW (rows : List (List Wy)) (ts : List Wy) : List Wy := (linesW rows).map (tellW rows ts)
theorem kept_len (rows : List (List Wy)) (ts : List Wy) : (keptW rows ts).length = (linesW rows).length := by unfold keptW; rw [List.length_map]
theorem kept_rst {rows : List (List Wy)} {ts : List Wy} (hG : GW rows) (h2 : 2 ≤ rows.length) (h8 : rows.length ≤ 8) (hT : FullT rows ts) (ho : okP rows ts = true) : Rst rows ts (keptW rows ts) := by
  have hk : ∀ (i : Nat) (p : Wy), (linesW rows)[i]? = some p → (keptW rows ts)[i]? = some (tellW rows ts p) := fun i p hp => by
    unfold keptW
    rw [List.getElem?_map, hp]
    rfl
  refine ⟨hk, fun r h1 hr => ?_⟩
  rw [okP_ls hG h2 hT, ls_iff] at ho
  have z := ho r h1 (by omega)
  rw [choose_best hG h2 h8 hT hk hr]
  rw [List.getD_eq_getElem?_getD, List.getElem?_map] at z
  cases hq : ts[r]? with
  | none => rw [hq] at z; cases z
  | some x => rw [hq] at z; exact z
theorem kept_ok {rows : List (List Wy)} {ts : List Wy} (hG : GW rows) (h8 : rows.length ≤ 8) (hT : FullT rows ts) : StOk rows ts (keptW rows ts) := by
  refine ⟨hT, kept_len rows ts, fun i x hx => ?_⟩
  unfold keptW at hx
  rw [List.getElem?_map] at hx
  cases hp : (linesW rows)[i]? with
  | none => rw [hp] at hx; cases hx
  | some p =>
    rw [hp] at hx
    have e : tellW rows ts p = x := Option.some.inj hx
    have eg : (linesW rows).getD i [] = p := by rw [List.getD_eq_getElem?_getD, hp]; rfl
    obtain ⟨u, v, rfl, h1, hun, _, _⟩ := ln_shape hG h8 (List.mem_of_getElem? hp)
    rw [eg]
    rw [heard_tell hG h8 hT (List.mem_of_getElem? hp)] at e
    split at e
    · rename_i hm
      rw [← e]
      exact ⟨.inr hm, Nat.le_trans (restLen hG hm) (by decide)⟩
    · rw [← e]
      exact ⟨.inl rfl, by simp⟩
end Wk

set_option Elab.async false
set_option linter.all false
set_option maxRecDepth 100000
set_option maxHeartbeats 2000000
namespace Wk
open PySem PySem.Spec PyProof.Rows L2 Evl
def freeB (rows : List (List Wy)) (ts ks : List Wy) (s : Stp) : Bool := !decide (mvW rows ts ks s = (ts, ks))
def dueL (rows : List (List Wy)) (ts ks : List Wy) : List PyData := (dueW rows ts ks).map stepD
theorem dueL_upTo (rows : List (List Wy)) (ts ks : List Wy) : (upTo (fun i => freeB rows ts ks ((stepsW rows).getD i (.inr 0))) (stepsW rows).length).map (fun i => stepD ((stepsW rows).getD i (.inr 0))) = dueL rows ts ks := upTo_filt (stepsW rows) (.inr 0) (freeB rows ts ks) stepD
theorem stepsW_at {rows : List (List Wy)} (h2 : 2 ≤ rows.length) {G : Hp} {us : List V} (h : DqA G us (stepsD rows)) {i : Nat} {x : V} (hx : us[i]? = some x) : ∃ s, (stepsW rows).getD i (.inr 0) = s ∧ StpOk rows s ∧ Dq G x (stepD s) := by
  rw [stepsD_W] at h
  obtain ⟨d, h1, h2'⟩ := h.get hx
  rw [List.getElem?_map] at h1
  cases hq : (stepsW rows)[i]? with
  | none => rw [hq] at h1; cases h1
  | some s =>
    rw [hq] at h1
    have e : stepD s = d := Option.some.inj h1
    refine ⟨s, by rw [List.getD_eq_getElem?_getD, hq]; rfl, (stepsW_ok h2).mp (List.mem_of_getElem? hq), by rw [e]; exact h2'⟩
theorem noL_step (s : Stp) : noL (stepD s) = true := by
  rw [stepD_eq]
  show noLA (PyData.str (wordS s) :: (restS s).map PyData.int) = true
  exact noLA_all fun d hd => by
    rcases List.mem_cons.mp hd with z | z
    · rw [z]; rfl
    · obtain ⟨i, _, rfl⟩ := List.mem_map.mp z
      rfl
section
variable {P : Program} {w : World} {K : PySem.W.Frag} {mg : Str → Option Value} {base : Heap} {f : Addr} {fd : FuncData} {CW CN CK CB : Addr}
/-! due_steps -/
def spDS (K : PySem.W.Frag) (CK CW : Addr) : Sp := fun vs H Q _ => ∃ (x wv : Addr) (rows : List (List Wy)) (sv : V) (ts ks : List Wy), vs = [.ref x, sv] ∧ WkO CK CW H x (.ref wv) rows ∧ StD K H sv ts ks ∧ StOk rows ts ks ∧
  ∀ H' S us, Ex H H' → H S = none → H' S = some (.lst us) → DqA (off S (Fr H H')) us (dueL rows ts ks) → Q (.ref S) H'
abbrev nDS : List Str := ["works", "stand", "step"]
/-! due, of a stand that is one -/
def spDue (K : PySem.W.Frag) (CW : Addr) : Sp := fun vs H Q _ => ∃ (wv : Addr) (rows : List (List Wy)) (sv : V) (ts ks : List Wy), vs = [.ref wv, sv] ∧ WO CW H (.ref wv) rows ∧ StD K H sv ts ks ∧ StOk rows ts ks ∧
  ∀ H' S us, Ex H H' → H S = none → H' S = some (.lst us) → DqA (off S H') us (dueL rows ts ks) → Q (.ref S) H'
abbrev nDue : List Str := ["wishes", "stand", "works"]
/-! done, of what is right -/
theorem stp_hd (s : Stp) : HdOk (stepD s) := fun z r h => by
  rw [stepD_eq] at h
  injection h with h
  injection h with h _
  injection h with h
  rw [← h]
  exact word_ok s
theorem stp_len {rows : List (List Wy)} {s : Stp} (hG : GW rows) (h8 : rows.length ≤ 8) (h : StpOk rows s) : (itemsT (stepD s)).length ≤ 1000 := by
  cases s with
  | inl p =>
    obtain ⟨u, v, rfl, _⟩ := ln_shape hG h8 h
    show 3 ≤ 1000
    omega
  | inr r =>
    show 2 ≤ 1000
    omega
theorem ev_stp {σ : L2.St} {H : Hp} {ta : TA} {x wv : Addr} {rows : List (List Wy)} {v : V} {s : Stp} (ha : EvA ta σ H [.ref x, v]) (hk : WkO CK CW H x (.ref wv) rows) (hv : Dq H v (stepD s)) (hs : StpOk rows s) : Ev (tCall (spStp CK CW) [] E0 ta) σ H (.bl true) :=
  ev_call ha (spP_v fun H2 e2 => ⟨x, wv, rows, v, stepD s, true, rfl, hk.up e2, hv.mono e2, stp_hd s, stp_len hk.wo.g hk.wo.n8 hs, ⟨fun _ => ⟨s, hs, rfl⟩, fun _ => rfl⟩, rfl⟩)
/-! is_row -/
abbrev spIsRow (K : PySem.W.Frag) : Sp := spP fun H vs z => ∃ (v : V) (ds : List PyData), vs = [v] ∧ Dp K H v (.list ds) ∧ z = .bl true
end
end Wk

set_option Elab.async false
set_option linter.all false
set_option maxRecDepth 100000
set_option maxHeartbeats 2000000
namespace Wk
open PySem PySem.Spec PyProof.Rows L2 Evl
theorem layA_stp (ss : List Stp) : PyData.canLayAll0 (ss.map stepD) = true := layAll.mpr fun d hd => by
  obtain ⟨s, _, rfl⟩ := List.mem_map.mp hd
  rw [stepD_eq]
  simp only [PyData.canLay0]
  exact lay_str1 (word_ok s) _
theorem stps_at {G : Hp} {us : List V} {ss : List Stp} (h : DqA G us (ss.map stepD)) {i : Nat} {y : V} (hy : us[i]? = some y) : ∃ s, ss[i]? = some s ∧ Dq G y (stepD s) := by
  obtain ⟨d, h1, h2⟩ := h.get hy
  rw [List.getElem?_map] at h1
  cases hs : ss[i]? with
  | none => rw [hs] at h1; cases h1
  | some s =>
    rw [hs] at h1
    rw [← (Option.some.inj h1 : stepD s = d)] at h2
    exact ⟨s, rfl, h2⟩
section
variable {P : Program} {w : World} {K : PySem.W.Frag} {mg : Str → Option Value} {base : Heap} {f : Addr} {fd : FuncData} {CW CN CK CT CR : Addr}
/-! first_stand, begin -/
def spFirstD (K : PySem.W.Frag) (CK CW : Addr) : Sp := fun vs H Q _ => ∃ (x wv : Addr) (rows : List (List Wy)), vs = [.ref x] ∧ WkO CK CW H x (.ref wv) rows ∧ ∀ H' u, Ex H H' → StD K H' u (begT rows) (begK rows) → Q u H'
theorem tf_new (kw pa : Addr) (sv : V) : Tf (putF "past" (.ref pa) (putF "many" (.int 0) (putF "stand" sv (putF "_works" (.ref kw) [])))) kw sv pa 0 := by
  refine ⟨?_, ?_, ?_, lk_putS, ?_, ?_, ?_, ?_, ?_, ?_, ?_, ?_⟩
  · rw [lk_putF (by decide +kernel), lk_putF (by decide +kernel), lk_putF (by decide +kernel)]; exact lk_putS
  · rw [lk_putF (by decide +kernel), lk_putF (by decide +kernel)]; exact lk_putS
  · rw [lk_putF (by decide +kernel)]; exact lk_putS
  · rw [lk_putF (by decide +kernel), lk_putF (by decide +kernel), lk_putF (by decide +kernel), lk_putF (by decide +kernel)]; rfl
  · rw [lk_putF (by decide +kernel), lk_putF (by decide +kernel), lk_putF (by decide +kernel), lk_putF (by decide +kernel)]; rfl
  · rw [lk_putF (by decide +kernel), lk_putF (by decide +kernel), lk_putF (by decide +kernel), lk_putF (by decide +kernel)]; rfl
  · rw [lk_putF (by decide +kernel), lk_putF (by decide +kernel), lk_putF (by decide +kernel), lk_putF (by decide +kernel)]; rfl
  · rw [lk_putF (by decide +kernel), lk_putF (by decide +kernel), lk_putF (by decide +kernel), lk_putF (by decide +kernel)]; rfl
  · rw [lk_putF (by decide +kernel), lk_putF (by decide +kernel), lk_putF (by decide +kernel), lk_putF (by decide +kernel)]; rfl
  · rw [lk_putF (by decide +kernel), lk_putF (by decide +kernel), lk_putF (by decide +kernel), lk_putF (by decide +kernel)]; rfl
  · have h1 := len_putF "past" (.ref pa) (putF "many" (.int 0) (putF "stand" sv (putF "_works" (.ref kw) [])))
    have h2 := len_putF "many" (.int 0) (putF "stand" sv (putF "_works" (.ref kw) []))
    have h3 := len_putF "stand" sv (putF "_works" (.ref kw) [])
    have h4 := len_putF "_works" (.ref kw) []
    simp only [List.length_nil] at h4
    omega
/-! Talk.__init__ -/
theorem WkO.hide {CT : Addr} {H : Hp} {k x dx wv : Addr} {fs : List (Str × V)} {rows : List (List Wy)} (h : WkO CK CW H k (.ref wv) rows) (hx : H x = some (.ins CT dx fs)) (nk : k ≠ x) (nw : wv ≠ x) {H' : Hp} (o : Of1 x H H') : WkO CK CW H' k (.ref wv) rows := by
  obtain ⟨dk, Pd, Sd, fk, kvs, hv, ov, us, h1, fw, fp, fh, fo, fs', hP, hpk, hh, ho, hSd, hus⟩ := h.ex
  have nP : Pd ≠ x := fun z => by rw [z, hx] at hP; cases hP
  have nS : Sd ≠ x := fun z => by rw [z, hx] at hSd; cases hSd
  refine ⟨⟨dk, Pd, Sd, fk, kvs, hv, ov, us, o _ _ nk h1, fw, fp, fh, fo, fs', o _ _ nP hP, hpk, dq_of1 o hx hh, dq_of1 o hx ho, o _ _ nS hSd, ?_⟩, h.wo.of1 nw o hx⟩
  refine dqa_of1 (x := x) (C := CT) (dx := dx) (fs := fs) (fun b u nb hb => ?_) (by rw [off_at (Ne.symm nS)]; exact hx) hus
  have nbS : b ≠ Sd := fun z => by rw [z] at hb; unfold off at hb; rw [if_pos rfl] at hb; cases hb
  rw [off_at nbS] at hb ⊢
  exact o b u nb hb
def spTI (K : PySem.W.Frag) (CT CK CW : Addr) : Sp := fun vs H Q _ => ∃ (x dx wv : Addr) (rows : List (List Wy)), vs = [.ref x, .ref wv] ∧ H x = some (.ins CT dx []) ∧ wv ≠ x ∧ WO CW H (.ref wv) rows ∧ ∀ H' pa kw, Of1 x H H' → (∀ b, H' b = none → H b = none) → H pa = none → TaO K CT CK CW H' x pa wv kw rows (begT rows, begK rows) [] → Q .non H'
abbrev nTI : List Str := ["self", "wishes"]
end
end Wk

set_option Elab.async false
set_option linter.all false
set_option maxRecDepth 100000
set_option maxHeartbeats 2000000
namespace Wk
open PySem PySem.Spec PyProof.Rows L2 Evl
theorem take_all {α : Type} (l : List α) : l.take l.length = l := List.take_length
section
variable {P : Program} {w : World} {K : PySem.W.Frag} {mg : Str → Option Value} {base : Heap} {f : Addr} {fd : FuncData} {CW CN CK CT CR : Addr}
theorem TaO.wk {H : Hp} {x pa wv kw : Addr} {rows : List (List Wy)} {st : St2} {past : List St2} {σ : L2.St} {te : TE} (T : TTx K CT) (hT : TaO K CT CK CW H x pa wv kw rows st past) (h : Ev te σ H (.ref x)) : WkO CK CW H kw (.ref wv) rows ∧ Ev (tFld K te "_works") σ H (.ref kw) := by
  obtain ⟨dx, fs, sv, us, hx, tf, hp, hk, hsv, hps⟩ := hT.ex
  exact ⟨hk.up hd_sub, fun H1 e Q q => h H1 e _ fun H2 e2 => ⟨x, CT, dx, fs, _, rfl, (e.trans e2) _ _ hx, T.cl, T.n1, tf.wk, q H2 e2⟩⟩
/-! Talk.run -/
def spRun (K : PySem.W.Frag) (CT CK CW : Addr) : Sp := fun vs H Q _ => ∃ (x pa wv kw la : Addr) (us : List V) (rows : List (List Wy)) (st : St2) (past : List St2) (ss : List Stp), vs = [.ref x, .ref la] ∧ TaO K CT CK CW H x pa wv kw rows st past ∧ past.length + ss.length ≤ 20000 ∧ Hd H x pa la = some (.lst us) ∧ DqA (Hd H x pa) us (ss.map stepD) ∧ (∀ s ∈ ss, StpOk rows s) ∧
  ∀ H', Tn x pa pa H H' → TaO K CT CK CW H' x pa wv kw rows (runW rows st ss) (past ++ wayW rows st ss) → Q (.int (chgW rows st ss : Int)) H'
abbrev nRun : List Str := ["self", "steps", "step", "changes"]
end
end Wk

set_option Elab.async false
set_option linter.all false
set_option maxRecDepth 100000
set_option maxHeartbeats 2000000
namespace Wk
open PySem PySem.Spec PyProof.Rows L2 Evl
theorem lay_stand (ts ks : List Wy) : (standD ts ks).canLay0 = true := by
  unfold standD
  simp only [PyData.canLay0, PyData.canLayAll0, lay_wds, Bool.and_true]
theorem shaped_stand (ts ks : List Wy) : SeqAt.shaped (standD ts ks) = true := by
  unfold SeqAt.shaped
  have h1 := dep_wds ts
  have h2 := dep_wds ks
  have : decide ((standD ts ks).depth ≤ 64) = true := decide_eq_true (by unfold standD; simp only [PyData.depth, PyData.depthAll]; omega)
  rw [this, lay_stand]
  rfl
theorem eqv_wds : ∀ a b : List Wy, PyData.eqvAll (a.map wd) (b.map wd) = decide (a = b)
  | [], [] => by simp [PyData.eqvAll]
  | [], _ :: _ => by simp [PyData.eqvAll]
  | _ :: _, [] => by simp [PyData.eqvAll]
  | x :: a, y :: b => by
    have ih := eqv_wds a b
    simp only [List.map_cons, PyData.eqvAll, eqv_wd, ih]
    by_cases h1 : x = y
    · subst h1
      by_cases h2 : a = b
      · subst h2; simp
      · simp [h2]
    · simp [h1]
theorem eqv_stand (a b c d : List Wy) : PyData.eqv (standD a b) (standD c d) = decide ((a, b) = (c, d)) := by
  unfold standD
  simp only [PyData.eqv, PyData.eqvAll, eqv_wds, Bool.and_true]
  by_cases h1 : a = c
  · subst h1
    by_cases h2 : b = d
    · subst h2; simp
    · simp [h2]
  · simp [h1]
theorem StOk.sh {rows : List (List Wy)} {ts ks : List Wy} (hG : GW rows) (h2 : 2 ≤ rows.length) (h : StOk rows ts ks) : ShS rows ts ks := by
  refine ⟨h.t.len, h.kl, fun x hx => ?_, fun x hx => ?_⟩
  · obtain ⟨i, hi⟩ := List.mem_iff_getElem?.mp hx
    have hc := h.t.ok i x hi
    unfold chW at hc
    split at hc
    · rw [List.mem_singleton.mp hc]
      exact ⟨by decide, fun j hj => by rw [List.mem_singleton.mp hj]; omega⟩
    · rcases List.mem_append.mp hc with z | z
      · rw [List.getD_eq_getElem?_getD] at z
        cases hr : rows[i]? with
        | none => rw [hr] at z; cases z
        | some row =>
          rw [hr] at z
          exact (hG.ok i row hr x z).ws
      · rw [List.mem_singleton.mp z]
        exact ws_nil rows
  · obtain ⟨i, hi⟩ := List.mem_iff_getElem?.mp hx
    rcases (h.ko i x hi).1 with z | z
    · rw [z]; exact ws_nil rows
    · exact restWS hG z
/-! the list of what is due -/
theorem due_mem {rows : List (List Wy)} {ts ks : List Wy} {d : PyData} (h : d ∈ dueL rows ts ks) : ∃ s ∈ stepsW rows, d = stepD s := by
  unfold dueL dueW at h
  obtain ⟨s, hs, rfl⟩ := List.mem_map.mp h
  exact ⟨s, (List.mem_filter.mp hs).1, rfl⟩
theorem due_len (rows : List (List Wy)) (ts ks : List Wy) (h8 : rows.length ≤ 8) : (dueL rows ts ks).length ≤ 100 := by
  unfold dueL dueW
  rw [List.length_map]
  refine Nat.le_trans (List.length_filter_le _ _) ?_
  have := lnw_len rows
  unfold stepsW
  rw [List.length_append, List.length_map, List.length_map, List.length_range]
  omega
theorem lay_due (rows : List (List Wy)) (ts ks : List Wy) : PyData.canLayAll0 (dueL rows ts ks) = true := layAll.mpr fun d hd => by
  obtain ⟨s, _, rfl⟩ := due_mem hd
  rw [stepD_eq]
  simp only [PyData.canLay0]
  exact lay_str1 (word_ok s) _
theorem shaped_due (rows : List (List Wy)) (ts ks : List Wy) : SeqAt.shaped (.list (dueL rows ts ks)) = true := by
  unfold SeqAt.shaped
  have h1 := lay_due rows ts ks
  have h2 : PyData.depthAll (dueL rows ts ks) ≤ 1 := depAll.mpr fun d hd => by
    obtain ⟨s, _, rfl⟩ := due_mem hd
    rw [stepD_eq]
    have := dep_str1 (wordS s) (restS s)
    simp [PyData.depth, this]
  have : decide ((PyData.list (dueL rows ts ks)).depth ≤ 64) = true := decide_eq_true (by simp only [PyData.depth]; omega)
  rw [this]
  simp [PyData.canLay0, h1]
theorem smx_due {rows : List (List Wy)} (hG : GW rows) (h2 : 2 ≤ rows.length) (h8 : rows.length ≤ 8) (ts ks : List Wy) : Smx 3 (.list (dueL rows ts ks)) := by
  refine .lst 2 _ (fun d hd => ?_) (Nat.le_trans (due_len rows ts ks h8) (by decide))
  obtain ⟨s, hs, rfl⟩ := due_mem hd
  rw [stepD_eq]
  have hr : (restS s).length ≤ 2 := by
    have hs' := (stepsW_ok h2).mp hs
    cases s with
    | inl p =>
      obtain ⟨u, v, rfl, _⟩ := ln_shape hG h8 hs'
      exact Nat.le_refl 2
    | inr r => show 1 ≤ 2; decide
  refine .tup 1 _ (fun d hd => ?_) (by rw [List.length_cons, List.length_map]; omega)
  rcases List.mem_cons.mp hd with z | z
  · rw [z]; exact .str 1 _
  · obtain ⟨i, _, rfl⟩ := List.mem_map.mp z
    exact .int 1 i
theorem noL_due (rows : List (List Wy)) (ts ks : List Wy) : noLA (dueL rows ts ks) = true := noLA_all fun d hd => by
  obtain ⟨s, _, rfl⟩ := due_mem hd
  exact noL_step s
theorem eqv_emD (ds : List PyData) : PyData.eqv (.list ds) (.list []) = decide (ds = []) := by
  cases ds <;> simp [PyData.eqv, PyData.eqvAll]
theorem due_nil {rows : List (List Wy)} {ts ks : List Wy} : dueL rows ts ks = [] ↔ dueW rows ts ks = [] := by
  unfold dueL
  exact List.map_eq_nil_iff
/-- a new list of what is due, compared -/
theorem ev_same {K : PySem.W.Frag} {σ : L2.St} {H : Hp} {i j : Nat} {v u : V} {d : PyData} (hi : σ[i]? = some (some v)) (hj : σ[j]? = some (some u)) (hv : Dp K H v d) (hu : Dp K H u d) (hd : Smx 3 d) : Ev (tCall (spSame K 3) [] E0 (tCons (tVar i) (tCons (tVar j) tNil))) σ H (.bl true) :=
  ev_call (ea_cons (ev_var hi) (ea_cons (ev_var hj) ea_nil)) (spP_v fun H1 e => ⟨v, u, d, rfl, Dp.up e hv, Dp.up e hu, hd, rfl⟩)
/-- x == [] -/
theorem ev_eqEm {K : PySem.W.Frag} {σ : L2.St} {H : Hp} {te : TE} {v : V} {d : PyData} {b : Bool} (h : Ev te σ H v) (hv : Dp K H v d) (hs : SeqAt.shaped d = true) (hb : PyData.eqv d (.list []) = b) : EvT (tTest (tOp (rEqD K) te (tLst tNil))) σ H b := et_test fun H1 e1 Q q => h H1 e1 _ fun H2 e2 => ⟨by show 0 ≤ sizeLine; decide, fun l hl => by
  have e3 := Ex.new (o := .lst ([] : List V)) hl
  refine ⟨d, .list [], Dp.up ((e1.trans e2).trans e3) hv, .lst (sq_of upd_same) .nil, hs, shaped_wds [], ?_⟩
  rw [hb]
  exact q _ (e2.trans e3)⟩
theorem map_wd_inj : ∀ {a b : List Wy}, a.map wd = b.map wd → a = b
  | [], [], _ => rfl
  | [], _ :: _, h => by cases h
  | _ :: _, [], h => by cases h
  | x :: a, y :: b, h => by
    rw [List.map_cons, List.map_cons] at h
    injection h with h1 h2
    rw [wd_inj h1, map_wd_inj h2]
theorem standD_inj {a b c d : List Wy} (h : standD a b = standD c d) : a = c ∧ b = d := by
  unfold standD at h
  injection h with h
  injection h with h1 h
  injection h with h2 _
  injection h1 with h1
  injection h2 with h2
  exact ⟨map_wd_inj h1, map_wd_inj h2⟩
theorem q_ifJ {b : Bool} {t : TT} {te : TE} {i : Nat} {tz : TS} {D : Ends} {σ : L2.St} {H : Hp} (h : EvT t σ H b) (J : V → Hp → Prop) (h1 : b = true → ∀ H1, Ex H H1 → ∀ Q : VK, (∀ v H2, J v H2 → Q v H2) → te σ H1 Q) (h2 : b = false → ∀ H1, Ex H H1 → ∃ v, σ.set i (some v) = σ ∧ J v H1) (k : ∀ v H2, J v H2 → tz D (σ.set i (some v)) H2) :
    tSeq (tIfS t (tAsg te (gName i)) tNext) tz D σ H :=
  q_when h (fun hb H1 e1 => h1 hb H1 e1 _ fun v H2 j => k v H2 j) (fun hb H1 e1 => by
    obtain ⟨v, e, j⟩ := h2 hb H1 e1
    have := k v H1 j
    rw [e] at this
    exact this)
/-- how wishes are made -/
structure Mkr (P : Program) (w : World) (K : PySem.W.Frag) (mg : Str → Option Value) (base : Heap) (CW CB : Addr) : Prop where
  tx : WTx K mg CW
  ex : ∃ (fI : Addr) (fd : FuncData), Mk K CW fI ∧ FnOk P w K mg base (L2.CX P w) 8 fI fd ["self", "lists"] (spWI CW CB) ∧ Binds K fd ["self", "lists"] []
/-! data of tuples stay with the tuples -/
mutual
theorem dq_kt {H H' : Hp} (kt : Kt H H') : ∀ {d : PyData} {v : V}, noL d = true → Dq H v d → Dq H' v d
  | .none, _, _, .non => .non
  | .bool _, _, _, .bl b => .bl b
  | .int _, _, _, .int i => .int i
  | .str _, _, _, .str x => .str x
  | .list _, _, h, .lst _ _ => by simp [noL] at h
  | .tuple _, _, h, .tup a b => .tup (kt.t _ _ a) (dqa_kt kt (by simpa [noL] using h) b)
  | .dict _, _, h, .dic _ => by simp [noL] at h
theorem dqa_kt {H H' : Hp} (kt : Kt H H') : ∀ {ds : List PyData} {vs : List V}, noLA ds = true → DqA H vs ds → DqA H' vs ds
  | [], _, _, .nil => .nil
  | d :: ds, _, h, .cons a t => by
    have h' : noL d = true ∧ noLA ds = true := by
      have z : (noL d && noLA ds) = true := h
      simpa using z
    exact .cons (dq_kt kt h'.1 a) (dqa_kt kt h'.2 t)
end
theorem noLA_stp (ss : List Stp) : noLA (ss.map stepD) = true := noLA_all fun d hd => by
  obtain ⟨s, _, rfl⟩ := List.mem_map.mp hd
  exact noL_step s
theorem smx_stand {rows : List (List Wy)} {ts ks : List Wy} (h8 : rows.length ≤ 8) (h : ShS rows ts ks) : Smx 3 (standD ts ks) := by
  have hw : ∀ (us : List Wy), (∀ x ∈ us, WS rows x) → us.length ≤ 1000 → Smx 2 (.tuple (us.map wd)) := fun us hu hl => .tup 1 _ (fun d hd => by
    obtain ⟨x, hx, rfl⟩ := List.mem_map.mp hd
    refine .tup 0 _ (fun e he => ?_) (by rw [List.length_map]; have := (hu x hx).1; omega)
    obtain ⟨i, _, rfl⟩ := List.mem_map.mp he
    exact .int 0 i) (by rw [List.length_map]; exact hl)
  have hl := lnw_len rows
  have h1 := h.tl
  have h2 := h.kl
  refine .tup 2 _ (fun d hd => ?_) (by simp)
  rcases List.mem_cons.mp hd with z | z
  · rw [z]; exact hw ts h.t8 (by omega)
  · rw [List.mem_singleton.mp z]; exact hw ks h.k8 (by omega)
end Wk

set_option Elab.async false
set_option linter.all false
set_option maxRecDepth 100000
set_option maxHeartbeats 2000000
namespace Wk
open PySem PySem.Spec PyProof.Rows L2 Evl
theorem row_inv {K : PySem.W.Frag} {n : Nat} {H : Hp} {u : V} {pre : List Wy} (h : RowAt K n H u pre) (hn : pre.length = n) : ∃ b xs, u = .ref b ∧ H b = some (.tup xs) ∧ DpAll K H xs (pre.map wd) ∧ xs.length = n := by
  subst hn
  obtain ⟨b, xs, h1, h2, h3⟩ := h
  rw [ptk_full, od_some] at h3
  exact ⟨b, xs, h1, h2, h3, by have := dpa_len h3; rw [List.length_map] at this; exact this⟩
theorem eqv_tks : ∀ a b : List Wy, PyData.eqvAll (a.map wd) (b.map wd) = decide (a = b)
  | [], [] => by simp [PyData.eqvAll]
  | [], _ :: _ => by simp [PyData.eqvAll]
  | _ :: _, [] => by simp [PyData.eqvAll]
  | x :: a, y :: b => by
    have ih := eqv_tks a b
    simp only [List.map_cons, PyData.eqvAll, ih, eqv_wd]
    by_cases h : x = y
    · subst h; simp
    · simp [h]
theorem eqv_tk (a b : List Wy) : PyData.eqv (tkd a) (tkd b) = decide (a = b) := eqv_tks a b
theorem any_tk (L : List (List Wy)) (x : List Wy) : ((L.map tkd).any fun z => PyData.eqv z (tkd x)) = decide (x ∈ L) := by
  induction L with
  | nil => rfl
  | cons a l ih =>
    rw [List.map_cons, List.any_cons, ih, eqv_tk]
    by_cases h : a = x
    · subst h; simp
    · rw [decide_eq_false h, Bool.false_or, decide_eq_decide]
      constructor
      · exact fun z => List.mem_cons_of_mem _ z
      · intro z
        rcases List.mem_cons.mp z with q | q
        · exact absurd q.symm h
        · exact q
theorem lay_tk (t : List Wy) : (tkd t).canLay0 = true := by
  simp only [tkd, PyData.canLay0]
  exact lay_wds t
theorem lay_tks (L : List (List Wy)) : PyData.canLayAll0 (L.map tkd) = true := layAll.mpr fun d hd => by
  obtain ⟨w, _, rfl⟩ := List.mem_map.mp hd
  exact lay_tk w
theorem dep_tks (L : List (List Wy)) : PyData.depthAll (L.map tkd) ≤ 2 := depAll.mpr fun d hd => by
  obtain ⟨w, _, rfl⟩ := List.mem_map.mp hd
  exact dep_tk w
theorem shaped_tk (t : List Wy) : SeqAt.shaped (tkd t) = true := by
  unfold SeqAt.shaped
  have h2 := dep_tk t
  rw [lay_tk t, decide_eq_true (show (tkd t).depth ≤ 64 by omega)]
  rfl
theorem shaped_tks (L : List (List Wy)) : SeqAt.shaped (.list (L.map tkd)) = true := by
  unfold SeqAt.shaped
  have h1 := lay_tks L
  have h2 := dep_tks L
  have : decide ((PyData.list (L.map tkd)).depth ≤ 64) = true := decide_eq_true (by simp only [PyData.depth]; omega)
  rw [this]
  simp [PyData.canLay0, h1]
theorem rw_dpa {K : PySem.W.Frag} {n : Nat} {H : Hp} {us : List V} {L : List (List Wy)} (h : RwT K n H us L) (hl : ∀ pre ∈ L, pre.length = n) : DpAll K H us (L.map tkd) := by
  induction h with
  | nil => exact .nil
  | cons a b ih =>
    obtain ⟨c, xs, rfl, h1, h2, _⟩ := row_inv a (hl _ List.mem_cons_self)
    exact .cons (.tup (st_of h1) h2) (ih fun pre hp => hl pre (List.mem_cons_of_mem _ hp))
theorem smx_tk (t : List Wy) (h1 : t.length ≤ 1000) (h2 : ∀ x ∈ t, x.length ≤ 1000) : Smx 2 (tkd t) := by
  refine .tup 1 _ (fun d hd => ?_) (by rw [List.length_map]; exact h1)
  obtain ⟨x, hx, rfl⟩ := List.mem_map.mp hd
  refine .tup 0 _ (fun d hd => ?_) (by rw [List.length_map]; exact h2 x hx)
  obtain ⟨i, _, rfl⟩ := List.mem_map.mp hd
  exact .int 0 i
theorem stp_inj {t s : Stp} (h1 : wordS t = wordS s) (h2 : restS t = restS s) : t = s := by
  cases t with
  | inl p =>
    cases s with
    | inl p' => exact congrArg Sum.inl h2
    | inr r' => exact absurd (show ("tell" : Str) = "choose" from h1) (by decide +kernel)
  | inr r =>
    cases s with
    | inl p' => exact absurd (show ("choose" : Str) = "tell" from h1) (by decide +kernel)
    | inr r' =>
      have h2' : [(r : Int)] = [(r' : Int)] := h2
      injection h2' with h2' _
      exact congrArg Sum.inr (by omega)
theorem any_due {rows : List (List Wy)} {ts ks : List Wy} {s : Stp} (h2 : 2 ≤ rows.length) (hs : StpOk rows s) : ((dueL rows ts ks).any fun e => PyData.eqv e (stepD s)) = !decide (mvW rows ts ks s = (ts, ks)) := by
  rw [Bool.eq_iff_iff, List.any_eq_true]
  constructor
  · rintro ⟨e, he, hq⟩
    unfold dueL dueW at he
    obtain ⟨t, ht, rfl⟩ := List.mem_map.mp he
    obtain ⟨_, hf⟩ := List.mem_filter.mp ht
    rw [stepD_eq, stepD_eq, eqv_str1] at hq
    obtain ⟨q1, q2⟩ := Bool.and_eq_true_iff.mp hq
    rw [stp_inj (eq_of_beq q1) (of_decide_eq_true q2)] at hf
    exact hf
  · intro hf
    refine ⟨stepD s, List.mem_map.mpr ⟨s, List.mem_filter.mpr ⟨(stepsW_ok h2).mpr hs, hf⟩, rfl⟩, ?_⟩
    rw [stepD_eq, eqv_str1]
    simp
theorem shaped_stp (s : Stp) : SeqAt.shaped (stepD s) = true := by
  rw [stepD_eq]
  exact shaped_str1 (word_ok s) _
theorem DqA.rev {G : Hp} : ∀ {us : List V} {ds : List PyData}, DqA G us ds → DqA G us.reverse ds.reverse
  | [], _, .nil => .nil
  | u :: us, d :: ds, .cons a t => by
    rw [List.reverse_cons, List.reverse_cons]
    exact (DqA.rev t).append (.cons a .nil)
/-- at rest no step changes the stand -/
theorem rest_go {rows : List (List Wy)} {st : St2} (h2 : 2 ≤ rows.length) (h : dueW rows st.1 st.2 = []) {s : Stp} (hs : StpOk rows s) : goW rows st s = st := by
  unfold dueW at h
  rw [List.filter_eq_nil_iff] at h
  have := h s ((stepsW_ok h2).mpr hs)
  have e : mvW rows st.1 st.2 s = (st.1, st.2) := by simpa using this
  exact e
theorem rest_run {rows : List (List Wy)} {st : St2} (h2 : 2 ≤ rows.length) (h : dueW rows st.1 st.2 = []) : ∀ {ss : List Stp}, (∀ s ∈ ss, StpOk rows s) → runW rows st ss = st ∧ chgW rows st ss = 0 ∧ wayW rows st ss = List.replicate ss.length st
  | [], _ => ⟨rfl, rfl, rfl⟩
  | a :: ss, hs => by
    have e := rest_go h2 h (hs a List.mem_cons_self)
    obtain ⟨i1, i2, i3⟩ := rest_run h2 h (ss := ss) fun s hm => hs s (List.mem_cons_of_mem _ hm)
    refine ⟨?_, ?_, ?_⟩
    · show runW rows (goW rows st a) ss = st
      rw [e, i1]
    · show (if goW rows st a = st then 0 else 1) + chgW rows (goW rows st a) ss = 0
      rw [if_pos e, e, i2]
    · show st :: wayW rows (goW rows st a) ss = _
      rw [e, i3]
      rfl
end Wk

set_option Elab.async false
set_option linter.all false
set_option maxRecDepth 100000
set_option maxHeartbeats 1000000
namespace Wk
open PySem PySem.Spec PyProof.Rows L2 Evl
/-! the steps that lead to an outcome -/
def stW (w : Wy) : List Stp := (if w.getD 1 0 = 0 then [] else [Sum.inl [w.getD 1 0, w.getD 0 0]]) ++ [.inr (w.getD 0 0).toNat]
def comW (rows : List (List Wy)) (ws : List Wy) : List Stp := ws.flatMap stW ++ (linesW rows).map .inl
theorem find_sub {p q : Wy → Bool} : ∀ {l : List Wy} {w : Wy}, (∀ x ∈ l, p x = true → q x = true) → l.find? q = some w → p w = true → l.find? p = some w
  | [], _, _, h, _ => by cases h
  | a :: l, w, hs, h, hp => by
    rw [List.find?_cons] at h ⊢
    cases hq : q a with
    | true =>
      rw [hq] at h
      have e : a = w := Option.some.inj h
      rw [e, hp]
    | false =>
      rw [hq] at h
      have : p a = false := by
        cases hpa : p a with
        | false => rfl
        | true => rw [hs a List.mem_cons_self hpa] at hq; cases hq
      rw [this]
      exact find_sub (fun x hx => hs x (List.mem_cons_of_mem _ hx)) h hp
/-- behind the ways us -/
structure CmI (rows : List (List Wy)) (ts us : List Wy) (st : St2) : Prop where
  tl : st.1.length = ts.length
  t : ∀ (i : Nat) (x : Wy), ts[i]? = some x → st.1[i]? = some (if i = 0 ∨ x ∈ us then x else [])
  kl : st.2.length = (linesW rows).length
  k0 : ∀ (j : Nat) (a b : Int), (linesW rows)[j]? = some [a, b] → ts.getD b.toNat [] ∉ us → st.2[j]? = some []
theorem cmI_beg {rows : List (List Wy)} {ts : List Wy} (h2 : 2 ≤ rows.length) (hT : FullT rows ts) : CmI rows ts [] (begT rows, begK rows) := by
  have hl := hT.len
  refine ⟨by show (begT rows).length = _; unfold begT; rw [List.length_cons, List.length_replicate]; omega, fun i x hx => ?_, by show (begK rows).length = _; unfold begK; rw [List.length_replicate], fun j a b hj _ => ?_⟩
  · show (begT rows)[i]? = _
    unfold begT
    cases i with
    | zero =>
      rw [if_pos (.inl rfl)]
      have := full0 h2 hT
      rw [hx] at this
      rw [this]
      rfl
    | succ i =>
      rw [if_neg (by simp), List.getElem?_cons_succ, List.getElem?_replicate, if_pos]
      have := (List.getElem?_eq_some_iff.mp hx).1
      omega
  · show (begK rows)[j]? = _
    unfold begK
    rw [List.getElem?_replicate, if_pos (List.getElem?_eq_some_iff.mp hj).1]
/-- what an outcome's way is -/
theorem out_way {rows : List (List Wy)} {ts : List Wy} (hG : GW rows) (h2 : 2 ≤ rows.length) (hT : FullT rows ts) (ho : okP rows ts = true) {r : Nat} {w : Wy} (h1 : 1 ≤ r) (hw : ts[r]? = some w) (hne : w ≠ []) : (rows.getD r []).find? (hit (ts.map some)) = some w := by
  have hr : r < rows.length := by have := (List.getElem?_eq_some_iff.mp hw).1; have := hT.len; omega
  rw [okP_ls hG h2 hT, ls_iff] at ho
  have z := ho r h1 (by omega)
  rw [List.getD_eq_getElem?_getD, List.getElem?_map, hw] at z
  have z2 : w = best (ts.map some) (rows.getD r []) := Option.some.inj z
  rw [best_find] at z2
  cases hq : (rows.getD r []).find? (hit (ts.map some)) with
  | none => rw [hq] at z2; exact absurd z2 hne
  | some y => rw [hq] at z2; rw [z2]; rfl
theorem ts_head {rows : List (List Wy)} {ts : List Wy} (hG : GW rows) (hT : FullT rows ts) {i : Nat} {w : Wy} (h : ts[i]? = some w) (hne : w ≠ []) : w.getD 0 0 = (i : Int) := by
  have hc := hT.ok i w h
  unfold chW at hc
  split at hc
  · rename_i c
    rw [List.mem_singleton.mp hc, c]
    rfl
  · rcases List.mem_append.mp hc with z | z
    · rw [List.getD_eq_getElem?_getD] at z
      cases hr : rows[i]? with
      | none => rw [hr] at z; cases z
      | some row =>
        rw [hr] at z
        have := (hG.ok i row hr w z).hd
        rw [List.getD_eq_getElem?_getD]
        cases w with
        | nil => exact absurd rfl hne
        | cons a w => simpa using this
    · exact absurd (List.mem_singleton.mp z) hne
theorem cmI_step {rows : List (List Wy)} {ts us : List Wy} {st : St2} (hG : GW rows) (h2 : 2 ≤ rows.length) (h8 : rows.length ≤ 8) (hT : FullT rows ts) (ho : okP rows ts = true) (hI : CmI rows ts us st) {r : Nat} {w : Wy} (h1 : 1 ≤ r) (hw : ts[r]? = some w) (hne : w ≠ []) (hu : w ∉ us)
    (hd : ∀ y : Wy, w.getD 1 0 ≠ 0 → ts[(w.getD 1 0).toNat]? = some y → y = w.drop 1 → y ∈ us) : CmI rows ts (us ++ [w]) (runW rows st (stW w)) ∧ ∀ s ∈ stW w, StpOk rows s := by
  have hr : r < rows.length := by have := (List.getElem?_eq_some_iff.mp hw).1; have := hT.len; omega
  have hrw : rows[r]? = some rows[r] := List.getElem?_eq_getElem hr
  have egr : rows.getD r [] = rows[r] := by rw [List.getD_eq_getElem?_getD, hrw]; rfl
  have hf := out_way hG h2 hT ho h1 hw hne
  rw [egr] at hf
  have hm := List.mem_of_find?_eq_some hf
  have hh := List.find?_some hf
  have ok := hG.ok r _ hrw w hm
  have hl2 := ok.l2
  have hhd := ts_head hG hT hw hne
  have er : (w.getD 0 0).toNat = r := by rw [hhd]; rfl
  have hrt : r < st.1.length := by rw [hI.tl]; exact (List.getElem?_eq_some_iff.mp hw).1
  have ew : w = (r : Int) :: w.drop 1 := by
    cases w with
    | nil => exact absurd rfl hne
    | cons a w =>
      have : a = (r : Int) := by simpa using hhd
      rw [this]
      rfl
  have uniq : ∀ (i : Nat) (x : Wy), ts[i]? = some x → x = w → i = r := fun i x hx e => by
    rw [e] at hx
    have := ts_head hG hT hx hne
    rw [hhd] at this
    omega
  -- what the choice is, whatever the line kept
  have key : ∀ (ks : List Wy), hrB rows ks r w = true → (∀ w' ∈ rows[r], w'.length ≠ 2 → ks.getD ((linesW rows).idxOf [w'.getD 1 0, (r : Int)]) [] = w'.drop 1 → w' = w) → chooseW rows ks r = w := fun ks hk hs => by
    unfold chooseW
    rw [egr, find_sub (p := hrB rows ks r) (fun x hx hp => ?_) hf hk]
    · rfl
    · unfold hrB at hp
      rcases Bool.or_eq_true_iff.mp hp with z | z
      · have c := of_decide_eq_true z
        have okx := hG.ok r _ hrw x hx
        have hlast := okx.lt
        rw [List.getLast?_eq_getElem?, c] at hlast
        match x, c with
        | [a, b], _ =>
          have hb : b = 0 := by simpa using hlast
          subst hb
          unfold hit
          show decide ((ts.map some).getD 0 none = some [0]) = true
          rw [List.getD_eq_getElem?_getD, List.getElem?_map, full0 h2 hT]
          rfl
      · by_cases c : x.length = 2
        · have okx := hG.ok r _ hrw x hx
          have hlast := okx.lt
          rw [List.getLast?_eq_getElem?, c] at hlast
          match x, c with
          | [a, b], _ =>
            have hb : b = 0 := by simpa using hlast
            subst hb
            unfold hit
            show decide ((ts.map some).getD 0 none = some [0]) = true
            rw [List.getD_eq_getElem?_getD, List.getElem?_map, full0 h2 hT]
            rfl
        · rw [hs x hx c (of_decide_eq_true z)]
          exact hh
  have tset : ∀ (i : Nat) (x : Wy), ts[i]? = some x → (st.1.set r w)[i]? = some (if i = 0 ∨ x ∈ us ++ [w] then x else []) := fun i x hx => by
    by_cases c : i = r
    · subst c
      rw [List.getElem?_set_self hrt]
      have e : x = w := by rw [hw] at hx; exact (Option.some.inj hx).symm
      rw [if_pos (.inr (by rw [e]; simp)), e]
    · rw [List.getElem?_set_ne (Ne.symm c), hI.t i x hx]
      have : x ∈ us ++ [w] ↔ x ∈ us := by
        rw [List.mem_append, List.mem_singleton]
        exact ⟨fun z => z.elim id fun z => absurd (uniq i x hx z) c, .inl⟩
      simp only [this]
  by_cases hv : w.getD 1 0 = 0
  · -- straight to the goal
    have c2 : w.length = 2 := by
      by_cases c : w.length = 2
      · exact c
      · exact absurd hv (wy_sec ok c)
    have es : stW w = [.inr r] := by unfold stW; rw [if_pos hv, er]; rfl
    rw [es]
    have ech : chooseW rows st.2 r = w := key st.2 (by unfold hrB; rw [decide_eq_true c2]; rfl) fun w' hw' hn he => by
      exfalso
      have hm' := ln_way hG h8 hrw hw' (wy_sec (hG.ok r _ hrw w' hw') hn)
      have hx := List.idxOf_lt_length_iff.mpr hm'
      have hg : (linesW rows)[(linesW rows).idxOf [w'.getD 1 0, (r : Int)]]? = some [w'.getD 1 0, (r : Int)] := by rw [List.getElem?_eq_getElem hx, List.getElem_idxOf hx]
      have z := hI.k0 _ _ _ hg (by rw [Int.toNat_natCast, List.getD_eq_getElem?_getD, hw]; exact hu)
      rw [List.getD_eq_getElem?_getD, z] at he
      have := congrArg List.length he
      have hl := (hG.ok r _ hrw w' hw').l2
      rw [List.length_drop] at this
      simp at this
      omega
    have eq : runW rows st [.inr r] = (st.1.set r w, st.2) := by
      show (st.1.set r (chooseW rows st.2 r), st.2) = _
      rw [ech]
    rw [eq]
    refine ⟨⟨by show (st.1.set r w).length = _; rw [List.length_set]; exact hI.tl, tset, hI.kl, fun j a b hj hn => hI.k0 j a b hj fun z => hn (List.mem_append_left _ z)⟩, fun s hs => ?_⟩
    rw [List.mem_singleton.mp hs]
    exact ⟨h1, hr⟩
  · -- by another router
    have c2 : w.length ≠ 2 := fun c => by
      have hlast := ok.lt
      rw [List.getLast?_eq_getElem?, c] at hlast
      match w, c with
      | [a, b], _ =>
        have hb : b = 0 := by simpa using hlast
        exact hv (by rw [hb]; rfl)
    have hln := ln_way hG h8 hrw hm (wy_sec ok c2)
    obtain ⟨v, v', e', hv1, hvn, hv1', hvn'⟩ := ln_shape hG h8 hln
    injection e' with e1 e'
    injection e' with e2 _
    obtain rfl : r = v' := by omega
    have hvt : v < ts.length := by rw [hT.len]; exact hvn
    have htv := List.getElem?_eq_getElem hvt
    -- what is taken there
    unfold hit at hh
    have hh' := of_decide_eq_true hh
    rw [e1, Int.toNat_natCast, List.getD_eq_getElem?_getD, List.getElem?_map, htv] at hh'
    have etv : ts[v] = w.drop 1 := Option.some.inj (Option.some.inj (congrArg some hh'))
    have hvu : ts[v] ∈ us := hd _ hv (by rw [e1, Int.toNat_natCast]; exact htv) etv
    have est : st.1[v]? = some (w.drop 1) := by rw [hI.t v _ htv, if_pos (.inr hvu), etv]
    have es : stW w = [.inl [(v : Int), (r : Int)], .inr r] := by unfold stW; rw [if_neg hv, er, e1, hhd]; rfl
    rw [es]
    have etl : tellW rows st.1 [(v : Int), (r : Int)] = w.drop 1 := by
      unfold tellW
      show (if ((r : Int) :: st.1.getD v []) ∈ rows.getD r [] then st.1.getD v [] else []) = _
      have : st.1.getD v [] = w.drop 1 := by rw [List.getD_eq_getElem?_getD, est]; rfl
      rw [this, egr, if_pos (by rw [← ew]; exact hm)]
    have hln' : [(v : Int), (r : Int)] ∈ linesW rows := by rw [← e1]; exact hln
    have hx := List.idxOf_lt_length_iff.mpr hln'
    have hjl : (linesW rows).idxOf [(v : Int), (r : Int)] < st.2.length := by rw [hI.kl]; exact hx
    have hgj : (linesW rows)[(linesW rows).idxOf [(v : Int), (r : Int)]]? = some [(v : Int), (r : Int)] := by rw [List.getElem?_eq_getElem hx, List.getElem_idxOf hx]
    generalize hks : st.2.set ((linesW rows).idxOf [(v : Int), (r : Int)]) (w.drop 1) = ks
    have hkj : ks.getD ((linesW rows).idxOf [(v : Int), (r : Int)]) [] = w.drop 1 := by rw [← hks, List.getD_eq_getElem?_getD, List.getElem?_set_self hjl]; rfl
    have ech : chooseW rows ks r = w := key ks (by unfold hrB; rw [e1, hkj]; simp) fun w' hw' hn he => by
      have okx := hG.ok r _ hrw w' hw'
      have hm' := ln_way hG h8 hrw hw' (wy_sec okx hn)
      have hx' := List.idxOf_lt_length_iff.mpr hm'
      have hg' : (linesW rows)[(linesW rows).idxOf [w'.getD 1 0, (r : Int)]]? = some [w'.getD 1 0, (r : Int)] := by rw [List.getElem?_eq_getElem hx', List.getElem_idxOf hx']
      have ew' : w' = (r : Int) :: w'.drop 1 := by
        have hl := okx.l2
        cases w' with
        | nil => simp at hl
        | cons a w' =>
          have := okx.hd
          simp at this
          rw [this]
          rfl
      by_cases c : (linesW rows).idxOf [w'.getD 1 0, (r : Int)] = (linesW rows).idxOf [(v : Int), (r : Int)]
      · rw [c, hkj] at he
        rw [ew', ← he, ← ew]
      · exfalso
        have z := hI.k0 _ _ _ hg' (by rw [Int.toNat_natCast, List.getD_eq_getElem?_getD, hw]; exact hu)
        rw [← hks, List.getD_eq_getElem?_getD, List.getElem?_set_ne (Ne.symm c), z] at he
        have := congrArg List.length he
        have hl := okx.l2
        rw [List.length_drop] at this
        simp at this
        omega
    have eq : runW rows st [.inl [(v : Int), (r : Int)], .inr r] = (st.1.set r w, ks) := by
      show (st.1.set r (chooseW rows (st.2.set _ (tellW rows st.1 [(v : Int), (r : Int)])) r), st.2.set _ (tellW rows st.1 [(v : Int), (r : Int)])) = _
      rw [etl, hks, ech]
    rw [eq]
    refine ⟨⟨by show (st.1.set r w).length = _; rw [List.length_set]; exact hI.tl, tset, by show ks.length = _; rw [← hks, List.length_set]; exact hI.kl, fun j a b hj hn => ?_⟩, fun s hs => ?_⟩
    · show ks[j]? = some []
      have z := hI.k0 j a b hj fun z => hn (List.mem_append_left _ z)
      rw [← hks, List.getElem?_set_ne]
      · exact z
      · intro c
        rw [← c, hgj] at hj
        have e := Option.some.inj hj
        injection e with _ e
        injection e with e _
        refine hn (List.mem_append_right _ ?_)
        rw [← e, Int.toNat_natCast, List.getD_eq_getElem?_getD, hw]
        exact List.mem_singleton.mpr rfl
    · rcases List.mem_cons.mp hs with z | z
      · rw [z]; exact hln'
      · rw [List.mem_singleton.mp z]
        exact ⟨h1, hr⟩
theorem runW_app (rows : List (List Wy)) (st : St2) (a b : List Stp) : runW rows st (a ++ b) = runW rows (runW rows st a) b := by
  unfold runW
  rw [List.foldl_append]
/-- the ways of a taking, the shorter ones first -/
structure SrtW (ts ws : List Wy) : Prop where
  perm : ws.Perm ((ts.drop 1).filter fun w => decide (w ≠ []))
  asc : ws.Pairwise fun a b => a.length ≤ b.length
  srt : ws = ((ts.drop 1).filter fun w => decide (w ≠ [])).mergeSort fun a b => decide (a.length ≤ b.length)
theorem cmI_all {rows : List (List Wy)} {ts ws : List Wy} (hG : GW rows) (h2 : 2 ≤ rows.length) (h8 : rows.length ≤ 8) (hT : FullT rows ts) (ho : okP rows ts = true) (hs : SrtW ts ws) : ∀ (us vs : List Wy), ws = us ++ vs → CmI rows ts us (runW rows (begT rows, begK rows) (us.flatMap stW)) → CmI rows ts ws (runW rows (begT rows, begK rows) (ws.flatMap stW)) ∧ ∀ s ∈ vs.flatMap stW, StpOk rows s
  | us, [], e, h => by
    rw [List.append_nil] at e
    rw [e]
    exact ⟨h, fun s hs => by cases hs⟩
  | us, w :: vs, e, h => by
    have hwm : w ∈ ws := by rw [e]; simp
    have hmem : ∀ x, x ∈ ws ↔ (∃ i, 1 ≤ i ∧ ts[i]? = some x) ∧ x ≠ [] := fun x => by
      rw [hs.perm.mem_iff, List.mem_filter, decide_eq_true_iff]
      refine and_congr_left fun _ => ?_
      rw [List.mem_iff_getElem?]
      constructor
      · rintro ⟨i, hi⟩
        rw [List.getElem?_drop] at hi
        exact ⟨1 + i, by omega, hi⟩
      · rintro ⟨i, h1, hi⟩
        exact ⟨i - 1, by rw [List.getElem?_drop, show 1 + (i - 1) = i by omega]; exact hi⟩
    obtain ⟨⟨r, h1, hr⟩, hne⟩ := (hmem w).mp hwm
    have nd : ws.Nodup := by
      refine hs.perm.nodup_iff.mpr ?_
      have pw : (ts.drop 1).Pairwise fun a b => a ≠ [] → a ≠ b := by
        rw [List.pairwise_iff_getElem]
        intro i j hi hj hij hne' hq
        rw [List.getElem_drop, List.getElem_drop] at hq
        rw [List.getElem_drop] at hne'
        have q1 := ts_head hG hT (List.getElem?_eq_getElem (l := ts) (i := 1 + i) (by rw [List.length_drop] at hi; omega)) hne'
        have q2 := ts_head hG hT (List.getElem?_eq_getElem (l := ts) (i := 1 + j) (by rw [List.length_drop] at hj; omega)) (by rw [← hq]; exact hne')
        rw [hq, q2] at q1
        omega
      have pf := List.Pairwise.filter (fun w => decide (w ≠ [])) pw
      exact pf.imp_of_mem fun {a b} ha _ h => h (by simpa using (List.mem_filter.mp ha).2)
    have hu : w ∉ us := fun z => by
      rw [e] at nd
      exact (List.nodup_append.mp nd).2.2 w z w List.mem_cons_self rfl
    have hstep := cmI_step hG h2 h8 hT ho h h1 hr hne hu fun y hv hy hyd => ?_
    · rw [← runW_app] at hstep
      have e2 : us.flatMap stW ++ stW w = (us ++ [w]).flatMap stW := by rw [List.flatMap_append]; simp
      rw [e2] at hstep
      obtain ⟨i1, i2⟩ := cmI_all hG h2 h8 hT ho hs (us ++ [w]) vs (by rw [e]; simp) hstep.1
      refine ⟨i1, fun s hsm => ?_⟩
      rw [List.flatMap_cons] at hsm
      rcases List.mem_append.mp hsm with z | z
      · exact hstep.2 s z
      · exact i2 s z
    · -- the rest of the way comes ahead
      have hf := out_way hG h2 hT ho h1 hr hne
      have hrl : r < rows.length := by have := (List.getElem?_eq_some_iff.mp hr).1; have := hT.len; omega
      have hrw : rows[r]? = some rows[r] := List.getElem?_eq_getElem hrl
      rw [List.getD_eq_getElem?_getD, hrw] at hf
      have ok := hG.ok r _ hrw w (List.mem_of_find?_eq_some hf)
      have hl2 := ok.l2
      have hylen : y.length = w.length - 1 := by rw [hyd, List.length_drop]
      have hw1 : w.getD 1 0 ∈ w := by
        rw [List.getD_eq_getElem?_getD, List.getElem?_eq_getElem (show 1 < w.length by omega)]
        exact List.getElem_mem _
      have hrg := ok.rg _ hw1
      have hy2 : y ∈ ws := (hmem y).mpr ⟨⟨_, by omega, hy⟩, fun z => by rw [z] at hylen; simp at hylen; omega⟩
      rw [e] at hy2
      rcases List.mem_append.mp hy2 with z | z
      · exact z
      · exfalso
        rcases List.mem_cons.mp z with z | z
        · rw [z] at hylen; omega
        · have pa := hs.asc
          rw [e] at pa
          have := (List.pairwise_cons.mp (List.pairwise_append.mp pa).2.1).1 y z
          omega
theorem tells_run {rows : List (List Wy)} {ts : List Wy} {st : St2} (h1 : st.1 = ts) (kl : st.2.length = (linesW rows).length) : ∀ k, k ≤ (linesW rows).length → runW rows st (((linesW rows).take k).map .inl) = (ts, ((linesW rows).take k).map (tellW rows ts) ++ st.2.drop k)
  | 0, _ => by
    rw [List.take_zero, List.drop_zero]
    show st = (ts, [] ++ st.2)
    rw [← h1]
    rfl
  | k + 1, hk => by
    have ih := tells_run h1 kl k (by omega)
    have hg : (linesW rows)[k]? = some (linesW rows)[k] := List.getElem?_eq_getElem (by omega)
    rw [take_snoc hg, List.map_append, runW_app, ih]
    have hidx : (linesW rows).idxOf (linesW rows)[k] = k := by
      have hn := ln_nd rows
      have hx := List.idxOf_lt_length_iff.mpr (List.getElem_mem (l := linesW rows) (n := k) (by omega))
      have h3 : (linesW rows)[(linesW rows).idxOf (linesW rows)[k]] = (linesW rows)[k] := List.getElem_idxOf hx
      exact (List.getElem_inj hn).mp h3
    show (ts, ((((linesW rows).take k).map (tellW rows ts)) ++ st.2.drop k).set ((linesW rows).idxOf (linesW rows)[k]) (tellW rows ts (linesW rows)[k])) = _
    rw [hidx]
    have hlen : (((linesW rows).take k).map (tellW rows ts)).length = k := by rw [List.length_map, List.length_take]; omega
    have hd : st.2.drop k = st.2[k]'(by omega) :: st.2.drop (k + 1) := List.drop_eq_getElem_cons (by omega)
    rw [List.set_append_right _ _ (by omega), hlen, Nat.sub_self, List.map_append, hd]
    simp
    rw [hd]
    rfl
theorem com_run {rows : List (List Wy)} {ts ws : List Wy} (hG : GW rows) (h2 : 2 ≤ rows.length) (h8 : rows.length ≤ 8) (hT : FullT rows ts) (ho : okP rows ts = true) (hs : SrtW ts ws) : runW rows (begT rows, begK rows) (comW rows ws) = (ts, keptW rows ts) ∧ ∀ s ∈ comW rows ws, StpOk rows s := by
  obtain ⟨i1, i2⟩ := cmI_all hG h2 h8 hT ho hs [] ws rfl (cmI_beg h2 hT)
  have et : (runW rows (begT rows, begK rows) (ws.flatMap stW)).1 = ts := by
    apply List.ext_getElem?
    intro i
    by_cases c : i < ts.length
    · have hx := List.getElem?_eq_getElem c
      rw [i1.t i _ hx, hx]
      by_cases c2 : i = 0 ∨ ts[i] ∈ ws
      · rw [if_pos c2]
      · rw [if_neg c2]
        congr 1
        by_cases ce : ts[i] = []
        · exact ce.symm
        · exfalso
          refine c2 (.inr (hs.perm.mem_iff.mpr (List.mem_filter.mpr ⟨?_, decide_eq_true ce⟩)))
          exact List.mem_of_getElem? (i := i - 1) (by rw [List.getElem?_drop, show 1 + (i - 1) = i by omega]; exact hx)
    · rw [List.getElem?_eq_none (by rw [i1.tl]; omega), List.getElem?_eq_none (by omega)]
  unfold comW
  refine ⟨?_, fun s hs' => ?_⟩
  · rw [runW_app]
    have z := tells_run et i1.kl (linesW rows).length (Nat.le_refl _)
    rw [List.take_length, List.drop_of_length_le (by rw [i1.kl]; omega), List.append_nil] at z
    exact z
  · rcases List.mem_append.mp hs' with z | z
    · exact i2 s z
    · obtain ⟨p, hp, rfl⟩ := List.mem_map.mp z
      exact hp
theorem com_len {rows : List (List Wy)} {ws : List Wy} (h : ws.length ≤ 8) : (comW rows ws).length ≤ 16 + (linesW rows).length := by
  unfold comW
  rw [List.length_append, List.length_map]
  have : (ws.flatMap stW).length ≤ 2 * ws.length := by
    clear h
    induction ws with
    | nil => simp
    | cons a l ih =>
      rw [List.flatMap_cons, List.length_append, List.length_cons]
      have : (stW a).length ≤ 2 := by unfold stW; split <;> simp
      omega
  omega
end Wk

set_option Elab.async false
set_option linter.all false
set_option maxRecDepth 100000
set_option maxHeartbeats 2000000
namespace Wk
open PySem PySem.Spec PyProof.Rows L2 Evl
/-! sorted(xs, key=len), xs of tuples -/
abbrev AW := Addr × Wy
def rSortLn (K : PySem.W.Frag) (a : Addr) (H : Hp) (Q : VK) : Prop := ∃ ps : List AW, SqL K H a (ps.map fun p => V.ref p.1) ∧ (∀ p ∈ ps, SqT K H p.1 (p.2.map V.int)) ∧ (∀ p ∈ ps, p.2.length ≤ 1000) ∧ ps.length ≤ 1000 ∧
  ∀ (qs : List AW) D, qs = ps.mergeSort (fun p q : AW => decide (p.2.length ≤ q.2.length)) → qs.Perm ps → qs.Pairwise (fun x y => x.2.length ≤ y.2.length) → H D = none → Q (.ref D) (upd H D (.lst (qs.map fun p => V.ref p.1)))
def tSortLn (K : PySem.W.Frag) (ta : TA) : TE := fun σ H Q => ta σ H fun vs H1 => ∃ a, vs = [.ref a] ∧ rSortLn K a H1 Q
theorem each_refs : ∀ (ps : List AW) {us : List Value}, Vals (ps.map fun p => V.ref p.1) us → PySem.W.EachIs (fun (v : Value) (p : AW) => v = Value.ref p.1) us ps
  | [], _, .nil => .nil
  | p :: ps, _, .cons r rv => .cons r (each_refs ps rv)
theorem vals_refs : ∀ {ps : List AW} {us : List Value}, PySem.W.EachIs (fun (v : Value) (p : AW) => v = Value.ref p.1) us ps → Vals (ps.map fun p => V.ref p.1) us
  | [], _, .nil => .nil
  | p :: ps, _, .cons r rv => .cons r (vals_refs rv)
theorem len_turn {X : Cx} {pins : List (Addr × Obj)} {σ : L2.St} {H : Hp} {s : Shared} {A : Around} (I : Inv X pins σ H s) {b : Addr} {xs : List V} (hs : SqT X.K H b xs) (hl : xs.length ≤ 1000) {h : Heap} {tk : Nat} (k : ∀ c o, s.heap.get? c = some o → h.get? c = some o) :
    wpAny (model X.prog X.w) A (call (.builtin "len") [.ref b]) (PySem.W.KeyPure (.int (xs.length : Int)) { s with heap := h, toks := tk }) (fun _ _ => False) { s with heap := h, toks := tk } := by
  obtain ⟨its, r', pl, hz⟩ := I.tuple hs
  have hlen := r'.length
  have pl' : PySem.Heap.IsTuple h b its.toArray := by
    obtain ⟨o, e, c⟩ := pl
    exact ⟨o, k _ _ e, c⟩
  refine len_tuple pl' (by simp only [List.size_toArray]; have := line63; omega) ⟨h, _, rfl, fun c o e => e, ?_⟩
  rw [List.size_toArray, ← hlen]
  exact .int _ _
theorem pe_sortLn {X : Cx} {e : Expr} {ta : TA} {p p2 kpos pos : Pos} (ha : PA X [e] ta) (hg : Gl X "sorted") (hm : X.mg "sorted" = none) (hg2 : Gl X "len") (hm2 : X.mg "len" = none) (hu : X.A.units + 8 < cLine)
    (hes : backTo pos (starEach [e] X.env) = (false, eval e X.env) :: backTo pos (starEach [] X.env) := by rfl) (hpl : (backTo pos (starEach [e] X.env)).any (·.1) = false := by rfl) :
    PE X (.Call (.Name "sorted" p) [e] [⟨some "key", .Name "len" p2, kpos⟩] pos) (tSortLn X.K ta) := by
  refine ⟨fun pins s σ H Q I h => ?_⟩
  refine wpAny_Call_Name_kw (ld_blt I hg hm PyProof.Rows.boot_sorted ?_ (by decide) (by decide))
  refine PyProof.Rows.callWith_kw (thn (ha.run pos pins s σ H _ I h) fun us s1 ⟨vs, H1, I1, r1, z⟩ => ?_) hes hpl rfl rfl
  obtain ⟨a, rfl, ps, q1, q2, q3, q4, q5⟩ := z
  show wpAny _ _ (evalAll ((do let v ← eval (.Name "len" p2) X.env; standAt pos; pure v) :: (backToKw pos (keywordEach [] X.env)).map (·.2))) _ _ s1
  refine wpAny_evalAll_cons (wpAny_bind (ld_blt I1 hg2 hm2 PySem.boot_len (wpAny_bind (wpAny_standAt (wpAny_pure (wpAny_evalAll_nil ?_)))) (by decide) (by decide)))
  obtain ⟨u, rfl, ru⟩ := vals1 r1
  obtain rfl : u = Value.ref a := ru
  obtain ⟨its, rv, hl, hz⟩ := I1.list q1
  have hb := line63
  refine PySem.W.sorted_key_data (β := AW) (R := fun (v : Value) (p : AW) => v = Value.ref p.1) (b := false) (fun p : AW => PyData.int (p.2.length : Int)) hl.isList (each_refs ps rv) (PySem.W.AllAlike.of fun _ _ => by simp [PySem.W.alike]) ?_ (by rw [sizeLine_eq]; omega) (fun x _ => by show X.A.units + 2 + 0 < cLine; omega) (PyProof.Rows.ksk_s1 _ _) (fun x => PyProof.Rows.ksk_l1 _ _) (fun x => PyProof.Rows.ksk_t4 _ _) (fun v x hv hx h tk hk => ?_) (fun out c h' tk hk hfr hnew hlen he => ?_)
  · exact PySem.W.Sortable.others fun b => ⟨(by intro z; cases z), (by intro xs z; cases z)⟩
  · subst hv
    have := len_turn (A := X.A.in1.in1) (tk := tk) I1 (q2 x hx) (by rw [List.length_map]; exact q3 x hx) hk
    rw [List.length_map] at this
    exact this
  · have hle : PySem.W.dataLe false (fun p : AW => PyData.int (p.2.length : Int)) = fun p q => decide (p.2.length ≤ q.2.length) := by
      rw [PySem.W.dataLe_eq]
      funext p q
      show (!PySem.W.dataLt (.int (q.2.length : Int)) (.int (p.2.length : Int))) = _
      rw [PySem.W.dataLt_int]
      rw [Bool.eq_iff_iff]
      simp
    rw [hle] at he
    have hperm := List.mergeSort_perm ps (fun p q : AW => decide (p.2.length ≤ q.2.length))
    have hpw := List.pairwise_mergeSort (le := fun p q : AW => decide (p.2.length ≤ q.2.length)) (fun a b c h1 h2 => by simp at h1 h2 ⊢; omega) (fun a b => by simp; omega) ps
    generalize hqs0 : ps.mergeSort (fun p q : AW => decide (p.2.length ≤ q.2.length)) = qs at *
    have hv := vals_refs he
    have hd' : s1.heap.objs.size ≤ s1.heap.objs.size + 1 := Nat.le_succ _
    refine ⟨.ref (s1.heap.objs.size + 1), upd H1 (s1.heap.objs.size + 1) (.lst (qs.map fun p => V.ref p.1)), I1.laid (t' := tk) hk hd' ⟨?_, out, c, hv, hnew⟩, rfl, q5 qs _ rfl hperm (hpw.imp fun {x y} z => by simpa using z) (I1.hok.fresh hd')⟩
    rw [List.length_map, hperm.length_eq, sizeLine_eq]
    omega
end Wk

set_option Elab.async false
set_option linter.all false
set_option maxRecDepth 100000
set_option maxHeartbeats 1000000
namespace Wk
open PySem PySem.Spec PyProof.Rows L2 Evl
/-! displays that may hold an old thing -/
def EvX (G0 : Hp) (p q : Addr) (te : TE) (σ : L2.St) (d : PyData) : Prop := ∀ G H, Ex G0 G → Pl G H p q → ∀ Q : VK, (∀ G' H' v, Gr p q G H G' H' → Dq G' v d → Q v H') → te σ H Q
def EvXA (G0 : Hp) (p q : Addr) (ta : TA) (σ : L2.St) (ds : List PyData) : Prop := ∀ G H, Ex G0 G → Pl G H p q → ∀ Q : List V → Hp → Prop, (∀ G' H' vs, Gr p q G H G' H' → DqA G' vs ds → Q vs H') → ta σ H Q
section
variable {p q : Addr} {σ : L2.St} {te tb : TE} {ta : TA} {d : PyData} {ds es : List PyData} {G0 : Hp} {v : V}
theorem x_of (h : EvDt p q te σ d) : EvX G0 p q te σ d := fun G H _ hP Q k => h G H hP Q k
theorem x_c {v : V} (h : ∀ G, Dq G v d) : EvX G0 p q (tC v) σ d := x_of (ed_c h)
theorem x_str (s : Str) : EvX G0 p q (tC (.str s)) σ (.str s) := x_c fun G => .str s
theorem x_nil : EvXA G0 p q tNil σ [] := fun G H _ hP Q k => k G H [] (Gr.refl hP) .nil
theorem x_cons (h : EvX G0 p q te σ d) (hr : EvXA G0 p q ta σ ds) : EvXA G0 p q (tCons te ta) σ (d :: ds) := fun G H e hP Q k =>
  h G H e hP _ fun G1 H1 v g1 hv => hr G1 H1 (e.trans g1.ex) g1.pl _ fun G2 H2 vs g2 hvs => k G2 H2 (v :: vs) (g1.trans g2) (.cons (hv.mono g2.ex) hvs)
theorem x_lst (h : EvXA G0 p q ta σ ds) (hl : ds.length ≤ 1000) : EvX G0 p q (tLst ta) σ (.list ds) := fun G H e hP Q k =>
  h G H e hP _ fun G1 H1 vs g1 hvs => ⟨by have := hvs.length; rw [sizeLine_eq]; omega, fun t ht => k (upd G1 t (.lst vs)) _ (.ref t) (g1.trans (Gr.new g1.pl ht)) (.lst upd_same (hvs.mono (Gr.new (o := .lst vs) g1.pl ht).ex))⟩
theorem x_tup (h : EvXA G0 p q ta σ ds) (hl : ds.length ≤ 1000) : EvX G0 p q (tTup ta) σ (.tuple ds) := fun G H e hP Q k =>
  h G H e hP _ fun G1 H1 vs g1 hvs => ⟨by have := hvs.length; rw [sizeLine_eq]; omega, fun t ht => k (upd G1 t (.tup vs)) _ (.ref t) (g1.trans (Gr.new g1.pl ht)) (.tup upd_same (hvs.mono (Gr.new (o := .tup vs) g1.pl ht).ex))⟩
theorem x_var {i : Nat} (hv : σ[i]? = some (some v)) (h0 : Dq G0 v d) : EvX G0 p q (tVar i) σ d := fun G H e hP Q k => ⟨v, hv, k G H v (Gr.refl hP) (h0.mono e)⟩
theorem x_ev (h : ∀ H, Ex G0 H → Ev te σ H v) (hd : ∀ G, Ex G0 G → Dq G v d) : EvX G0 p q te σ d := fun G H e hP Q k => h H (e.trans hP.ex) H (Ex.refl _) _ fun H1 e1 => k G H1 v (Gr.ext hP e1) (hd G e)
/-- things[draw] -/
theorem x_pick {K : PySem.W.Frag} {z : Int} (h : EvX G0 p q te σ (.list ds)) (hz : z = (ds.length : Int)) (h0 : 0 < z) (h9 : z ≤ 1000) (hs : σ[0]? = some (some (.ref p))) {G H : Hp} (e : Ex G0 G) (hP : Pl G H p q) {Q : VK} (k : ∀ G' H' v d, Gr p q G H G' H' → d ∈ ds → Dq G' v d → Q v H') :
    tOp (rIxL K) te (tCall spDraw [] E0 (tCons (tVar 0) (tCons (tC (.int z)) tNil))) σ H Q := by
  refine h G H e hP _ fun G1 H1 v1 g1 hv1 => ?_
  cases hv1 with
  | @lst A xs _ a1 a2 =>
    refine ⟨.ref p, hs, ⟨_, p, q, z, rfl, g1.pl.hd, h0, by omega, fun H2 j h2 hj0 hj1 => ?_⟩⟩
    have g2 := g1.trans (Gr.draw g1.pl h2)
    have l1 := a2.length
    obtain ⟨m, rfl⟩ : ∃ m : Nat, j = (m : Int) := ⟨j.toNat, by omega⟩
    have hm : m < ds.length := by omega
    obtain ⟨u, hu1, hu2⟩ := a2.at (List.getElem?_eq_getElem hm)
    exact ⟨A, xs, (m : Int), u, rfl, rfl, sq_of (g2.pl.ex _ _ a1), atI_nat hu1, k _ H2 u _ g2 (List.getElem_mem hm) hu2⟩
end
section
variable {K : PySem.W.Frag} {p q : Addr} {σ : L2.St} {te ta tb : TE} {ds es : List PyData} {d : PyData} {G0 : Hp}
/-- tuples put together -/
theorem x_catA (ha : EvX G0 p q ta σ (.tuple ds)) (hb : EvX G0 p q tb σ (.tuple es)) (hl : ds.length + es.length ≤ 1000) : EvX G0 p q (tOp (rCatA K) ta tb) σ (.tuple (ds ++ es)) := fun G H e hP Q k =>
  ha G H e hP _ fun G1 H1 v g1 hv => hb G1 H1 (e.trans g1.ex) g1.pl _ fun G2 H2 u g2 hu => by
    have hv2 := hv.mono g2.ex
    cases hv2 with
    | @tup ca xs _ a1 a2 =>
      cases hu with
      | @tup cb ys _ b1 b2 =>
        have l1 := a2.length
        have l2 := b2.length
        refine ⟨_, _, _, _, rfl, rfl, st_of (g2.pl.ex _ _ a1), st_of (g2.pl.ex _ _ b1), by rw [sizeLine_eq]; omega, fun z => ?_, fun _ z => ?_, fun _ _ t ht => ?_⟩
        · subst z
          cases a2
          exact k G2 H2 _ (g1.trans g2) (.tup b1 b2)
        · subst z
          cases b2
          rw [List.append_nil] at k
          exact k G2 H2 _ (g1.trans g2) (.tup a1 a2)
        · have gn := Gr.new (o := .tup (xs ++ ys)) g2.pl ht
          exact k _ _ (.ref t) ((g1.trans g2).trans gn) (.tup upd_same ((a2.append b2).mono gn.ex))
/-- lists put together -/
theorem x_catL (ha : EvX G0 p q ta σ (.list ds)) (hb : EvX G0 p q tb σ (.list es)) (hl : ds.length + es.length ≤ 1000) : EvX G0 p q (tOp rCat ta tb) σ (.list (ds ++ es)) := fun G H e hP Q k =>
  ha G H e hP _ fun G1 H1 v g1 hv => hb G1 H1 (e.trans g1.ex) g1.pl _ fun G2 H2 u g2 hu => by
    have hv2 := hv.mono g2.ex
    cases hv2 with
    | @lst ca xs _ a1 a2 =>
      cases hu with
      | @lst cb ys _ b1 b2 =>
        have l1 := a2.length
        have l2 := b2.length
        refine ⟨_, _, _, _, rfl, rfl, g2.pl.ex _ _ a1, g2.pl.ex _ _ b1, by rw [sizeLine_eq]; omega, fun t ht => ?_⟩
        have gn := Gr.new (o := .lst (xs ++ ys)) g2.pl ht
        exact k _ _ (.ref t) ((g1.trans g2).trans gn) (.lst upd_same ((a2.append b2).mono gn.ex))
/-- an item of a tuple that stays -/
theorem x_ix {i j : Nat} {t : Addr} {ds : List PyData} (hv : σ[i]? = some (some (.ref t))) (h0 : Dq G0 (.ref t) (.tuple ds)) (hj : ds[j]? = some d) : EvX G0 p q (tOp (rIxT K) (tVar i) (tC (.int (j : Int)))) σ d := fun G H e hP Q k => by
  cases h0 with
  | tup a1 a2 =>
    obtain ⟨v, v1, v2⟩ := a2.at hj
    exact ev_at (K := K) (j := j) (ev_var hv) (st_of (hP.ex _ _ (e _ _ a1))) ev_c v1 H (Ex.refl _) _ fun H1 e1 => k G H1 v (Gr.ext hP e1) (v2.mono e)
end
/-- a display is told -/
theorem q_retX {G0 : Hp} {p q : Addr} {te : TE} {D : Ends} {σ : L2.St} {G H : Hp} {d : PyData} (h : EvX G0 p q te σ d) (e : Ex G0 G) (hP : Pl G H p q) (k : ∀ G' H' v, Gr p q G H G' H' → Dq G' v d → D.rt v H') : tRet te D σ H := h G H e hP _ k
/-- one of a display is told -/
theorem q_retPick {K : PySem.W.Frag} {G0 : Hp} {p q : Addr} {te : TE} {D : Ends} {σ : L2.St} {ds : List PyData} (z : Int) (h : EvX G0 p q te σ (.list ds)) (hz : z = (ds.length : Int)) (h0 : 0 < z) (h9 : z ≤ 1000) (hs : σ[0]? = some (some (.ref p))) {G H : Hp} (e : Ex G0 G) (hP : Pl G H p q) (k : ∀ G' H' v d, Gr p q G H G' H' → d ∈ ds → Dq G' v d → D.rt v H') :
    tRet (tOp (rIxL K) te (tCall spDraw [] E0 (tCons (tVar 0) (tCons (tC (.int z)) tNil)))) D σ H := x_pick h hz h0 h9 hs e hP k
def cutD (ds : List PyData) (lo hi : Option Int) : List PyData := (ds.drop (HT.sIx ds.length 0 lo)).take (HT.sIx ds.length ds.length hi - HT.sIx ds.length 0 lo)
theorem mem_cutD {ds : List PyData} {lo hi : Option Int} {e : PyData} (h : e ∈ cutD ds lo hi) : e ∈ ds := List.mem_of_mem_drop (List.mem_of_mem_take h)
section
variable {K : PySem.W.Frag} {p q : Addr} {σ : L2.St} {te : TE} {tl th : TO} {lo hi : Option Int} {ds : List PyData} {G0 : Hp}
/-- a piece of a tuple -/
theorem x_sl (h : EvX G0 p q te σ (.tuple ds)) (h1 : ∀ H, EvO tl σ H lo) (h2 : ∀ H, EvO th σ H hi) : EvX G0 p q (tSl (rSlA K) te tl th) σ (.tuple (cutD ds lo hi)) := fun G H e hP Q k =>
  h G H e hP _ fun G1 H1 v g1 hv => h1 H1 H1 (Ex.refl _) _ fun H2 e2 => h2 H2 H2 (Ex.refl _) _ fun H3 e3 => by
    have g3 := g1.trans (Gr.ext g1.pl (e2.trans e3))
    cases hv with
    | @tup a xs _ a1 a2 =>
      have l := a2.length
      refine ⟨a, xs, rfl, st_of (g3.pl.ex _ _ a1), fun hw => ?_, fun hw t ht => ?_⟩
      · have ec : cutD ds lo hi = ds := by
          rw [l] at hw
          unfold cutD
          rw [hw.1, hw.2]
          simp
        rw [ec] at k
        exact k G1 H3 (.ref a) g3 (.tup a1 a2)
      · have gn := Gr.new (o := .tup (cutV xs lo hi)) g3.pl ht
        have hz : DqA G1 (cutV xs lo hi) (cutD ds lo hi) := by
          unfold cutV cutD
          rw [l]
          exact (a2.drop _).take _
        exact k _ _ (.ref t) (g3.trans gn) (.tup upd_same (hz.mono gn.ex))
end
end Wk

set_option Elab.async false
set_option linter.all false
set_option maxRecDepth 100000
set_option maxHeartbeats 400000
namespace HT
open PySem PySem.Spec PySem.Calls PyProof.Rows
section
variable {prog : Program} {w : World} {A : Around} {E : Value → Shared → Prop} {s : Shared}
theorem adjust_rev (n : Nat) : Builtin.Slice.sliceAdjust none none (-1) (n : Int) = ((n : Int) - 1, -1) := rfl
theorem places_rev (n : Nat) : Builtin.Slice.slicePlaces ((n : Int) - 1) (-1) (-1) = n := by
  unfold Builtin.Slice.slicePlaces
  rw [if_neg (show ¬ ((-1 : Int) > 0) by decide), show (-(-1 : Int)) = 1 by decide, Int.ediv_one]
  split <;> omega
theorem sliceApplied_rev {sl : Addr} {vs : Value} {n : Nat} {Q : Int × Int × Nat → Shared → Prop} (hs : s.heap.IsSliceOf sl .none .none vs) (ps : IsPart vs (some (-1)))
    (h : Q ((n : Int) - 1, -1, n) s) : wpAny (model prog w) A (Builtin.Slice.sliceApplied (.ref sl) (pure (n : Int))) Q E s := by
  obtain ⟨os, hos, hcs, hds⟩ := id hs
  unfold Builtin.Slice.sliceApplied Builtin.Slice.sliceFields
  refine wpAny_bind (wpAny_bind (wpAny_field hos hds (x := .none) rfl (wpAny_bind (wpAny_field hos hds (x := .none) rfl (wpAny_bind (wpAny_field hos hds (x := vs) rfl (wpAny_pure ?_)))))))
  refine wpAny_bind (slicePart_ ps ?_)
  show wpAny _ _ (if ((-1 : Int) == 0) = true then _ else _) _ _ s
  rw [if_neg (by decide)]
  refine wpAny_bind (slicePart_none (wpAny_bind (slicePart_none (wpAny_bind (wpAny_pure ?_)))))
  show wpAny _ _ (match Builtin.Slice.sliceAdjust none none (-1) (n : Int) with | (lo, hi) => pure (lo, (-1 : Int), Builtin.Slice.slicePlaces lo hi (-1))) _ _ s
  rw [adjust_rev]
  show wpAny _ _ (pure ((n : Int) - 1, (-1 : Int), Builtin.Slice.slicePlaces ((n : Int) - 1) (-1) (-1))) _ _ s
  rw [places_rev]
  exact wpAny_pure h
theorem pick_rev (xs : Array Value) : ((List.range xs.size).filterMap fun (m : Nat) => xs[(((xs.size : Int) - 1) + (m : Int) * (-1)).toNat]?).toArray = xs.toList.reverse.toArray := by
  have e : (fun (m : Nat) => xs[(((xs.size : Int) - 1) + (m : Int) * (-1)).toNat]?) = fun m => xs[xs.size - 1 - m]? := by
    funext m
    by_cases c : m < xs.size
    · have : (((xs.size : Int) - 1) + (m : Int) * (-1)).toNat = xs.size - 1 - m := by omega
      rw [this]
    · have : (((xs.size : Int) - 1) + (m : Int) * (-1)).toNat = xs.size - 1 - m := by omega
      rw [this]
  rw [e]
  have h := PySem.W.krv_range xs.size
  have e2 : (List.range xs.size).filterMap (fun m => xs[xs.size - 1 - m]?) = ((List.range xs.size).map fun k => xs.size - 1 - k).filterMap (xs[·]?) := by
    rw [List.filterMap_map]
    rfl
  rw [e2, h, List.filterMap_reverse, PySem.W.krv_all]
theorem getItem_tuple_rev {t sl : Addr} {items : Array Value} {vs : Value} {Q : Value → Shared → Prop} (ht : IsTup s.heap t items) (hs : s.heap.IsSliceOf sl .none .none vs) (ps : IsPart vs (some (-1)))
    (h : Q (.ref s.heap.objs.size) { s with heap := s.heap.push { cls := .type "tuple", data := .seq items.toList.reverse.toArray } })
    (hsz : items.size ≤ sizeLine) : wpAny (model prog w) A (getItem (.ref t) (.ref sl)) Q E s := by
  have htake : sizeOk (.seq items.toList.reverse.toArray) := by
    show items.toList.reverse.toArray.size ≤ sizeLine
    rw [List.size_toArray, List.length_reverse, Array.length_toList]
    omega
  obtain ⟨os, hos, hcs, hds⟩ := id hs
  have hTs : s.TypeIs (.ref sl) "slice" := ⟨os, hos, hcs⟩
  unfold getItem
  try with_reducible refine wpAny_holding ?_
  first | refine wpAny_bind (wpAny_pure ?_) | skip
  refine wpAny_bind (wpAny_sequenceKey ht.typeIs (by decide) ?_)
  refine wpAny_bind (wpAny_callSpecial?_slot (name := Str.ofString "__getitem__") ht.typeIs PyProof.Rows.slot_tuple_getitem
    (wpAny_call_entry PyProof.Rows.slot_tuple_getitem ht.typeIs entry_tuple_getitem ?_ (args_tuple_getitem _ _)))
  show wpAny _ _ (Builtin.Tuple.tupleItemsOf (.ref t) >>= _) _ _ s
  refine wpAny_bind (tupleItemsOf_ ht ?_)
  refine wpAny_bind (wpAny_typeOf hTs ?_)
  rw [if_pos (by decide)]
  refine wpAny_bind (sliceApplied_rev hs ps ?_)
  have hno : ¬ ((((items.size : Int) - 1) == 0 && (-1 : Int) == 1 && items.size == items.size) = true) := by
    intro q
    rw [Bool.and_eq_true, Bool.and_eq_true] at q
    exact absurd (eq_of_beq q.1.2) (by decide)
  show wpAny _ _ (if (((items.size : Int) - 1) == 0 && (-1 : Int) == 1 && items.size == items.size) = true then _ else _) _ _ s
  rw [if_neg hno, pick_rev]
  first
    | exact wpAny_bind (m := Builtin.Tuple.tupleExact _) (wpAny_newObj_type (wpAny_pure ⟨_, rfl, wpAny_pure h⟩) htake)
    | exact wpAny_bind (m := Builtin.Tuple.tupleExact _) (wpAny_newObj_type (wpAny_bind (wpAny_pure (wpAny_pure ⟨_, rfl, wpAny_pure h⟩))) htake)
    | exact wpAny_bind (wpAny_bind (m := Builtin.Tuple.tupleExact _) (wpAny_newObj_type (wpAny_pure (wpAny_pure ⟨_, rfl, wpAny_pure h⟩)) htake))
    | exact wpAny_bind (wpAny_bind (m := Builtin.Tuple.tupleExact _) (wpAny_newObj_type (wpAny_pure ⟨_, rfl, wpAny_pure h⟩) htake))
end
end HT

set_option Elab.async false
set_option linter.all false
set_option maxRecDepth 100000
set_option maxHeartbeats 400000
namespace L2
open PySem PySem.Spec PyProof.Rows
section
variable {X : Cx}
/-- t[::-1], t a tuple -/
def tRevT (K : PySem.W.Frag) (te : TE) : TE := fun σ H Q => te σ H fun x H1 => ∃ a xs, x = .ref a ∧ SqT K H1 a xs ∧ ∀ p, H1 p = none → Q (.ref p) (upd H1 p (.tup xs.reverse))
theorem pe_revT {e : Expr} {te : TE} {k : Nat} {p1 p2 p3 pos : Pos} (he : PE X e te) : PE X (.Subscript e (.Slice none none (some (.UnaryOp .USub (.Constant (.int 1) k p1) p2)) p3) pos) (tRevT X.K te) := by
  refine ⟨fun pins s σ H Q I h => ?_⟩
  refine Subscript_ (thn (he.run pins s σ H _ I h) fun v s1 ⟨x, H1, I1, r1, q1⟩ => ?_)
  obtain ⟨a, xs, ex, hx, q⟩ := q1
  subst ex
  cases r1
  have hst : PO X (some (.UnaryOp .USub (.Constant (.int 1) k p1) p2)) (tPart (tUn (rU fun i => .int (-i)) (tC (.int 1)))) := po_some (pe_un un_neg pe_int)
  refine wpAny_Slice (thn (po_none.run pins s1 σ H1 (fun o H2 => o = none ∧ H2 = H1) I1 ⟨rfl, rfl⟩) fun vl s2 ⟨l, H2, I2, pl, el, e2⟩ => ?_)
  subst el e2
  refine thn (po_none.run pins s2 σ H2 (fun o H3 => o = none ∧ H3 = H2) I2 ⟨rfl, rfl⟩) fun vu s3 ⟨u, H3, I3, pu, eu, e3⟩ => ?_
  subst eu e3
  refine thn (hst.run pins s3 σ H3 (fun o H4 => o = some (-1) ∧ H4 = H3) I3 ⟨1, rfl, -1, rfl, rfl, rfl⟩) fun vs s4 ⟨o, H4, I4, ps, eo, e4⟩ => ?_
  subst eo e4
  cases pl
  cases pu
  have I5 : Inv X pins σ H4 { s4 with heap := s4.heap.push { cls := .type "slice", data := .fields #[.none, .none, vs] } } := I4.kept (t' := s4.toks) fun b ob q => Heap.get?_push_of_some _ q
  obtain ⟨its, r, ht, hz⟩ := I5.tuple hx
  have hlen := r.length
  show wpAny (model X.prog X.w) X.A (subscriptTail e (.Slice none none (some (.UnaryOp .USub (.Constant (.int 1) k p1) p2)) p3) (.ref a) (.ref s4.heap.objs.size)) (EP X pins σ Q) X.xe { s4 with heap := s4.heap.push { cls := .type "slice", data := .fields #[.none, .none, vs] } }
  refine tail_any (ops := [.ref a, .ref s4.heap.objs.size]) ht.typeIs (PyProof.Rows.slot_tuple_getitem.lookup) ?_ (by with_unfolding_all rfl)
  refine HT.getItem_tuple_rev ht (Heap.IsSliceOf.new _ .none .none vs) ps ?_ (by rw [List.size_toArray]; omega)
  refine ⟨.ref _, _, I5.laid (t' := s4.toks) (o := .tup xs.reverse) (fun b ob q => Heap.get?_push_of_some _ q) (Nat.le_refl _) ?_, rfl, q _ (I5.hok.fresh (Nat.le_refl _))⟩
  exact ⟨by rw [List.length_reverse]; exact hz, _, r.reverse, IsTup.new _ _⟩
end
end L2
namespace Wk
open PySem PySem.Spec PyProof.Rows L2 Evl
theorem DqA.put {G : Hp} {v : V} {d : PyData} (hv : Dq G v d) : ∀ {vs : List V} {ds : List PyData}, DqA G vs ds → DqA G (vs ++ [v]) (ds ++ [d])
  | _, _, .nil => .cons hv .nil
  | _, _, .cons h t => .cons h (DqA.put hv t)
theorem dqa_rev {G : Hp} : ∀ {ds : List PyData} {vs : List V}, DqA G vs ds → DqA G vs.reverse ds.reverse
  | [], _, .nil => .nil
  | d :: ds, _, .cons (v := v) (vs := vs) a b => by
    rw [List.reverse_cons, List.reverse_cons]
    exact (dqa_rev b).put a
/-- a tuple turned round -/
theorem x_rev {K : PySem.W.Frag} {p q : Addr} {σ : L2.St} {te : TE} {ds : List PyData} {G0 : Hp} (h : EvX G0 p q te σ (.tuple ds)) : EvX G0 p q (tRevT K te) σ (.tuple ds.reverse) := fun G H e hP Q k =>
  h G H e hP _ fun G1 H1 v g1 hv => by
    cases hv with
    | @tup a xs _ a1 a2 =>
      refine ⟨a, xs, rfl, st_of (g1.pl.ex _ _ a1), fun t ht => ?_⟩
      have gn := Gr.new (o := .tup xs.reverse) g1.pl ht
      exact k _ _ (.ref t) (g1.trans gn) (.tup upd_same ((dqa_rev a2).mono gn.ex))
end Wk

set_option Elab.async false
set_option linter.all false
set_option maxRecDepth 100000
set_option maxHeartbeats 2000000
namespace Wk
open PySem PySem.Spec PyProof.Rows L2 Evl
theorem t_lcC {K : PySem.W.Frag} {tl te : TE} {g : TG} {t : TT} {vs : List Nat} {σ : L2.St} {H : Hp} {Q : VK} (h : tl σ H fun x H1 => tLc (iList K (tC x)) g t te vs σ H1 Q) : tLc (iList K tl) g t te vs σ H Q := h
theorem t_sortLn {K : PySem.W.Frag} {te : TE} {σ : L2.St} {H : Hp} {Q : VK} (h : te σ H fun x H1 => ∃ a, (x :: ([] : List V)) = [.ref a] ∧ rSortLn K a H1 Q) : tSortLn K (tCons te tNil) σ H Q := h
theorem fnOk_or {P : Program} {w : World} {K : PySem.W.Frag} {mg : Str → Option Value} {base : Heap} {CX : CXT} {k : Nat} {f : Addr} {fd : FuncData} {ps : List Str} {s1 s2 : Sp} (F1 : FnOk P w K mg base CX k f fd ps s1) (F2 : FnOk P w K mg base CX k f fd ps s2) :
    FnOk P w K mg base CX k f fd ps (fun vs H Q E => s1 vs H Q E ∨ s2 vs H Q E) :=
  ⟨fun vs H Q E h => h.elim (F1.len vs H Q E) (F2.len vs H Q E), fun A outer s H args us vs Q E hr he hb hv h => h.elim (F1.run A outer s H args us vs Q E hr he hb hv) (F2.run A outer s H args us vs Q E hr he hb hv)⟩
theorem op_neEUK {X : Cx} {K : PySem.W.Frag} (hK : X.K = K) (hu : X.A.units < cLine) : OpR X (compareOp .NotEq) (rNeEU K) := by
  subst hK
  exact op_neEU hu
/-- an error class without a field -/
structure ErrN (K : PySem.W.Frag) (mg : Str → Option Value) (x : Str) (C : Addr) : Prop where
  g : mg x = some (.ref C)
  q : PySem.W.excIn K C [.type "ValueError", .type "Exception", .type "BaseException", .type "object"] "ValueError.__new__" = true
  k : PySem.W.keepIn K (.ref C) = true
  b : PySem.W.subIn K (.ref C) (.type "BaseException") = some true
  t : PySem.W.typeIn K (.ref C) = some (.type "type")
theorem pmk_errN {X : Cx} {K : PySem.W.Frag} {mg : Str → Option Value} {x : Str} {C : Addr} {p pos : Pos} (hK : X.K = K) (hm : X.mg = mg) (T : ErrN K mg x C) (hg : Gl X x) (hdb : (x == ("__debug__" : Str)) = false := by decide) :
    PMk X (.Call (.Name x p) [] [] pos) (fun _ H Q => Q (.ref C) none H) := by
  subst hK hm
  intro ps s σ H Q I h
  refine wpAny_Call_Name_kw (ld_glob I hg T.g ?_ hdb)
  refine PySem.W.callWith_K0 I.kIn T.k ?_
  show wpAny _ _ (call (.ref C) []) _ _ _
  obtain ⟨bm, N, nm, qn, bs, hdct, sn, sub, ab, col, dd, k0, k1, k2, k3, k5, mN, hC, hN, hni, T2⟩ := exc_obj I.kIn T.q
  refine wpAny_call_exc_subT PySem.F.excBase_ValueError T2 hC hN hni (fun h' e hm => ?_) (Nat.zero_le _)
  exact mk_of I hm (raises_own T.b T.t) h (I.hok.gone hm.new)
theorem dpa_refs {K : PySem.W.Frag} {H : Hp} : ∀ {ts : List Wy} {xs : List V}, DpAll K H xs (ts.map wd) → ∃ ps : List AW, xs = ps.map (fun p => V.ref p.1) ∧ ps.map (·.2) = ts ∧ ∀ p ∈ ps, SqT K H p.1 (p.2.map V.int)
  | [], _, .nil => ⟨[], rfl, rfl, fun p hp => (by cases hp)⟩
  | t :: ts, _, .cons h r => by
    obtain ⟨ps, e1, e2, e3⟩ := dpa_refs r
    obtain ⟨a, rfl, ha⟩ := dp_wd h
    refine ⟨(a, t) :: ps, by rw [e1]; rfl, by rw [List.map_cons, e2], fun p hp => ?_⟩
    rcases List.mem_cons.mp hp with z | z
    · rw [z]; exact ha
    · exact e3 p z
theorem given_filt {α : Type} (l : List α) (d : α) (f : α → Bool) (g : α → V) : given l.length (fun i => f (l.getD i d)) (fun i => g (l.getD i d)) = (l.filter f).map g := by
  unfold given
  have h : ∀ (l : List α), (List.range l.length).map (fun i => l.getD i d) = l := fun l => by
    apply List.ext_getElem
    · simp
    · intro i h1 h2
      simp at h1
      simp [h1]
  conv => rhs; rw [← h l]
  rw [List.filter_map, List.map_map]
  rfl
section
variable {P : Program} {w : World} {K : PySem.W.Frag} {mg : Str → Option Value} {base : Heap} {f : Addr} {fd : FuncData} {CW CN CB : Addr}
/-! comes -/
def spOutU (K : PySem.W.Frag) (CW : Addr) : Sp := fun vs H Q E => spOut1 K CW vs H Q E ∨ spOut CW vs H Q E
def spCo (K : PySem.W.Frag) (CW CB : Addr) : Sp := fun vs H Q E => ∃ (wv : Addr) (tv : V) (rows : List (List Wy)), vs = [.ref wv, tv] ∧ WO CW H (.ref wv) rows ∧
  ((∃ (ta : Addr) (txs : List V) (ts : List Wy), tv = .ref ta ∧ H ta = some (.tup txs) ∧ DpAll K H txs (ts.map wd) ∧ FullT rows ts ∧ okP rows ts = true ∧ ∀ H' T us ws, Ex H H' → SrtW ts ws → H' T = some (.tup us) → DqA H' us ((comW rows ws).map stepD) → Q (.ref T) H') ∨
   (∃ d, Dq H tv d ∧ Small (some d) ∧ outB rows (some d) = false ∧ ∀ H', Ex H H' → E (.ref CB) none H'))
abbrev sCo : Stmt := top 26
abbrev nCo : List Str := ["wishes", "taking", "row", "way", "teller", "hearer"]
theorem scCo : FnScope nCo ["wishes", "taking"] (defScope sCo) := ⟨rfl, rfl, rfl, by decide +kernel, rfl, by decide +kernel, by decide +kernel⟩
theorem ok_co (B : Bl mg) (hso : mg "sorted" = none) (M : ML P w K mg base CW) (TB : ErrN K mg "BadTaking" CB) (CO : Cal P w K mg base "is_outcome" ["wishes", "thing"] 9 (spOutU K CW)) (F : FnP K "comes" sCo f fd) : FnOk P w K mg base (L2.CX P w) 10 f fd ["wishes", "taking"] (spCo K CW CB) := by
  obtain ⟨fL, fdL, meL, FL, bL⟩ := M.ln
  refine F.ok scCo (fun vs H Q E h => ?_) (fun cdv A outer s H vs Q E hr h => ?_)
  · obtain ⟨wv, tv, rows, rfl, _⟩ := h
    rfl
  · obtain ⟨wv, tv, rows, rfl, hw, hcase⟩ := h
    have r9 : Room 9 _ := hr
    have r7 : Room 7 _ := hr.mono (by decide)
    have hu8 : (A.deeper (envOfC "comes" (defScope sCo) s.heap.objs.size f cdv)).units + 8 < cLine := by have := hr.un; omega
    have hu : (A.deeper (envOfC "comes" (defScope sCo) s.heap.objs.size f cdv)).units < cLine := by omega
    refine ⟨_, pss_cons (ps_if (pt_not (pt_val (pe_cal CO r9 (by rfl) (pa_cons (pv 0) (pa_cons (pv 1) pa_nil))))) (pss_one (ps_raise rfl (takes_of rfl rfl rfl rfl) (pmk_errN (K := K) rfl rfl TB (by rfl)))) pss_nil)
      (pss_cons (ps_set (i := 2) scCo.nd rfl (Or.inl rfl) (pe_lst pa_nil))
      (pss_cons (ps_for (passes_of rfl) rfl (pi_list (pe_sortLn (pa_cons (pe_lc (own := [("way", 3)]) (g := gName 3) rfl scCo.nd (pi_tup (pe_slice sl_tupA (pv 1) (po_some pe_int) po_none)) (blkOk_by (N := nCo) (sc := defScope sCo) (by decide +kernel))
            (fun _ _ _ _ _ => pg_name (i := 3) scCo.nd rfl (Or.inl rfl)) (fun _ _ _ _ _ => pts_one (pt_cmpR (op_neEUK (K := K) rfl hu) (pv 3) (pe_tup pa_nil) (nomark _))) (fun _ _ _ _ _ => pv 3)) pa_nil) (by rfl) hso (by rfl) B.len hu8)) (pg_name (i := 3) scCo.nd rfl (Or.inl rfl))
          (pss_cons (ps_if (pt_cmpR op_ne (pe_ix ix_tup (pv 3) pe_int (fun _ _ => rfl)) pe_int (nomark _)) (pss_one (ps_expr (pe_bm PySem.F.plainAttrs_list PySem.F.slot_list_append PySem.F.type_list_append mt_append (pv 2) (pa_cons (pe_tup (pa_cons pe_str (pa_cons (pe_ix ix_tup (pv 3) pe_int (fun _ _ => rfl)) (pa_cons (pe_ix ix_tup (pv 3) pe_int (fun _ _ => rfl)) pa_nil)))) pa_nil)))) pss_nil)
          (pss_one (ps_expr (pe_bm PySem.F.plainAttrs_list PySem.F.slot_list_append PySem.F.type_list_append mt_append (pv 2) (pa_cons (pe_tup (pa_cons pe_str (pa_cons (pe_ix ix_tup (pv 3) pe_int (fun _ _ => rfl)) pa_nil))) pa_nil))))))
      (pss_one (ps_ret (pe_callTy call_tuple_of (by rfl) B.tuple PyProof.Rows.boot_tuple (pa_cons (pe_op op_cat (pv 2) (pe_lc (own := [("teller", 4), ("hearer", 5)]) (g := gTup K 2 (gCons (gName 4) (gCons (gName 5) gNil))) (tt := tYes) rfl scCo.nd (pi_list (pe_meth0 (pv 0) M.tx.cl meL FL r7 bL .nil pass0)) (blkOk_by (N := nCo) (sc := defScope sCo) (by decide +kernel))
          (fun _ _ _ _ _ => pg_tup rfl (pgs_cons (pg_name (i := 4) scCo.nd rfl (Or.inl rfl)) (pgs_cons (pg_name (i := 5) scCo.nd rfl (Or.inl rfl)) pgs_nil))) (fun _ _ _ _ _ => pts_nil) (fun _ _ _ _ _ => pe_tup (pa_cons pe_str (pa_cons (pv 4) (pa_cons (pv 5) pa_nil)))))) pa_nil)))))), ?_⟩
    rcases hcase with ⟨ta, txs, ts, rfl, hta, htx, hT, ho, k⟩ | ⟨d, hd, hsm, hob, kE⟩
    rotate_left
    · have c1 : Ev (tCall (spOutU K CW) [] E0 (tCons (tVar 0) (tCons (tVar 1) tNil))) (start nCo [.ref wv, tv]) H (.bl false) := ev_call (ea_cons (ev_var rfl) (ea_cons (ev_var rfl) ea_nil)) (fun H1 e1 Q1 q1 E1 => .inr ⟨.bl false, ⟨.ref wv, tv, some d, rows, rfl, hw.up e1, hd.mono e1, hsm, by rw [hob]⟩, fun H2 e2 => q1 H2 e2⟩)
      exact q_when (b := !false) (et_not (et_B c1)) (fun hb H1 e1 => kE H1 e1) (fun hb => by cases hb)
    have hG := hw.g
    have h2 := hw.n2
    have h8 := hw.n8
    have hTl := hT.len
    obtain ⟨ps, rfl, ep, hps⟩ := dpa_refs htx
    have hpl : ps.length = ts.length := by rw [← ep, List.length_map]
    have c1 : Ev (tCall (spOutU K CW) [] E0 (tCons (tVar 0) (tCons (tVar 1) tNil))) (start nCo [.ref wv, .ref ta]) H (.bl true) := ev_call (ea_cons (ev_var rfl) (ea_cons (ev_var rfl) ea_nil)) (fun H1 e1 Q1 q1 E1 => .inl ⟨.bl true, ⟨.ref wv, .ref ta, ts, rows, rfl, hw.up e1, .tup (st_of (e1 _ _ hta)) (DpAll.up e1 htx), hT, by rw [ho]⟩, fun H2 e2 => q1 H2 e2⟩)
    refine q_when (b := !true) (et_not (et_B c1)) (fun hb => by cases hb) fun _ H1 e1 => ?_
    refine q_asgW ⟨by show 0 ≤ sizeLine; decide, fun D nD => ?_⟩
    have e2 := e1.trans (Ex.new (o := .lst ([] : List V)) nD)
    have hD2 : (upd H1 D (.lst ([] : List V))) D = some (.lst []) := upd_same
    have gD := fresh_back e1 nD
    generalize upd H1 D (.lst ([] : List V)) = H2 at *
    change tSeq _ _ _ [some (.ref wv), some (.ref ta), some (.ref D), none, none, none] H2
    let FP : List AW := (ps.drop 1).filter fun p => decide (p.2 ≠ [])
    have hFPm : ∀ p ∈ FP, p ∈ ps := fun p hp => List.mem_of_mem_drop (List.mem_filter.mp hp).1
    have hFPl : FP.length ≤ 8 := by
      have := List.length_filter_le (fun p : AW => decide (p.2 ≠ [])) (ps.drop 1)
      rw [List.length_drop] at this
      show (List.filter _ _).length ≤ 8
      omega
    have hp1000 : ∀ p ∈ ps, p.2.length ≤ 8 := fun p hp => hT.l8 hG (by rw [← ep]; exact List.mem_map.mpr ⟨p, hp, rfl⟩)
    refine q_forC (fun l xs H3 => Ex H2 H3 ∧ H2 l = none ∧ H3 l = some (.lst xs) ∧ ∃ qs : List AW, xs = qs.map (fun p => V.ref p.1) ∧ qs.Perm FP ∧ qs.Pairwise (fun x y => x.2.length ≤ y.2.length) ∧ qs = FP.mergeSort (fun p q : AW => decide (p.2.length ≤ q.2.length))) (fun Q q => ?_) ?_
    · have z : EvL (tLc (iTup K (tSl (rSlA K) (tVar 1) (tPart (tC (.int 1))) tNoPart)) (gName 3) (tTest (tOp (rNeEU K) (tVar 3) (tTup tNil))) (tVar 3) [3]) [some (.ref wv), some (.ref ta), some (.ref D), none, none, none] H2 (FP.map fun p => V.ref p.1) := fun H3 e3 Q3 q3 => by
        refine (es_sl (K := K) (lo := some 1) (hi := none) (te := tVar 1) (tl := tPart (tC (.int 1))) (th := tNoPart) (ev_var rfl) (eo_some ev_c) eo_none ((e2.trans e3) _ _ hta)) H3 (Ex.refl _) _ fun t H4 e4 ht => ?_
        rw [show (1 : Int) = ((1 : Nat) : Int) from rfl, cut_from _ 1 (by rw [List.length_map]; omega), ← List.map_drop] at ht
        have z := el_lcT (K := K) (a := t) (xs := (ps.drop 1).map fun p => V.ref p.1) (tl := tC (.ref t)) (σ := [some (.ref wv), some (.ref ta), some (.ref D), none, none, none]) (H := H4) (j := 3) (vs := [3]) (t := tTest (tOp (rNeEU K) (tVar 3) (tTup tNil))) (te := tVar 3)
          (fun i => decide (((ps.drop 1).getD i (0, [])).2 ≠ [])) (fun i => V.ref ((ps.drop 1).getD i (0, [])).1) ev_c (st_of ht) (by rw [List.length_map, List.length_drop]; omega) (fun x => rfl)
          (fun i x H5 e5 hx => ?_) (fun i x H5 e5 hx _ => ?_)
        · rw [List.length_map, given_filt (ps.drop 1) (0, []) (fun p => decide (p.2 ≠ [])) (fun p => V.ref p.1)] at z
          exact z H4 (Ex.refl _) Q3 fun p' H5 np e5 hp' => q3 p' H5 (fresh_back e4 np) (e4.trans e5) hp'
        · rw [List.getElem?_map] at hx
          cases hq : (ps.drop 1)[i]? with
          | none => rw [hq] at hx; cases hx
          | some p =>
            rw [hq] at hx
            have ex : V.ref p.1 = x := Option.some.inj hx
            have egd : (ps.drop 1).getD i (0, []) = p := by rw [List.getD_eq_getElem?_getD, hq]; rfl
            rw [egd, ← ex]
            have hpm : p ∈ ps := List.mem_of_mem_drop (List.mem_of_getElem? hq)
            refine et_test fun H6 e6 Q6 q6 => ⟨.ref p.1, rfl, by show 0 ≤ sizeLine; decide, fun t0 ht0 => ⟨p.1, t0, _, rfl, rfl, ex_t (((e2.trans (e3.trans e4)).trans (e5.trans e6)).trans (Ex.new ht0)) (hps p hpm), st_of upd_same, ?_⟩⟩
            have eb : (!(p.2.map V.int).isEmpty) = decide (p.2 ≠ []) := by cases p.2 <;> simp
            rw [eb]
            exact q6 _ (Ex.new ht0)
        · rw [List.getElem?_map] at hx
          cases hq : (ps.drop 1)[i]? with
          | none => rw [hq] at hx; cases hx
          | some p =>
            rw [hq] at hx
            have ex : V.ref p.1 = x := Option.some.inj hx
            have egd : (ps.drop 1).getD i (0, []) = p := by rw [List.getD_eq_getElem?_getD, hq]; rfl
            rw [egd, ex]
            exact ev_var rfl
      refine t_sortLn (z H2 (Ex.refl _) _ fun p H3 np e3 hp => ⟨p, rfl, FP, sq_of hp, fun x hx => ex_t (e2.trans e3) (hps x (hFPm x hx)), fun x hx => by have := hp1000 x (hFPm x hx); omega, by omega, fun qs l heq hqs hpw nl => q l _ _ ⟨e3.trans (Ex.new nl), fresh_back e3 nl, upd_same, qs, rfl, hqs, hpw, heq⟩⟩)
    rintro l xs H3 ⟨e3, nl, hl, qs, rfl, hqs, hpw, heq⟩
    have nlD : l ≠ D := fun z => by rw [z, hD2] at nl; cases nl
    have e13 := e2.trans e3
    have hsrt : SrtW ts (qs.map (·.2)) := by
      have z := hqs.map (·.2)
      have e : FP.map (·.2) = (ts.drop 1).filter fun w => decide (w ≠ []) := by
        show ((ps.drop 1).filter fun p => decide (p.2 ≠ [])).map (·.2) = _
        rw [← ep, ← List.map_drop, List.filter_map]
        rfl
      rw [e] at z
      refine ⟨z, List.pairwise_map.mpr hpw, ?_⟩
      rw [← e, heq]
      exact List.map_mergeSort (f := fun p : AW => p.2) (r := fun p q : AW => decide (p.2.length ≤ q.2.length)) (s := fun a b => decide (a.length ≤ b.length)) fun a _ b _ => rfl
    have hql : qs.length ≤ 8 := by rw [hqs.length_eq]; exact hFPl
    have hway : ∀ p ∈ qs, p ∈ ps := fun p hp => hFPm p (hqs.mem_iff.mp hp)
    refine ⟨sq_of hl, fun i σ' H' => ∃ us, Ex H H' ∧ H' l = some (.lst (qs.map fun p => V.ref p.1)) ∧ H' D = some (.lst us) ∧ DqA H' us ((((qs.take i).map (·.2)).flatMap stW).map stepD) ∧ us.length ≤ 2 * i ∧ ∃ o3, σ' = [some (.ref wv), some (.ref ta), some (.ref D), o3, none, none], ⟨[], e13, hl, e3 _ _ hD2, by rw [List.take_zero]; exact .nil, by simp, _, rfl⟩, fun i σ' H' _ h => ?_, ?_, ?_⟩
    · obtain ⟨_, _, h, _⟩ := h
      exact sq_of h
    · rintro i x σ' H4 hx ⟨us, e4, hl4, hD4, hus4, hul, o3, rfl⟩
      rw [List.getElem?_map] at hx
      cases hq : qs[i]? with
      | none => rw [hq] at hx; cases hx
      | some p =>
      rw [hq] at hx
      have ex : V.ref p.1 = x := Option.some.inj hx
      subst ex
      have hi : i < qs.length := (List.getElem?_eq_some_iff.mp hq).1
      have hpm := hway p (List.mem_of_getElem? hq)
      have hp4 := ex_t e4 (hps p hpm)
      -- what the way is
      have hpt : p.2 ∈ ts := by rw [← ep]; exact List.mem_map.mpr ⟨p, hpm, rfl⟩
      have hpn : p.2 ≠ [] := by
        have := (List.mem_filter.mp (hqs.mem_iff.mp (List.mem_of_getElem? hq))).2
        simpa using this
      have hp2 : p.2 ∈ ts.drop 1 := by
        have := (List.mem_filter.mp (hqs.mem_iff.mp (List.mem_of_getElem? hq))).1
        rw [← ep, ← List.map_drop]
        exact List.mem_map.mpr ⟨p, this, rfl⟩
      obtain ⟨r0, hr0⟩ := List.mem_iff_getElem?.mp hp2
      rw [List.getElem?_drop] at hr0
      have hf := out_way hG h2 hT ho (show 1 ≤ 1 + r0 by omega) hr0 hpn
      have hrl : 1 + r0 < rows.length := by have := (List.getElem?_eq_some_iff.mp hr0).1; omega
      have hrw : rows[1 + r0]? = some rows[1 + r0] := List.getElem?_eq_getElem hrl
      rw [List.getD_eq_getElem?_getD, hrw] at hf
      have okw := hG.ok _ _ hrw p.2 (List.mem_of_find?_eq_some hf)
      have hl2 := okw.l2
      have hhd := ts_head hG hT hr0 hpn
      have hw0 : (p.2.map V.int)[0]? = some (.int (p.2.getD 0 0)) := by
        rw [List.getElem?_map, List.getD_eq_getElem?_getD, List.getElem?_eq_getElem (show 0 < p.2.length by omega)]
        rfl
      have hw1 : (p.2.map V.int)[1]? = some (.int (p.2.getD 1 0)) := by
        rw [List.getElem?_map, List.getD_eq_getElem?_getD, List.getElem?_eq_getElem (show 1 < p.2.length by omega)]
        rfl
      have hr0' : (p.2.getD 0 0).toNat = 1 + r0 := by rw [hhd]; exact Int.toNat_natCast _
      refine g_name ?_
      change tSeq _ _ _ [some (.ref wv), some (.ref ta), some (.ref D), some (.ref p.1), none, none] H4
      have i0 : ∀ {H5 : Hp}, Ex H4 H5 → Ev (tOp (rIxT K) (tVar 3) (tC (.int 0))) [some (.ref wv), some (.ref ta), some (.ref D), some (.ref p.1), none, none] H5 (.int (p.2.getD 0 0)) := fun e => ev_at (K := K) (j := 0) (ev_var rfl) (ex_t e hp4) (ev_is ev_c rfl) hw0
      have i1 : ∀ {H5 : Hp}, Ex H4 H5 → Ev (tOp (rIxT K) (tVar 3) (tC (.int 1))) [some (.ref wv), some (.ref ta), some (.ref D), some (.ref p.1), none, none] H5 (.int (p.2.getD 1 0)) := fun e => ev_at (K := K) (j := 1) (ev_var rfl) (ex_t e hp4) (ev_is ev_c rfl) hw1
      -- the choice, put behind
      have fin : ∀ (H5 : Hp) (us5 : List V), Ex H H5 → H5 l = some (.lst (qs.map fun p => V.ref p.1)) → H5 D = some (.lst us5) → Ev (tOp (rIxT K) (tVar 3) (tC (.int 0))) [some (.ref wv), some (.ref ta), some (.ref D), some (.ref p.1), none, none] H5 (.int (p.2.getD 0 0)) → DqA H5 us5 ((((qs.take i).map (fun p : AW => p.2)).flatMap stW ++ (if p.2.getD 1 0 = 0 then [] else [Sum.inl [p.2.getD 1 0, p.2.getD 0 0]])).map stepD) → us5.length ≤ 2 * i + 1 →
          tDrop (tBM K "list" rAppend (tVar 2) (tCons (tTup (tCons (tC (.str "choose")) (tCons (tOp (rIxT K) (tVar 3) (tC (.int 0))) tNil))) tNil)) { nx := (fun (i : Nat) (σ' : L2.St) (H' : Hp) => ∃ us : List V, Ex H H' ∧ H' l = some (.lst (qs.map fun p => V.ref p.1)) ∧ H' D = some (.lst us) ∧ DqA H' us ((((qs.take i).map (fun p : AW => p.2)).flatMap stW).map stepD) ∧ us.length ≤ 2 * i ∧ ∃ o3, σ' = [some (.ref wv), some (.ref ta), some (.ref D), o3, none, none]) (i + 1), rt := Q } [some (.ref wv), some (.ref ta), some (.ref D), some (.ref p.1), none, none] H5 := fun H5 us5 e5 hl5 hD5 ev5 hus5 hul5 => by
        refine ⟨.ref D, rfl, .inl ⟨rfl, _, sq_of hD5⟩, ev5 H5 (Ex.refl _) _ fun H6 e6 => ⟨by show 2 ≤ sizeLine; decide, fun t ht => ?_⟩⟩
        have e7 := e6.trans (Ex.new (o := .tup [V.str "choose", .int (p.2.getD 0 0)]) ht)
        have ht7 : (upd H6 t (.tup [V.str "choose", .int (p.2.getD 0 0)])) t = some (.tup [V.str "choose", .int (p.2.getD 0 0)]) := upd_same
        generalize upd H6 t (.tup [V.str "choose", .int (p.2.getD 0 0)]) = H7 at *
        have km := Kp.mut (l' := us5 ++ [.ref t]) (e7 _ _ hD5)
        refine ⟨D, us5, .ref t, rfl, rfl, e7 _ _ hD5, by rw [sizeLine_eq]; omega, us5 ++ [.ref t], Ex.mut (e5.trans e7) gD, by rw [upd_ne nlD]; exact e7 _ _ hl5, upd_same, ?_, by simp; omega, _, rfl⟩
        have ec : ((qs.take (i + 1)).map (fun p : AW => p.2)).flatMap stW = (((qs.take i).map (fun p : AW => p.2)).flatMap stW ++ (if p.2.getD 1 0 = 0 then [] else [Sum.inl [p.2.getD 1 0, p.2.getD 0 0]])) ++ [.inr (p.2.getD 0 0).toNat] := by
          rw [take_snoc hq, List.map_append, List.flatMap_append, List.append_assoc]
          congr 1
          show stW p.2 ++ [] = _
          rw [List.append_nil]
          rfl
        rw [ec, List.map_append]
        refine (dqa_kp km (noLA_stp _) (hus5.mono e7)).append (.cons (dq_kp km (noL_step _) ?_) .nil)
        refine .tup ht7 (.cons (.str _) (.cons ?_ .nil))
        rw [hr0', hhd]
        exact .int _
      refine q_when (b := !decide (V.int (p.2.getD 1 0) = V.int 0)) (et_test (ev_op (i1 (Ex.refl _)) ev_c (rv_ne rfl))) (fun hb H5 e5 => ?_) (fun hb H5 e5 => ?_)
      · have hv : p.2.getD 1 0 ≠ 0 := fun z => by rw [z] at hb; simp at hb
        refine ⟨.ref D, rfl, .inl ⟨rfl, _, sq_of (e5 _ _ hD4)⟩, (i1 e5) H5 (Ex.refl _) _ fun H6 e6 => (i0 (e5.trans e6)) H6 (Ex.refl _) _ fun H7 e7 => ⟨by show 3 ≤ sizeLine; decide, fun t ht => ?_⟩⟩
        have e8 := (e5.trans (e6.trans e7)).trans (Ex.new (o := .tup [V.str "tell", .int (p.2.getD 1 0), .int (p.2.getD 0 0)]) ht)
        have ht8 : (upd H7 t (.tup [V.str "tell", .int (p.2.getD 1 0), .int (p.2.getD 0 0)])) t = some (.tup [V.str "tell", .int (p.2.getD 1 0), .int (p.2.getD 0 0)]) := upd_same
        generalize upd H7 t (.tup [V.str "tell", .int (p.2.getD 1 0), .int (p.2.getD 0 0)]) = H8 at *
        have km := Kp.mut (l' := us ++ [.ref t]) (e8 _ _ hD4)
        refine ⟨D, us, .ref t, rfl, rfl, e8 _ _ hD4, by rw [sizeLine_eq]; omega, ?_⟩
        refine fin _ (us ++ [.ref t]) (Ex.mut (e4.trans e8) gD) (by rw [upd_ne nlD]; exact e8 _ _ hl4) upd_same (ev_at (K := K) (j := 0) (ev_var rfl) (km.st (ex_t e8 hp4)) (ev_is ev_c rfl) hw0) ?_ (by simp; omega)
        rw [if_neg hv, List.map_append]
        exact (dqa_kp km (noLA_stp _) (hus4.mono e8)).append (.cons (dq_kp km (noL_step (.inl [p.2.getD 1 0, p.2.getD 0 0])) (show Dq H8 (.ref t) (stepD (.inl [p.2.getD 1 0, p.2.getD 0 0])) from .tup ht8 (.cons (.str _) (.cons (.int _) (.cons (.int _) .nil))))) .nil)
      · have hv : p.2.getD 1 0 = 0 := by simpa using hb
        refine fin H5 us (e4.trans e5) (e5 _ _ hl4) (e5 _ _ hD4) (i0 e5) ?_ (by omega)
        rw [if_pos hv, List.append_nil]
        exact hus4.mono e5
    · rintro σ' H4 ⟨us, e4, hl4, hD4, hus4, hul, o3, rfl⟩
      rw [List.length_map] at hus4 hul
      rw [List.take_length] at hus4
      obtain ⟨w', dw, lv, ew, hwa, hlv⟩ := hw.ex
      injection ew with ew
      subst ew
      refine ret_any ⟨.ref D, rfl, t_lcC ⟨.ref wv, rfl, wv, dw, _, rfl, e4 _ _ hwa, wf_no _ _ (by decide +kernel) (by decide +kernel), .ref wv, rows, rfl, hw.up e4, fun H5 l5 us5 e5 nl5 hl5 hus5 => ?_⟩⟩
      have hll := lnw_len rows
      have z := dl_P (K := K) (i := 4) (j := 5) (vs := [4, 5]) (te := tTup (tCons (tC (.str "tell")) (tCons (tVar 4) (tCons (tVar 5) tNil)))) (tl := tC (.ref l5)) (σ := [some (.ref wv), some (.ref ta), some (.ref D), o3, none, none]) (fun n => tellD ((linesW rows).getD n [])) ev_c hl5 hus5 (fun p hp => by
        obtain ⟨u, v, e, _⟩ := ln_shape hG h8 hp
        exact ⟨_, _, e⟩) (by omega) (fun x y => rfl) (fun n u v H6 e6 hn => by
        have eg : (linesW rows).getD n [] = [u, v] := by rw [List.getD_eq_getElem?_getD, hn]; rfl
        show EvD _ _ _ (tellD ((linesW rows).getD n []))
        rw [eg]
        exact d_tup (d_cons (d_str _) (d_cons (d_ev (ev_var (i := 4) rfl) rfl fun H _ => .int _) (d_cons (d_ev (ev_var (i := 5) rfl) rfl fun H _ => .int _) d_nil))) (by simp))
      rw [upTo_map .none (linesW rows) [] tellD] at z
      refine z H5 (Ex.refl _) _ fun p us6 H6 np e6 hp hus6 => ?_
      have e46 := e5.trans e6
      have hus6' : DqA H6 us6 ((linesW rows).map tellD) := hus6.mono ((off_in _ _).trans fr_sub)
      have hul6 := hus6'.length
      rw [List.length_map] at hul6
      refine ⟨D, p, us, us6, rfl, rfl, e46 _ _ hD4, hp, by rw [sizeLine_eq]; omega, fun S hS => ⟨S, us ++ us6, rfl, .inl ⟨sq_of upd_same, fun t ht => ?_⟩⟩⟩
      have e8 := (Ex.new (o := .lst (us ++ us6)) hS).trans (Ex.new (o := .tup (us ++ us6)) ht)
      refine k _ t (us ++ us6) (qs.map (·.2)) (e4.trans (e46.trans e8)) hsrt upd_same ?_
      unfold comW
      rw [List.map_append, List.map_map]
      exact (hus4.mono (e46.trans e8)).append (hus6'.mono e8)
end
end Wk

set_option Elab.async false
set_option linter.all false
set_option maxRecDepth 100000
set_option maxHeartbeats 2000000
namespace Wk
open PySem PySem.Spec PyProof.Rows L2 Evl
/-! the pool of three: [great ones, cells, count]; what stands beside it -/
def gOf (H : Hp) (p : Addr) : Option Addr := match H p with
  | some (.lst (.ref g :: _)) => some g
  | _ => none
def rS (H : Hp) (p : Addr) : Hp := fun a => if a = p ∨ gOf H p = some a then none else H a
structure Pol (H : Hp) (p c : Addr) : Prop where
  ex : ∃ (g : Addr) (gs cs : List Int) (n : Int), H p = some (.lst [.ref g, .ref c, .int n]) ∧ H g = some (.lst (gs.map V.int)) ∧ H c = some (.lst (cs.map V.int)) ∧ g ≠ p ∧ c ≠ p ∧ c ≠ g ∧ cs ≠ [] ∧ cs.length ≤ 64 ∧ (∀ x ∈ cs, 0 ≤ x ∧ x < 2147483647) ∧ 0 ≤ n ∧ (∀ x ∈ gs, 0 ≤ x) ∧ gs.length ≤ 64
section
variable {H H' : Hp} {p c a g : Addr} {o : HO} {r : List V}
theorem gOf_of (h : H p = some (.lst (.ref g :: r))) : gOf H p = some g := by unfold gOf; rw [h]
theorem rS_at (h1 : a ≠ p) (h2 : gOf H p ≠ some a) : rS H p a = H a := if_neg fun z => z.elim h1 h2
theorem rS_in (h : rS H p a = some o) : a ≠ p ∧ gOf H p ≠ some a ∧ H a = some o := by
  unfold rS at h
  split at h
  · cases h
  · rename_i n
    exact ⟨fun z => n (.inl z), fun z => n (.inr z), h⟩
theorem rS_sub : Ex (rS H p) H := fun a o h => (rS_in h).2.2
theorem Pol.gg (h : Pol H p c) : ∃ g, gOf H p = some g ∧ g ≠ p ∧ c ≠ g ∧ (∃ o, H g = some (.lst o)) ∧ ∃ r, H p = some (.lst (.ref g :: r)) := by
  obtain ⟨g, gs, cs, n, h1, h2, h3, h4, h5, h6, _⟩ := h.ex
  exact ⟨g, gOf_of h1, h4, h6, ⟨_, h2⟩, _, h1⟩
theorem Pol.cp (h : Pol H p c) : c ≠ p := by
  obtain ⟨g, gs, cs, n, h1, h2, h3, h4, h5, h6, _⟩ := h.ex
  exact h5
theorem Pol.ext (h : Pol H p c) (e : Ex H H') : Pol H' p c := by
  obtain ⟨g, gs, cs, n, h1, h2, h3, h4⟩ := h.ex
  exact ⟨g, gs, cs, n, e _ _ h1, e _ _ h2, e _ _ h3, h4⟩
theorem Pol.gx (h : Pol H p c) (e : Ex H H') : gOf H' p = gOf H p := by
  obtain ⟨g, gs, cs, n, h1, h2, h3, h4⟩ := h.ex
  rw [gOf_of h1, gOf_of (e _ _ h1)]
theorem Pol.rx (h : Pol H p c) (e : Ex H H') : Ex (rS H p) (rS H' p) := fun a o ha => by
  obtain ⟨n1, n2, h3⟩ := rS_in ha
  rw [rS_at n1 (by rw [h.gx e]; exact n2)]
  exact e _ _ h3
/-- what is new is none of the pool's -/
theorem Pol.nw (h : Pol H p c) (ha : H a = none) : a ≠ p ∧ gOf H p ≠ some a ∧ a ≠ c := by
  obtain ⟨g, gs, cs, n, h1, h2, h3, h4⟩ := h.ex
  refine ⟨fun z => ?_, fun z => ?_, fun z => ?_⟩
  · rw [z, h1] at ha; cases ha
  · rw [gOf_of h1] at z; cases z; rw [h2] at ha; cases ha
  · rw [z, h3] at ha; cases ha
theorem Pol.nr (h : Pol H p c) (ha : H a = none) (e : Ex H H') (hx : H' a = some o) : rS H' p a = some o := by
  obtain ⟨n1, n2, _⟩ := h.nw ha
  rw [rS_at n1 (by rw [h.gx e]; exact n2)]
  exact hx
theorem gOf_ne (h : a ≠ p) : gOf (upd H a o) p = gOf H p := by
  unfold gOf
  rw [upd_ne (Ne.symm h)]
theorem rS_upd (n1 : a ≠ p) (n2 : gOf H p ≠ some a) : rS (upd H a o) p = upd (rS H p) a o := by
  funext b
  by_cases hb : b = a
  · subst hb
    rw [rS_at n1 (by rw [gOf_ne n1]; exact n2), upd_same, upd_same]
  · rw [upd_ne hb]
    unfold rS
    rw [gOf_ne n1, upd_ne hb]
theorem Pol.upd (h : Pol H p c) (n1 : a ≠ p) (n2 : gOf H p ≠ some a) (n3 : a ≠ c) : Pol (upd H a o) p c := by
  obtain ⟨g, gs, cs, n, h1, h2, h3, h4⟩ := h.ex
  have ng : g ≠ a := fun z => n2 (by rw [gOf_of h1, z])
  exact ⟨g, gs, cs, n, by rw [upd_ne (Ne.symm n1)]; exact h1, by rw [upd_ne ng]; exact h2, by rw [upd_ne (Ne.symm n3)]; exact h3, h4⟩
/-- a new thing -/
theorem Pol.new (h : Pol H p c) (ha : H a = none) : Pol (L2.upd H a o) p c ∧ rS (L2.upd H a o) p = L2.upd (rS H p) a o := by
  obtain ⟨n1, n2, n3⟩ := h.nw ha
  exact ⟨h.upd n1 n2 n3, rS_upd n1 n2⟩
/-- a thing beside the pool is changed -/
theorem Pol.mut (h : Pol H p c) {u : HO} (ha : rS H p a = some u) (n3 : a ≠ c) : Pol (L2.upd H a o) p c ∧ rS (L2.upd H a o) p = L2.upd (rS H p) a o := by
  obtain ⟨n1, n2, _⟩ := rS_in ha
  exact ⟨h.upd n1 n2 n3, rS_upd n1 n2⟩
theorem Pol.no (h : Pol H p c) (ha : H a = none) : rS H p a = none := by
  obtain ⟨n1, n2, _⟩ := h.nw ha
  rw [rS_at n1 n2]; exact ha
end
/-- a draw, and what follows it: what stands beside the pool stays, what is new is new -/
structure Dr (p c : Addr) (H H' : Hp) : Prop where
  pl : Pol H' p c
  ex : Ex (rS H p) (rS H' p)
  sv : ∀ a, H' a = none → H a = none
section
variable {H H1 H2 : Hp} {p c a : Addr} {o : HO}
theorem Dr.refl (h : Pol H p c) : Dr p c H H := ⟨h, Ex.refl _, fun _ h => h⟩
theorem Dr.trans (x : Dr p c H H1) (y : Dr p c H1 H2) : Dr p c H H2 := ⟨y.pl, x.ex.trans y.ex, fun a h => x.sv a (y.sv a h)⟩
theorem Dr.ext (x : Dr p c H H1) (e : Ex H1 H2) : Dr p c H H2 := ⟨x.pl.ext e, x.ex.trans (x.pl.rx e), fun a h => x.sv a (fresh_back e h)⟩
theorem Dr.of_ex (h : Pol H p c) (e : Ex H H1) : Dr p c H H1 := (Dr.refl h).ext e
/-- a thing made since is changed -/
theorem Dr.mut (x : Dr p c H H1) {u : HO} (ha : rS H1 p a = some u) (hn : rS H p a = none) (nc : a ≠ c) : Dr p c H (upd H1 a o) := by
  obtain ⟨h1, h2⟩ := x.pl.mut (o := o) ha nc
  refine ⟨h1, fun b v hb => ?_, fun b hb => x.sv b (upd_sv hb)⟩
  rw [h2, upd_ne fun z => by rw [z, hn] at hb; cases hb]
  exact x.ex _ _ hb
end
end Wk

set_option Elab.async false
set_option linter.all false
set_option maxRecDepth 100000
set_option maxHeartbeats 4000000
namespace Wk
open PySem PySem.Spec PyProof.Rows L2 Evl
def absI (i : Int) : Int := if i < 0 then -i else i
theorem absI_nn (i : Int) : 0 ≤ absI i := by unfold absI; split <;> omega
theorem getD_atZ {ns : List Int} {i : Nat} {x : V} (h : (ns.map V.int)[i]? = some x) : x = V.int (ns.getD i 0) := by
  rw [List.getElem?_map] at h
  cases hq : ns[i]? with
  | none => rw [hq] at h; cases h
  | some y =>
    rw [hq] at h
    rw [List.getD_eq_getElem?_getD, hq]
    exact (Option.some.inj h).symm
theorem given_allZ (n : Nat) (v : Nat → V) : given n (fun _ => true) v = (List.range n).map v := by
  unfold given
  rw [List.filter_eq_self.mpr fun _ _ => rfl]
theorem shaped_intsL (gs : List Int) : SeqAt.shaped (.list (gs.map PyData.int)) = true := by
  have h1 : PyData.canLayAll0 (gs.map PyData.int) = true := layAll.mpr fun d hd => by
    obtain ⟨i, _, rfl⟩ := List.mem_map.mp hd
    rfl
  have h2 : PyData.depthAll (gs.map PyData.int) ≤ 0 := depAll.mpr fun d hd => by
    obtain ⟨i, _, rfl⟩ := List.mem_map.mp hd
    simp [PyData.depth]
  unfold SeqAt.shaped
  have : decide ((PyData.list (gs.map PyData.int)).depth ≤ 64) = true := decide_eq_true (by simp only [PyData.depth]; omega)
  rw [this]
  simp [PyData.canLay0, h1]
theorem dpa_intsL {K : PySem.W.Frag} {H : Hp} : ∀ gs : List Int, DpAll K H (gs.map V.int) (gs.map PyData.int)
  | [] => .nil
  | x :: gs => .cons (.int x) (dpa_intsL gs)
theorem eqv_intsN (gs : List Int) : PyData.eqv (.list (gs.map PyData.int)) (.list []) = decide (gs = []) := by
  cases gs with
  | nil => simp [PyData.eqv, PyData.eqvAll]
  | cons t r => simp [PyData.eqv, PyData.eqvAll]
theorem cut_all {ns : List Int} (h : ns.length ≤ 63) : cutV (ns.map V.int) none (some 63) = ns.map V.int := by
  unfold cutV
  rw [HT.sIx_none, show ((63 : Int)) = ((63 : Nat) : Int) from rfl, HT.sIx_nat, List.length_map, Nat.min_eq_right h]
  simp
  exact List.take_of_length_le (by simp)
section
variable {P : Program} {w : World} {K : PySem.W.Frag} {mg : Str → Option Value} {base : Heap} {f : Addr} {fd : FuncData}
/-! _law_pool -/
def spPoolT (K : PySem.W.Frag) : Sp := fun vs H Q _ => ∃ (a : Addr) (ns : List Int), vs = [.ref a] ∧ SqL K H a (ns.map V.int) ∧ ns.length ≤ 63 ∧ ∀ H' p c, Pol H' p c → Q (.ref p) H'
abbrev sPoolT : Stmt := top 36
abbrev nPoolT : List Str := ["_law_script", "_law_great", "_law_cells", "_law_cell"]
theorem scPoolT : FnScope nPoolT ["_law_script"] (defScope sPoolT) := ⟨rfl, rfl, rfl, by decide +kernel, rfl, by decide +kernel, by decide +kernel⟩
theorem ok_poolT (B : Bl mg) (F : FnP K "_law_pool" sPoolT f fd) : FnOk P w K mg base CX0 1 f fd ["_law_script"] (spPoolT K) := by
  refine F.ok scPoolT (fun vs H Q E h => ?_) (fun cdv A outer s H vs Q E hr h => ?_)
  · obtain ⟨a, ns, rfl, _⟩ := h
    rfl
  · obtain ⟨a, ns, rfl, hs, hl, k⟩ := h
    refine ⟨_, pss_cons (ps_setLc (i := 1) (own := [("_law_cell", 3)]) (g := gName 3) rfl scPoolT.nd rfl rfl (sw_true rfl rfl rfl (by decide +kernel)) (pi_list (pe_slice sl_list (pv 0) po_none (po_some pe_int))) (blkOk_by (N := nPoolT) (sc := defScope sPoolT) (by decide +kernel))
          (fun _ _ _ _ _ => pg_name (i := 3) scPoolT.nd rfl (Or.inl rfl)) (fun _ _ _ _ _ => pts_one (pt_cmpR op_ge (pe_callB call_abs (by rfl) B.abs boot_abs (pa_cons (pe_callTy call_int1 (by rfl) B.int PyProof.Rows.boot_int (pa_cons (pv 3) pa_nil)) pa_nil)) (pe_op op_pow pe_int pe_int) (nomark _)))
          (fun _ _ _ _ _ => pe_callB call_abs (by rfl) B.abs boot_abs (pa_cons (pe_callTy call_int1 (by rfl) B.int PyProof.Rows.boot_int (pa_cons (pv 3) pa_nil)) pa_nil)))
      (pss_cons (ps_set (i := 2) scPoolT.nd rfl (Or.inl rfl) (pe_op op_cat (pe_lc (own := [("_law_cell", 3)]) (g := gName 3) (tt := tYes) rfl scPoolT.nd (pi_list (pe_slice sl_list (pv 0) po_none (po_some pe_int))) (blkOk_by (N := nPoolT) (sc := defScope sPoolT) (by decide +kernel))
          (fun _ _ _ _ _ => pg_name (i := 3) scPoolT.nd rfl (Or.inl rfl)) (fun _ _ _ _ _ => pts_nil)
          (fun _ _ _ _ _ => pe_op op_mod (pe_callTy call_int1 (by rfl) B.int PyProof.Rows.boot_int (pa_cons (pv 3) pa_nil)) pe_int))
          (pe_lst (pa_cons (pe_op op_mod (pe_callB call_len_seq (by rfl) B.len PySem.boot_len (pa_cons (pv 0) pa_nil)) pe_int) pa_nil))))
      (pss_one (ps_ret (pe_lst (pa_cons (pv 1) (pa_cons (pv 2) (pa_cons pe_int pa_nil))))))), ?_⟩
    have hsl : ∀ (σ' : L2.St) (H1 : Hp), Ex H H1 → σ'[0]? = some (some (.ref a)) → EvL (tSl (rSlL K) (tVar 0) tNoPart (tPart (tC (.int 63)))) σ' H1 (ns.map V.int) := fun σ' H1 e hσ => by
      have q := el_sl (K := K) (te := tVar 0) (σ := σ') (H := H1) (ev_var hσ) eo_none (eo_some (i := 63) ev_c) (ex_l e hs)
      rw [cut_all hl] at q
      exact q
    refine q_asgL (el_lcNL (K := K) (xs := ns.map V.int) (σ := start nPoolT [V.ref a]) (H := H) (j := 3) (vs := [3]) (fun i => decide ((10 : Int) ^ (18 : Int).toNat ≤ absI (ns.getD i 0))) (fun i => V.int (absI (ns.getD i 0))) (hsl _ _ (Ex.refl _) rfl) (by rw [List.length_map]; omega) (fun x => rfl) (fun i x H2 e2 hx => by
      rw [getD_atZ hx]
      exact et_test fun H7 e7 Q7 q7 => ⟨_, rfl, .inl ⟨_, rfl, _, rfl, 10, 18, rfl, rfl, ⟨by decide, by decide, by decide⟩, _, _, rfl, rfl, q7 H7 (Ex.refl _)⟩⟩) (fun i x H2 e2 hx _ => by
      rw [getD_atZ hx]
      exact fun H7 e7 Q7 q7 => ⟨_, rfl, .inl ⟨_, rfl, _, rfl, q7 H7 (Ex.refl _)⟩⟩)) fun g H1 hg e1 hg1 => ?_
    have hgs : ∃ gs : List Int, H1 g = some (.lst (gs.map V.int)) ∧ (∀ x ∈ gs, 0 ≤ x) ∧ gs.length ≤ 64 := by
      refine ⟨(((List.range (ns.map V.int).length).filter fun i => decide ((10 : Int) ^ (18 : Int).toNat ≤ absI (ns.getD i 0)))).map fun i => absI (ns.getD i 0), ?_, ?_, ?_⟩
      · rw [hg1]
        unfold given
        rw [List.map_map]
        rfl
      · intro x hx
        rw [List.mem_map] at hx
        obtain ⟨i, _, rfl⟩ := hx
        exact absI_nn _
      · rw [List.length_map]
        have z := List.length_filter_le (fun i => decide ((10 : Int) ^ (18 : Int).toNat ≤ absI (ns.getD i 0))) (List.range (ns.map V.int).length)
        rw [List.length_range, List.length_map] at z
        rw [List.length_map]
        omega
    obtain ⟨gs, hgs1, hgs2, hgs3⟩ := hgs
    change tSeq _ _ _ [some (.ref a), some (.ref g), none, none] H1
    have hlc := el_lcNL (K := K) (xs := ns.map V.int) (σ := [some (.ref a), some (.ref g), none, none]) (H := H1) (j := 3) (vs := [3]) (te := tOp (rI (fun _ j => 0 < j) fun i j => .int (i % j)) (tCB (fun xs H Q => (∃ i, xs = [.int i] ∧ Q (.int i) H) ∨ ∃ k, xs = [.bl k] ∧ Q (.int (if k then 1 else 0)) H) (tCons (tVar 3) tNil)) (tC (.int 2147483647))) (t := tYes) (fun _ => true) (fun i => V.int (ns.getD i 0 % 2147483647)) (hsl _ _ e1 rfl) (by rw [List.length_map]; omega) (fun x => rfl) (fun _ _ _ _ _ => et_yes) (fun i x H2 e2 hx _ => by
      rw [getD_atZ hx]
      exact fun H7 e7 Q7 q7 => ⟨_, rfl, .inl ⟨_, rfl, _, 2147483647, rfl, rfl, (show (0 : Int) < 2147483647 by decide), q7 H7 (Ex.refl _)⟩⟩)
    rw [given_allZ] at hlc
    obtain ⟨cs0, hcs0⟩ : ∃ cs0 : List Int, cs0 = (List.range (ns.map V.int).length).map fun i => ns.getD i 0 % 2147483647 := ⟨_, rfl⟩
    have hcm : (List.range (ns.map V.int).length).map (fun i => V.int (ns.getD i 0 % 2147483647)) = cs0.map V.int := by rw [hcs0, List.map_map]; rfl
    have hcl : cs0.length ≤ 63 := by rw [hcs0, List.length_map, List.length_range, List.length_map]; exact hl
    have hcr : ∀ x ∈ cs0, 0 ≤ x ∧ x < 2147483647 := fun x hx => by
      rw [hcs0] at hx
      obtain ⟨i, _, rfl⟩ := List.mem_map.mp hx
      exact ⟨Int.emod_nonneg _ (by decide), Int.emod_lt_of_pos _ (by decide)⟩
    rw [hcm] at hlc
    refine q_asgW (hlc H1 (Ex.refl _) _ fun l H2 nl e2 hl2 => ⟨.ref a, rfl, a, _, rfl, .inl (ex_l (e1.trans e2) hs), _, 64, rfl, rfl, (show (0 : Int) < 64 by decide), by show 1 ≤ sizeLine; decide, fun l2 nl2 => ?_⟩)
    have e3 := Ex.new (o := .lst [V.int (((ns.map V.int).length : Int) % 64)]) nl2
    have h32 : (upd H2 l2 (.lst [V.int (((ns.map V.int).length : Int) % 64)])) l2 = some (.lst [V.int (((ns.map V.int).length : Int) % 64)]) := upd_same
    generalize upd H2 l2 (.lst [V.int (((ns.map V.int).length : Int) % 64)]) = H3 at *
    refine ⟨l, l2, _, _, rfl, rfl, e3 _ _ hl2, h32, by rw [List.length_map]; exact sz_of (by simp; omega), fun c nc => ?_⟩
    have hcc : (upd H3 c (.lst (cs0.map V.int ++ [V.int (((ns.map V.int).length : Int) % 64)]))) c = some (.lst ((cs0 ++ [((ns.map V.int).length : Int) % 64]).map V.int)) := by rw [upd_same, List.map_append]; rfl
    have e4 := Ex.new (o := .lst (cs0.map V.int ++ [V.int (((ns.map V.int).length : Int) % 64)])) nc
    have hg4 := e4 _ _ (e3 _ _ (e2 _ _ hgs1))
    have ncg : c ≠ g := fun z => by rw [z, e3 _ _ (e2 _ _ hgs1)] at nc; cases nc
    change tRet _ _ [some (.ref a), some (.ref g), some (.ref c), none] _
    generalize upd H3 c (.lst (cs0.map V.int ++ [V.int (((ns.map V.int).length : Int) % 64)])) = H4 at *
    refine ⟨.ref g, rfl, .ref c, rfl, by show 3 ≤ sizeLine; decide, fun p np => ?_⟩
    have e5 := Ex.new (o := .lst [V.ref g, V.ref c, V.int 0]) np
    refine k _ p c ⟨g, gs, cs0 ++ [((ns.map V.int).length : Int) % 64], 0, upd_same, e5 _ _ hg4, e5 _ _ hcc, fun z => (by rw [z] at hg4; rw [hg4] at np; cases np), fun z => (by rw [z] at hcc; rw [hcc] at np; cases np), ncg, by simp, by simp; omega, fun x hx => ?_, by decide, hgs2, hgs3⟩
    rcases List.mem_append.mp hx with z | z
    · exact hcr x z
    · rw [List.mem_singleton.mp z, List.length_map]
      exact ⟨Int.emod_nonneg _ (by decide), by omega⟩
end
end Wk

set_option Elab.async false
set_option linter.all false
set_option maxRecDepth 100000
set_option maxHeartbeats 4000000
namespace Wk
open PySem PySem.Spec PyProof.Rows L2 Evl
section
variable {P : Program} {w : World} {K : PySem.W.Frag} {mg : Str → Option Value} {base : Heap} {f : Addr} {fd : FuncData}
theorem call_lenK {X : Cx} {K : PySem.W.Frag} (hK : X.K = K) : CallR X (.builtin "len") (rLenS K) := by
  subst hK
  exact call_len_seq
/-! _law_draw -/
def spDraw3 : Sp := fun vs H Q _ => ∃ (p c : Addr) (z : Int), vs = [.ref p, .int z] ∧ Pol H p c ∧ 0 < z ∧ z ≤ 100000 ∧ ∀ H' i, Dr p c H H' → 0 ≤ i → i < z → Q (.int i) H'
abbrev sDraw3 : Stmt := top 37
abbrev nDraw3 : List Str := ["_law_pool_here", "_law_many", "_law_great", "_law_digit", "_law_cells", "_law_number"]
theorem scDraw3 : FnScope nDraw3 ["_law_pool_here", "_law_many"] (defScope sDraw3) := ⟨rfl, rfl, rfl, by decide +kernel, rfl, by decide +kernel, by decide +kernel⟩
/-- the pool's own list is written, its great ones stay -/
theorem pol_p {H : Hp} {p g : Addr} {r r' : List V} (h : H p = some (.lst (.ref g :: r))) : rS (upd H p (.lst (.ref g :: r'))) p = rS H p := by
  have e1 := gOf_of h
  have e2 : gOf (upd H p (.lst (.ref g :: r'))) p = some g := gOf_of upd_same
  funext a
  unfold rS
  rw [e1, e2]
  by_cases c : a = p
  · rw [if_pos (.inl c), if_pos (.inl c)]
  · rw [upd_ne c]
theorem ok_draw3 (B : Bl mg) (F : FnP K "_law_draw" sDraw3 f fd) : FnOk P w K mg base CX0 1 f fd ["_law_pool_here", "_law_many"] spDraw3 := by
  refine F.ok scDraw3 (fun vs H Q E h => ?_) (fun cdv A outer s H vs Q E hr h => ?_)
  · obtain ⟨p, c, z, rfl, _⟩ := h
    rfl
  · obtain ⟨p, c, z, rfl, hP, hz0, hz1, k⟩ := h
    have hu : (A.deeper (envOfC "_law_draw" (defScope sDraw3) s.heap.objs.size f cdv)).units + 64 < cLine := by have := hr.un; omega
    refine ⟨_, pss_cons (ps_set (i := 2) scDraw3.nd rfl (Or.inl rfl) (pe_ix (ix_listK (K := K) rfl) (pv 0) pe_int (fun _ _ => rfl)))
      (pss_cons (ps_if (pt_cmpR (op_neD hu) (pv 2) (pe_lst pa_nil) (nomark _))
        (pss_cons (ps_set (i := 3) scDraw3.nd rfl (Or.inl rfl) (pe_op op_mod (pe_callTy call_int1 (by rfl) B.int PyProof.Rows.boot_int (pa_cons (pe_ix (ix_listK (K := K) rfl) (pv 2) pe_int (fun _ _ => rfl)) pa_nil)) (pv 1)))
        (pss_cons (ps_asg (pe_op op_fdiv (pe_callTy call_int1 (by rfl) B.int PyProof.Rows.boot_int (pa_cons (pe_ix (ix_listK (K := K) rfl) (pv 2) pe_int (fun _ _ => rfl)) pa_nil)) (pv 1)) (pg_sub (pv 2) pe_int set_list))
        (pss_cons (ps_if (pt_cmpR op_eq (pe_ix (ix_listK (K := K) rfl) (pv 2) pe_int (fun _ _ => rfl)) pe_int (nomark _)) (pss_one (ps_asg (pe_slice sl_list (pv 2) (po_some pe_int) po_none) (pg_sub (pv 0) pe_int set_list))) pss_nil)
        (pss_one (ps_ret (pv 3)))))) pss_nil)
      (pss_cons (ps_asg (pe_op op_add (pe_ix (ix_listK (K := K) rfl) (pv 0) pe_int (fun _ _ => rfl)) pe_int) (pg_sub (pv 0) pe_int set_list))
      (pss_cons (ps_set (i := 4) scDraw3.nd rfl (Or.inl rfl) (pe_ix (ix_listK (K := K) rfl) (pv 0) pe_int (fun _ _ => rfl)))
      (pss_cons (ps_set (i := 5) scDraw3.nd rfl (Or.inl rfl) (pe_op op_mod (pe_op op_add (pe_op op_mul (pe_callTy call_int1 (by rfl) B.int PyProof.Rows.boot_int (pa_cons (pe_ix (ix_listK (K := K) rfl) (pv 4) (pe_op op_mod (pe_ix (ix_listK (K := K) rfl) (pv 0) pe_int (fun _ _ => rfl)) (pe_callB (call_lenK (K := K) rfl) (by rfl) B.len PySem.boot_len (pa_cons (pv 4) pa_nil))) (fun _ _ => rfl)) pa_nil)) pe_int) (pe_op op_mul (pe_ix (ix_listK (K := K) rfl) (pv 0) pe_int (fun _ _ => rfl)) pe_int)) pe_int))
      (pss_cons (ps_set (i := 5) scDraw3.nd rfl (Or.inl rfl) (pe_op op_mod (pe_op op_mul (pv 5) (pe_op op_add (pe_op op_fdiv (pv 5) pe_int) pe_int)) pe_int))
      (pss_cons (ps_set (i := 5) scDraw3.nd rfl (Or.inl rfl) (pe_op op_mod (pe_op op_mul (pv 5) (pe_op op_add (pe_op op_add (pe_op op_fdiv (pv 5) pe_int) pe_int) (pe_ix (ix_listK (K := K) rfl) (pv 0) pe_int (fun _ _ => rfl)))) pe_int))
      (pss_one (ps_ret (pe_op op_mod (pe_op op_fdiv (pv 5) pe_int) (pv 1)))))))))), ?_⟩
    obtain ⟨g, gs, cs, n, hp, hg, hc, ngp, ncp, ncg, hcs, hcl, hcr, hn, hgr, hgl⟩ := hP.ex
    have ixp : ∀ {σ : L2.St} {H1 : Hp} {m : Int} {j : Nat} {v : V}, σ[0]? = some (some (.ref p)) → H1 p = some (.lst [.ref g, .ref c, .int m]) → [V.ref g, .ref c, .int m][j]? = some v → Ev (tOp (rIxL K) (tVar 0) (tC (.int (j : Int)))) σ H1 v := fun h h1 h2 => ev_op (ev_var h) (ev_is ev_c rfl) (rv_ixL (sq_of h1) (atI_nat h2))
    refine q_asg (ixp (m := n) (j := 0) rfl hp rfl) fun H1 e1 => ?_
    change tSeq _ _ _ [some (.ref p), some (.int z), some (.ref g), none, none, none] H1
    have dr1 := Dr.of_ex hP e1
    refine q_when (b := !decide (gs = [])) (et_test fun H2 e2 Q2 q2 => ⟨.ref g, rfl, by show 0 ≤ sizeLine; decide, fun l hl => ⟨.list (gs.map PyData.int), .list [], .lst (sq_of ((e1.trans (e2.trans (Ex.new hl))) _ _ hg)) (dpa_intsL gs), .lst (sq_of upd_same) .nil, shaped_intsL gs, shaped_intsL [], by rw [eqv_intsN]; exact q2 _ (Ex.new hl)⟩⟩) (fun hb H2 e2 => ?_) (fun hb H2 e2 => ?_)
    · cases gs with
      | nil => simp at hb
      | cons x gs =>
      have e12 := e1.trans e2
      have hg2 := e12 _ _ hg
      have hp2 := e12 _ _ hp
      have ixg : ∀ {σ : L2.St} {H1 : Hp} {y : Int}, σ[2]? = some (some (.ref g)) → H1 g = some (.lst ((y :: gs).map V.int)) → Ev (tOp (rIxL K) (tVar 2) (tC (.int 0))) σ H1 (.int y) := fun {σ H1 y} h h1 => ev_op (ev_var h) (ev_is ev_c rfl) (rv_ixL (sq_of h1) (atI_nat (xs := V.int y :: gs.map V.int) (j := 0) rfl))
      refine q_asgW ((ixg rfl hg2) H2 (Ex.refl _) _ fun H3 e3 => .inl ⟨x, rfl, .int z, rfl, x, z, rfl, rfl, hz0, ?_⟩)
      change tSeq _ _ _ [some (.ref p), some (.int z), some (.ref g), some (.int (x % z)), none, none] H3
      have hg3 := e3 _ _ hg2
      refine (ixg rfl hg3) H3 (Ex.refl _) _ fun H4 e4 => .inl ⟨x, rfl, .int z, rfl, x, z, rfl, rfl, ⟨hz0, by omega⟩, .ref g, rfl, g, (x :: gs).map V.int, (0 : Int), 0, rfl, rfl, e4 _ _ hg3, ixN_nat (j := 0) (by simp), ?_⟩
      have hl : ((x :: gs).map V.int).set 0 (V.int (x / z)) = ((x / z) :: gs).map V.int := rfl
      have hx0 : 0 ≤ x / z := Int.ediv_nonneg (hgr x List.mem_cons_self) (by omega)
      have hgr' : ∀ y ∈ (x / z) :: gs, 0 ≤ y := fun y hy => by
        rcases List.mem_cons.mp hy with h | h
        · rw [h]; exact hx0
        · exact hgr y (List.mem_cons_of_mem _ h)
      have e04 : Ex H H4 := (e12.trans e3).trans e4
      have hp4 := e04 _ _ hp
      have hc4 := e04 _ _ hc
      have dr4 := Dr.of_ex hP e04
      have dr5 : Dr p c H (upd H4 g (.lst (((x / z) :: gs).map V.int))) := by
        refine ⟨⟨g, (x / z) :: gs, cs, n, by rw [upd_ne (Ne.symm ngp)]; exact hp4, upd_same, by rw [upd_ne ncg]; exact hc4, ngp, ncp, ncg, hcs, hcl, hcr, hn, hgr', hgl⟩, fun a o ha => ?_, fun a ha => dr4.sv a (upd_sv ha)⟩
        have h4 := dr4.ex _ _ ha
        obtain ⟨n1, n2, h4'⟩ := rS_in h4
        have nag : a ≠ g := fun z => n2 (by rw [gOf_of hp4, z])
        rw [rS_at n1 (by rw [gOf_ne ngp]; exact n2), upd_ne nag]
        exact h4'
      rw [hl]
      have hg5 : (upd H4 g (.lst (((x / z) :: gs).map V.int))) g = some (.lst (((x / z) :: gs).map V.int)) := upd_same
      have hp5 : (upd H4 g (.lst (((x / z) :: gs).map V.int))) p = some (.lst [.ref g, .ref c, .int n]) := by rw [upd_ne (Ne.symm ngp)]; exact hp4
      have hc5 : (upd H4 g (.lst (((x / z) :: gs).map V.int))) c = some (.lst (cs.map V.int)) := by rw [upd_ne ncg]; exact hc4
      generalize upd H4 g (.lst (((x / z) :: gs).map V.int)) = H5 at *
      dsimp only
      refine q_when (b := decide (V.int (x / z) = V.int 0)) (et_test (ev_op (ixg rfl hg5) ev_c (rv_eq rfl))) (fun hb6 H6 e6 => ?_) (fun hb6 H6 e6 => ?_)
      · refine ⟨.ref g, rfl, 1, rfl, g, _, rfl, sq_of (e6 _ _ hg5), fun g' ng' => ?_⟩
        rw [show cutV (((x / z) :: gs).map V.int) (some 1) none = gs.map V.int by
          have := cut_from (((x / z) :: gs).map V.int) 1 (by simp)
          rw [show ((1 : Nat) : Int) = (1 : Int) from rfl] at this
          rw [this]; rfl]
        have e7 := Ex.new (o := .lst (gs.map V.int)) ng'
        have hg7 : (upd H6 g' (.lst (gs.map V.int))) g' = some (.lst (gs.map V.int)) := upd_same
        have dr6 := dr5.ext e6
        have dr7 := dr6.ext e7
        have hp7 := e7 _ _ (e6 _ _ hp5)
        have hc7 := e7 _ _ (e6 _ _ hc5)
        have ngp' : g' ≠ p := fun z => by rw [z, e6 _ _ hp5] at ng'; cases ng'
        have ncg' : c ≠ g' := fun z => by rw [← z, e6 _ _ hc5] at ng'; cases ng'
        have old : ∀ a o, rS H p a = some o → a ≠ g' := fun a o ha z => by
          have := (rS_in (dr6.ex _ _ ha)).2.2
          rw [z, ng'] at this; cases this
        generalize upd H6 g' (.lst (gs.map V.int)) = H7 at *
        refine ⟨.ref p, rfl, p, [V.ref g, .ref c, .int n], (0 : Int), 0, rfl, rfl, hp7, ixN_nat (j := 0) (by simp), ?_⟩
        refine s_ret (ev_var (i := 3) rfl) fun H8 e8 => k H8 _ (Dr.ext ?_ e8) (Int.emod_nonneg _ (by omega)) (Int.emod_lt_of_pos _ hz0)
        refine ⟨⟨g', gs, cs, n, upd_same, by rw [upd_ne ngp']; exact hg7, by rw [upd_ne ncp]; exact hc7, ngp', ncp, ncg', hcs, hcl, hcr, hn, fun y hy => hgr y (List.mem_cons_of_mem _ hy), by simp at hgl; omega⟩, fun a o ha => ?_, fun a ha => dr7.sv a (upd_sv ha)⟩
        obtain ⟨n1, n2, h7⟩ := rS_in (dr7.ex _ _ ha)
        have e0 : gOf (upd H7 p (.lst ([V.ref g, .ref c, .int n].set 0 (.ref g')))) p = some g' := gOf_of upd_same
        rw [rS_at n1 (by rw [e0]; exact fun z => old a o ha (Option.some.inj z).symm), upd_ne n1]
        exact h7
      · exact s_ret (ev_var (i := 3) rfl) fun H7 e7 => k H7 _ (dr5.ext (e6.trans e7)) (Int.emod_nonneg _ (by omega)) (Int.emod_lt_of_pos _ hz0)
    · have e12 := e1.trans e2
      have dr2 := Dr.of_ex hP e12
      have hp2 := e12 _ _ hp
      have hc2 := e12 _ _ hc
      refine (ixp (m := n) (j := 2) rfl hp2 rfl) H2 (Ex.refl _) _ fun H3 e3 => ⟨n, 1, rfl, rfl, .ref p, rfl, p, [V.ref g, .ref c, .int n], (2 : Int), 2, rfl, rfl, e3 _ _ hp2, ixN_nat (j := 2) (by simp), ?_⟩
      have dr3 := dr2.ext e3
      have hp3 := e3 _ _ hp2
      have hg3 := e3 _ _ (e12 _ _ hg)
      have hc3 := e3 _ _ hc2
      have dr4 : Dr p c H (upd H3 p (.lst ([V.ref g, .ref c, .int n].set 2 (.int (n + 1))))) := by
        refine ⟨⟨g, gs, cs, n + 1, upd_same, by rw [upd_ne ngp]; exact hg3, by rw [upd_ne ncp]; exact hc3, ngp, ncp, ncg, hcs, hcl, hcr, by omega, hgr, hgl⟩, fun a o ha => ?_, fun a ha => dr3.sv a (upd_sv ha)⟩
        show rS (upd H3 p (.lst (.ref g :: [.ref c, .int (n + 1)]))) p a = some o
        rw [pol_p hp3]
        exact dr3.ex _ _ ha
      have hp4 : (upd H3 p (.lst ([V.ref g, .ref c, .int n].set 2 (.int (n + 1))))) p = some (.lst [.ref g, .ref c, .int (n + 1)]) := upd_same
      have hc4 : (upd H3 p (.lst ([V.ref g, .ref c, .int n].set 2 (.int (n + 1))))) c = some (.lst (cs.map V.int)) := by rw [upd_ne ncp]; exact hc3
      generalize upd H3 p (.lst ([V.ref g, .ref c, .int n].set 2 (.int (n + 1)))) = H4 at *
      refine q_asg (ixp (m := n + 1) (j := 1) rfl hp4 rfl) fun H5 e5 => ?_
      change tSeq _ _ _ [some (.ref p), some (.int z), some (.ref g), none, some (.ref c), none] H5
      have hp5 := e5 _ _ hp4
      have hc5 := e5 _ _ hc4
      have hclp : 0 < cs.length := List.length_pos_iff.mpr hcs
      obtain ⟨j, hj, hjl⟩ : ∃ j : Nat, (n + 1) % ((cs.map V.int).length : Int) = (j : Int) ∧ j < cs.length := by
        have h0 : (0 : Int) < ((cs.map V.int).length : Int) := by rw [List.length_map]; omega
        have h1 := Int.emod_nonneg (n + 1) (show ((cs.map V.int).length : Int) ≠ 0 by omega)
        have h2 := Int.emod_lt_of_pos (n + 1) h0
        refine ⟨((n + 1) % ((cs.map V.int).length : Int)).toNat, by omega, by rw [List.length_map] at h2 ⊢; omega⟩
      have evc : Ev (tOp (rIxL K) (tVar 4) (tOp (rI (fun _ j => 0 < j) fun i j => .int (i % j)) (tOp (rIxL K) (tVar 0) (tC (.int 2))) (tCB (rLenS K) (tCons (tVar 4) tNil)))) [some (.ref p), some (.int z), some (.ref g), none, some (.ref c), none] H5 (.int cs[j]) :=
        ev_op (ev_var (i := 4) rfl) (ev_is (ev_op (ixp (m := n + 1) (j := 2) rfl hp5 rfl) (ev_len (K := K) (ev_var (i := 4) rfl) (sq_of hc5)) (rv_I (by rw [List.length_map]; omega))) (by rw [hj])) (rv_ixL (sq_of hc5) (atI_nat (by rw [List.getElem?_map, List.getElem?_eq_getElem hjl]; rfl)))
      refine q_asgW (evc H5 (Ex.refl _) _ fun H6 e6 => .inl ⟨_, rfl, _, 48271, rfl, rfl, .inr ⟨by decide, by decide⟩, ?_⟩)
      have hp6 := e6 _ _ hp5
      refine (ixp (m := n + 1) (j := 2) rfl hp6 rfl) H6 (Ex.refl _) _ fun H7 e7 => ⟨_, 69621, rfl, rfl, .inr ⟨by decide, by decide⟩, _, _, rfl, rfl, _, 2147483647, rfl, rfl, (show (0 : Int) < 2147483647 by decide), ?_⟩
      have hn1 := Int.emod_nonneg (cs[j] * 48271 + (n + 1) * 69621) (show (2147483647 : Int) ≠ 0 by decide)
      have hn2 := Int.emod_lt_of_pos (cs[j] * 48271 + (n + 1) * 69621) (show (0 : Int) < 2147483647 by decide)
      change tSeq _ _ _ [some (.ref p), some (.int z), some (.ref g), none, some (.ref c), some (.int ((cs[j] * 48271 + (n + 1) * 69621) % 2147483647))] H7
      generalize (cs[j] * 48271 + (n + 1) * 69621) % 2147483647 = n1 at *
      refine q_asgW ⟨.int n1, rfl, .int n1, rfl, n1, 1009, rfl, rfl, ⟨by decide, by decide⟩, _, 40692, rfl, rfl, n1, _, rfl, rfl, .inl ⟨by omega, by omega⟩, _, 2147483399, rfl, rfl, (show (0 : Int) < 2147483399 by decide), ?_⟩
      have hm1 := Int.emod_nonneg (n1 * (n1 / 1009 + 40692)) (show (2147483399 : Int) ≠ 0 by decide)
      have hm2 := Int.emod_lt_of_pos (n1 * (n1 / 1009 + 40692)) (show (0 : Int) < 2147483399 by decide)
      change tSeq _ _ _ [some (.ref p), some (.int z), some (.ref g), none, some (.ref c), some (.int (n1 * (n1 / 1009 + 40692) % 2147483399))] H7
      generalize n1 * (n1 / 1009 + 40692) % 2147483399 = n2 at *
      have hp7 := e7 _ _ hp6
      refine q_asgW ⟨.int n2, rfl, .int n2, rfl, n2, 2003, rfl, rfl, ⟨by decide, by decide⟩, _, 30269, rfl, rfl, (ixp (m := n + 1) (j := 2) rfl hp7 rfl) H7 (Ex.refl _) _ fun H8 e8 => ⟨_, _, rfl, rfl, n2, _, rfl, rfl, .inl ⟨by omega, by omega⟩, _, 2147483629, rfl, rfl, (show (0 : Int) < 2147483629 by decide), ?_⟩⟩
      change tRet _ _ [some (.ref p), some (.int z), some (.ref g), none, some (.ref c), some (.int (n2 * (n2 / 2003 + 30269 + (n + 1)) % 2147483629))] H8
      exact ret_any ⟨.int _, rfl, _, 5, rfl, rfl, ⟨by decide, by decide⟩, .int z, rfl, _, _, rfl, rfl, hz0, k H8 _ (dr4.ext (((e5.trans e6).trans e7).trans e8)) (Int.emod_nonneg _ (by omega)) (Int.emod_lt_of_pos _ hz0)⟩
end
end Wk

set_option Elab.async false
set_option linter.all false
set_option maxRecDepth 100000
set_option maxHeartbeats 4000000
namespace Wk
open PySem PySem.Spec PyProof.Rows L2 Evl
section
variable {H H1 H2 : Hp} {p c a : Addr} {o u : HO}
theorem Dr.mutR (x : Dr p c H H1) (ha : rS H1 p a = some u) (hn : H a = none) (nc : a ≠ c) : Dr p c H (upd H1 a o) ∧ rS (upd H1 a o) p = upd (rS H1 p) a o := by
  obtain ⟨n1, n2, _⟩ := rS_in ha
  refine ⟨x.mut ha ?_ nc, rS_upd n1 n2⟩
  unfold rS
  split
  · rfl
  · exact hn
theorem Dr.newR (x : Dr p c H H1) (ha : H1 a = none) : Dr p c H (upd H1 a o) ∧ rS (upd H1 a o) p = upd (rS H1 p) a o := by
  refine ⟨x.ext (Ex.new ha), (x.pl.new ha).2⟩
end
section
variable {P : Program} {w : World} {K : PySem.W.Frag} {mg : Str → Option Value} {base : Heap} {f : Addr} {fd : FuncData}
/-! _law_order -/
def spOrd3 : Sp := fun vs H Q _ => ∃ (p c : Addr) (n : Nat), vs = [.ref p, .int (n : Int)] ∧ Pol H p c ∧ 2 ≤ n ∧ n ≤ 8 ∧ ∀ H' l (os : List Int), Dr p c H H' → H l = none → l ≠ c → rS H' p l = some (.lst (os.map V.int)) → os.length = n - 1 → os.Nodup → (∀ x ∈ os, 1 ≤ x ∧ x < (n : Int)) → Q (.ref l) H'
abbrev sOrd3 : Stmt := top 38
abbrev nOrd3 : List Str := ["_law_pool_here", "_law_size", "_law_left", "_law_order_here", "_law_k"]
theorem scOrd3 : FnScope nOrd3 ["_law_pool_here", "_law_size"] (defScope sOrd3) := ⟨rfl, rfl, rfl, by decide +kernel, rfl, by decide +kernel, by decide +kernel⟩
theorem ok_ord3 (B : Bl mg) (C : Cal P w K mg base "_law_draw" ["_law_pool_here", "_law_many"] 1 spDraw3) (F : FnP K "_law_order" sOrd3 f fd) : FnOk P w K mg base CX0 2 f fd ["_law_pool_here", "_law_size"] spOrd3 := by
  refine F.ok scOrd3 (fun vs H Q E h => ?_) (fun cdv A outer s H vs Q E hr h => ?_)
  · obtain ⟨p, c, n, rfl, _⟩ := h
    rfl
  · obtain ⟨p, c, n, rfl, hP, hn2, hn8, k⟩ := h
    refine ⟨_, pss_cons (ps_set (i := 2) scOrd3.nd rfl (Or.inl rfl) (pe_listRg rfl (by rfl) B.list (prg_2 (by rfl) B.range pe_int (pv 1))))
      (pss_cons (ps_set (i := 3) scOrd3.nd rfl (Or.inl rfl) (pe_lst pa_nil))
      (pss_cons (ps_for (passes_of rfl) rfl (pi_range1 (by rfl) B.range (pa_cons (pe_op op_sub (pv 1) pe_int) pa_nil)) (pg_name (i := 4) scOrd3.nd rfl (Or.inl rfl))
        (pss_one (ps_expr (pe_bm PySem.F.plainAttrs_list PySem.F.slot_list_append PySem.F.type_list_append mt_append (pv 3) (pa_cons
          (pe_bm PySem.F.plainAttrs_list PySem.F.slot_list_pop PySem.F.type_list_pop mt_popAt (pv 2) (pa_cons (pe_cal C hr (by rfl) (pa_cons (pv 0) (pa_cons (pe_callB call_len_seq (by rfl) B.len PySem.boot_len (pa_cons (pv 2) pa_nil)) pa_nil))) pa_nil)) pa_nil)))))
      (pss_one (ps_ret (pv 3))))), ?_⟩
    refine ⟨.int (n : Int), rfl, 1, (n : Int), rfl, rfl, RgOk.of_le (by decide) (by omega) (by decide) (by omega), fun a1 ha1 => ?_⟩
    refine ⟨by show 0 ≤ sizeLine; decide, fun a2 ha2 => ?_⟩
    have n12 : a1 ≠ a2 := fun z => by rw [← z, upd_same] at ha2; cases ha2
    have ha2' : H a2 = none := by rw [upd_ne (Ne.symm n12)] at ha2; exact ha2
    obtain ⟨p1, g1, c1⟩ := hP.nw ha1
    obtain ⟨p2, g2, c2⟩ := hP.nw ha2'
    have e0 : rgV 1 (n : Int) = ((List.range (n - 1)).map fun (i : Nat) => (1 : Int) + (i : Int)).map V.int := by
      unfold rgV
      rw [show ((n : Int) - 1).toNat = n - 1 by omega, List.map_map]
      rfl
    have d1 := (Dr.refl hP).newR (o := .lst (rgV 1 (n : Int))) ha1
    have d2 := d1.1.newR (o := .lst []) ha2
    have r1 : rS (upd (upd H a1 (.lst (rgV 1 (n : Int)))) a2 (.lst [])) p a1 = some (.lst (rgV 1 (n : Int))) := by rw [d2.2, d1.2, upd_ne n12, upd_same]
    have r2 : rS (upd (upd H a1 (.lst (rgV 1 (n : Int)))) a2 (.lst [])) p a2 = some (.lst []) := by rw [d2.2, upd_same]
    have d3 := d2.1
    change tSeq _ _ _ [some (.ref p), some (.int (n : Int)), some (.ref a1), some (.ref a2), none] _
    generalize upd (upd H a1 (.lst (rgV 1 (n : Int)))) a2 (.lst []) = H3 at *
    rw [e0] at r1
    refine q_forR1 (ea_cons (ev_op (ev_var rfl) ev_c rv_I0) ea_nil) (n := (n : Int) - 1) (by omega) (fun i σ' H' => ∃ (ls os : List Int) (o : Option V), σ' = [some (.ref p), some (.int (n : Int)), some (.ref a1), some (.ref a2), o] ∧ Dr p c H H' ∧ rS H' p a1 = some (.lst (ls.map V.int)) ∧ rS H' p a2 = some (.lst (os.map V.int)) ∧ ls.length + i = n - 1 ∧ os.length = i ∧ (os ++ ls).Nodup ∧ ∀ x ∈ os ++ ls, 1 ≤ x ∧ x < n) ?_ ?_ ?_
    · intro H1 e1
      refine ⟨_, [], none, rfl, d3.ext e1, (d3.pl.rx e1) _ _ r1, (d3.pl.rx e1) _ _ r2, by simp, rfl, ?_, fun x hx => ?_⟩
      · show ((List.range (n - 1)).map fun (i : Nat) => (1 : Int) + (i : Int)).Nodup
        unfold List.Nodup
        rw [List.pairwise_map]
        exact (List.nodup_range (n := n - 1)).imp (fun h e => h (by omega))
      · obtain ⟨i, hi, rfl⟩ := List.mem_map.mp (show x ∈ (List.range (n - 1)).map fun (i : Nat) => (1 : Int) + (i : Int) from hx)
        have := List.mem_range.mp hi
        omega
    · rintro i σ' H1 hi ⟨ls, os, o, rfl, dr, h1, h2, hl, hol, b1, b3⟩
      have hlp : 0 < ls.length := by omega
      have h1' := rS_sub _ _ h1
      have h2' := rS_sub _ _ h2
      refine ⟨.ref a2, rfl, .inl ⟨rfl, _, sq_of h2'⟩, .ref a1, rfl, .inl ⟨rfl, _, sq_of h1'⟩, .ref p, rfl, .ref a1, rfl, a1, _, rfl, .inl (sq_of h1'), ?_⟩
      refine ⟨p, c, ((ls.map V.int).length : Int), rfl, dr.pl, by rw [List.length_map]; omega, by rw [List.length_map]; omega, fun H2 j dr2 hj0 hj1 => ?_⟩
      rw [List.length_map] at hj1
      obtain ⟨m, rfl⟩ : ∃ m : Nat, j = (m : Int) := ⟨j.toNat, by omega⟩
      have hm : m < ls.length := by omega
      have q1 := dr2.ex _ _ h1
      have q2 := dr2.ex _ _ h2
      have dr02 := dr.trans dr2
      refine ⟨a1, _, (m : Int), m, .int ls[m], rfl, rfl, rS_sub _ _ q1, by omega, by omega, by rw [List.length_map]; exact seqIx hm, by rw [List.getElem?_map, List.getElem?_eq_getElem hm]; rfl, ?_⟩
      have m1 := dr02.mutR (o := .lst ((ls.map V.int).eraseIdx m)) q1 ha1 c1
      have q2' : rS (upd H2 a1 (.lst ((ls.map V.int).eraseIdx m))) p a2 = some (.lst (os.map V.int)) := by rw [m1.2, upd_ne (Ne.symm n12)]; exact q2
      refine ⟨a2, _, .int ls[m], rfl, rfl, rS_sub _ _ q2', by rw [List.length_map, sizeLine_eq]; omega, ?_⟩
      have m2 := m1.1.mutR (o := .lst (os.map V.int ++ [.int ls[m]])) q2' ha2' c2
      have hpm : ((os ++ [ls[m]]) ++ ls.eraseIdx m).Perm (os ++ ls) := by
        rw [List.append_assoc]
        exact (erase_perm ls m hm).append_left os
      refine ⟨ls.eraseIdx m, os ++ [ls[m]], _, rfl, m2.1, by rw [m2.2, upd_ne n12, m1.2, upd_same, eraseIdx_mp], by rw [m2.2, upd_same, List.map_append]; rfl, by rw [List.length_eraseIdx_of_lt hm]; omega, by simp; omega, hpm.nodup_iff.mpr b1, fun x hx => b3 x (hpm.mem_iff.mp hx)⟩
    · rintro σ' H1 ⟨ls, os, o, rfl, dr, h1, h2, hl, hol, b1, b3⟩
      rw [show ((n : Int) - 1).toNat = n - 1 by omega] at hl hol
      have : ls = [] := List.length_eq_zero_iff.mp (by omega)
      subst this
      rw [List.append_nil] at b1 b3
      exact s_ret (ev_var (i := 3) rfl) fun H2 e2 => k H2 a2 os (dr.ext e2) ha2' c2 ((dr.pl.rx e2) _ _ h2) hol b1 b3
end
end Wk

set_option Elab.async false
set_option linter.all false
set_option maxRecDepth 100000
set_option maxHeartbeats 4000000
namespace Wk
open PySem PySem.Spec PyProof.Rows L2 Evl
theorem kt_updL {R : Hp} {a : Addr} {l l' : List V} (h : R a = some (.lst l)) : Kt R (upd R a (.lst l')) := ⟨fun b xs hb => by
    rw [upd_ne (fun z => by rw [z, h] at hb; cases hb)]; exact hb, fun b u xs hb => by
    rw [upd_ne (fun z => by rw [z, h] at hb; cases hb)]; exact hb⟩
theorem way_short {n r : Nat} {b : Wy} (hn : n ≤ 8) (hr : r < n) (nd : b.Nodup) (rg : ∀ x ∈ b, 0 ≤ x ∧ x < (n : Int)) (hnr : (r : Int) ∉ b) : b.length ≤ 7 := by
  have h := nd_le ((r : Int) :: b) ((List.range n).map fun (i : Nat) => (i : Int)) (List.nodup_cons.mpr ⟨hnr, nd⟩) (fun x hx => by
    have hx' : 0 ≤ x ∧ x < (n : Int) := by
      rcases List.mem_cons.mp hx with z | z
      · rw [z]; omega
      · exact rg x z
    exact List.mem_map.mpr ⟨x.toNat, List.mem_range.mpr (by omega), by omega⟩)
  rw [List.length_map, List.length_range] at h
  simp at h
  omega
/-- ways that may be gone on by -/
def WsOk (rows : List (List Wy)) (ws : List Wy) : Prop := ∀ b ∈ ws, b = [0] ∨ ∃ (j : Nat) (row' : List Wy), rows[j]? = some row' ∧ b ∈ row'
theorem wsOk_ok {rows : List (List Wy)} {ws : List Wy} (hG : GW rows) (h2 : 2 ≤ rows.length) (h : WsOk rows ws) {b : Wy} (hb : b ∈ ws) : b.Nodup ∧ b ≠ [] ∧ b.length ≤ 8 ∧ ∀ x ∈ b, 0 ≤ x ∧ x < (rows.length : Int) := by
  rcases h b hb with rfl | ⟨j, row', h1, h3⟩
  · exact ⟨by simp, by simp, by simp, fun x hx => by rw [List.mem_singleton.mp hx]; omega⟩
  · have ok := hG.ok j row' h1 b h3
    exact ⟨ok.nd, fun z => by have := ok.l2; rw [z] at this; simp at this, ok.l8, ok.rg⟩
/-- the lists that are being made: rows, and the ways so far; R: what stands beside the pool -/
structure Lz (R : Hp) (c : Addr) (H0 : Hp) (L W : Addr) (rs : List Addr) (rows : List (List Wy)) (ws : List Wy) : Prop where
  at_ : R L = some (.lst (rs.map V.ref))
  len : rs.length = rows.length
  row : ∀ (i : Nat) (r : Addr) (row : List Wy), rs[i]? = some r → rows[i]? = some row → ∃ vs, R r = some (.lst vs) ∧ DqA R vs (row.map wd)
  wy : ∃ us, R W = some (.lst us) ∧ DqA R us (ws.map wd)
  nd : (L :: W :: rs).Nodup
  nw : ∀ a ∈ L :: W :: rs, H0 a = none ∧ a ≠ c
theorem Lz.mono {R R' : Hp} {c : Addr} {H0 : Hp} {L W : Addr} {rs : List Addr} {rows : List (List Wy)} {ws : List Wy} (h : Lz R c H0 L W rs rows ws) (e : Ex R R') : Lz R' c H0 L W rs rows ws := by
  refine ⟨e _ _ h.at_, h.len, fun i r row h1 h2 => ?_, ?_, h.nd, h.nw⟩
  · obtain ⟨vs, h3, h4⟩ := h.row i r row h1 h2
    exact ⟨vs, e _ _ h3, h4.mono e⟩
  · obtain ⟨us, h3, h4⟩ := h.wy
    exact ⟨us, e _ _ h3, h4.mono e⟩
/-- a row is written anew -/
theorem Lz.setRow {R : Hp} {c : Addr} {H0 : Hp} {L W r : Addr} {rs : List Addr} {rows : List (List Wy)} {ws : List Wy} (h : Lz R c H0 L W rs rows ws) {i : Nat} {vs : List V} {row row' : List Wy} (hi : rs[i]? = some r) (hrow : rows[i]? = some row) (hv : DqA R vs (row'.map wd)) : Lz (upd R r (.lst vs)) c H0 L W rs (rows.set i row') ws := by
  have hm := List.mem_of_getElem? hi
  obtain ⟨vs0, hr0, _⟩ := h.row i r row hi hrow
  have kt := kt_updL (l' := vs) hr0
  have nd := h.nd
  rw [List.nodup_cons, List.nodup_cons] at nd
  have nL : L ≠ r := fun z => nd.1 (List.mem_cons_of_mem _ (z ▸ hm))
  have nW : W ≠ r := fun z => nd.2.1 (z ▸ hm)
  refine ⟨by rw [upd_ne nL]; exact h.at_, by rw [List.length_set]; exact h.len, fun j r2 row2 h1 h2 => ?_, ?_, h.nd, h.nw⟩
  · by_cases e : j = i
    · subst e
      rw [hi] at h1
      obtain rfl := Option.some.inj h1
      rw [List.getElem?_set_self (by rw [← h.len]; exact (List.getElem?_eq_some_iff.mp hi).1)] at h2
      obtain rfl := Option.some.inj h2
      exact ⟨vs, upd_same, dqa_kt kt (noLA_wds _) hv⟩
    · rw [List.getElem?_set_ne (Ne.symm e)] at h2
      obtain ⟨vs2, h3, h4⟩ := h.row j r2 row2 h1 h2
      have nr : r2 ≠ r := fun z => e ((List.getElem?_inj (List.getElem?_eq_some_iff.mp h1).1 nd.2.2).mp (h1.trans (z ▸ hi).symm))
      exact ⟨vs2, by rw [upd_ne nr]; exact h3, dqa_kt kt (noLA_wds _) h4⟩
  · obtain ⟨us, h3, h4⟩ := h.wy
    exact ⟨us, by rw [upd_ne nW]; exact h3, dqa_kt kt (noLA_wds _) h4⟩
/-- a way more among the ways -/
theorem Lz.addWay {R : Hp} {c : Addr} {H0 : Hp} {L W : Addr} {rs : List Addr} {rows : List (List Wy)} {ws : List Wy} {us : List V} {v : V} {w : Wy} (h : Lz R c H0 L W rs rows ws) (hu : R W = some (.lst us)) (hv : Dq R v (wd w)) : Lz (upd R W (.lst (us ++ [v]))) c H0 L W rs rows (ws ++ [w]) := by
  have kt := kt_updL (l' := us ++ [v]) hu
  have nd := h.nd
  rw [List.nodup_cons, List.nodup_cons] at nd
  have nL : L ≠ W := fun z => nd.1 (by rw [z]; exact List.mem_cons_self)
  refine ⟨by rw [upd_ne nL]; exact h.at_, h.len, fun j r2 row2 h1 h2 => ?_, ⟨_, upd_same, ?_⟩, h.nd, h.nw⟩
  · obtain ⟨vs2, h3, h4⟩ := h.row j r2 row2 h1 h2
    have nr : r2 ≠ W := fun z => nd.2.1 (z ▸ List.mem_of_getElem? h1)
    exact ⟨vs2, by rw [upd_ne nr]; exact h3, dqa_kt kt (noLA_wds _) h4⟩
  · obtain ⟨us', h3, h4⟩ := h.wy
    rw [hu] at h3
    cases h3
    rw [List.map_append]
    exact (dqa_kt kt (noLA_wds _) h4).append (.cons (dq_kt kt (noL_wd w) hv) .nil)
section
variable {P : Program} {w : World} {K : PySem.W.Frag} {mg : Str → Option Value} {base : Heap} {f : Addr} {fd : FuncData}
/-! _law_add -/
def spAdd3 : Sp := fun vs H Q _ => ∃ (p c L W : Addr) (H0 : Hp) (rs : List Addr) (rows : List (List Wy)) (ws : List Wy), vs = [.ref p, .ref L, .ref W] ∧ Dr p c H0 H ∧ Lz (rS H p) c H0 L W rs rows ws ∧ GW rows ∧ 2 ≤ rows.length ∧ rows.length ≤ 8 ∧ (∀ row ∈ rows, row.length ≤ 6) ∧ WsOk rows ws ∧ ws ≠ [] ∧ ws.length ≤ 200 ∧
  ∀ H' rows' ws', Dr p c H0 H' → Lz (rS H' p) c H0 L W rs rows' ws' → GW rows' → rows'.length = rows.length → (∀ row ∈ rows', row.length ≤ 6) → WsOk rows' ws' → ws' ≠ [] → ws'.length ≤ ws.length + 1 → Q .non H'
abbrev sAdd3 : Stmt := top 39
abbrev nAdd3 : List Str := ["_law_pool_here", "_law_lists_here", "_law_ways", "_law_rest", "_law_router", "_law_row", "_law_place", "_law_way"]
theorem scAdd3 : FnScope nAdd3 ["_law_pool_here", "_law_lists_here", "_law_ways"] (defScope sAdd3) := ⟨rfl, rfl, rfl, by decide +kernel, rfl, by decide +kernel, by decide +kernel⟩
theorem ok_add3 (B : Bl mg) (hmx : mg "max" = none) (C : Cal P w K mg base "_law_draw" ["_law_pool_here", "_law_many"] 1 spDraw3) (F : FnP K "_law_add" sAdd3 f fd) : FnOk P w K mg base CX0 2 f fd ["_law_pool_here", "_law_lists_here", "_law_ways"] spAdd3 := by
  refine F.ok scAdd3 (fun vs H Q E h => ?_) (fun cdv A outer s H vs Q E hr h => ?_)
  · obtain ⟨p, c, L, W, H0, rs, rows, ws, rfl, _⟩ := h
    rfl
  · obtain ⟨p, c, L, W, H0, rs, rows, ws, rfl, dr, hz, hG, hn2, hn8, h6, hw, hwn, hwl, k⟩ := h
    have hu : (A.deeper (envOfC "_law_add" (defScope sAdd3) s.heap.objs.size f cdv)).units + 65 < cLine := by have := hr.un; omega
    refine ⟨_, pss_cons (ps_set (i := 3) scAdd3.nd rfl (Or.inl rfl) (pe_ix (ix_listK (K := K) rfl) (pv 2) (pe_cal C hr (by rfl) (pa_cons (pv 0) (pa_cons (pe_callB (call_lenK (K := K) rfl) (by rfl) B.len PySem.boot_len (pa_cons (pv 2) pa_nil)) pa_nil))) (fun _ _ => rfl)))
      (pss_cons (ps_set (i := 4) scAdd3.nd rfl (Or.inl rfl) (pe_op op_add pe_int (pe_cal C hr (by rfl) (pa_cons (pv 0) (pa_cons (pe_op op_sub (pe_callB (call_lenK (K := K) rfl) (by rfl) B.len PySem.boot_len (pa_cons (pv 1) pa_nil)) pe_int) pa_nil)))))
      (pss_cons (ps_set (i := 5) scAdd3.nd rfl (Or.inl rfl) (pe_ix (ix_listK (K := K) rfl) (pv 1) (pv 4) (fun _ _ => rfl)))
      (pss_cons (ps_set (i := 6) scAdd3.nd rfl (Or.inl rfl) (pe_cal C hr (by rfl) (pa_cons (pv 0) (pa_cons (pe_op op_add (pe_callB (call_lenK (K := K) rfl) (by rfl) B.len PySem.boot_len (pa_cons (pv 5) pa_nil)) pe_int) pa_nil))))
      (pss_cons (ps_set (i := 7) scAdd3.nd rfl (Or.inl rfl) (pe_op op_catA (pe_tup (pa_cons (pv 4) pa_nil)) (pv 3)))
      (pss_one (ps_if (PW.pt (pw_and (pt_cmpR op_notIn_seq (pv 4) (pv 3) rfl) (pw_and (pt_cmpR (op_notInD hu) (pv 7) (pv 5) rfl) (pw_and1 (pt_cmpR op_lt (pe_callB (call_lenK (K := K) rfl) (by rfl) B.len PySem.boot_len (pa_cons (pv 5) pa_nil)) pe_int (nomark _))))))
        (pss_cons (ps_expr (pe_bm PySem.F.plainAttrs_list PySem.F.slot_list_insert PySem.F.type_list_insert mt_insert (pv 5) (pa_cons (pe_callB (call_max2 rfl) (by rfl) hmx boot_max (pa_cons pe_int (pa_cons (pe_op op_sub (pv 6) pe_int) pa_nil))) (pa_cons (pv 7) pa_nil))))
        (pss_one (ps_expr (pe_bm PySem.F.plainAttrs_list PySem.F.slot_list_append PySem.F.type_list_append mt_append (pv 2) (pa_cons (pv 7) pa_nil))))) pss_nil)))))), ?_⟩
    obtain ⟨us, hW, hus⟩ := hz.wy
    have hul := hus.length
    rw [List.length_map] at hul
    have hwp : 0 < ws.length := List.length_pos_iff.mpr hwn
    have hrl := hz.len
    refine q_asgW ⟨.ref W, rfl, .ref p, rfl, .ref W, rfl, W, us, rfl, .inl (sq_of (rS_sub _ _ hW)), p, c, (us.length : Int), rfl, dr.pl, by omega, by omega, fun H1 j d1 hj0 hj1 => ?_⟩
    obtain ⟨jn, rfl⟩ : ∃ jn : Nat, j = (jn : Int) := ⟨j.toNat, by omega⟩
    have hjl : jn < us.length := by omega
    have hW1 := d1.ex _ _ hW
    have hus1 := hus.mono d1.ex
    obtain ⟨b, hb, hbd⟩ := hus1.wds_inv (List.getElem?_eq_getElem hjl)
    have hbw := List.mem_of_getElem? hb
    obtain ⟨bnd, bne, bl8, brg⟩ := wsOk_ok hG hn2 hw hbw
    obtain ⟨ba, hba, hbt⟩ := wd_ref hbd
    refine ⟨W, us, (jn : Int), us[jn], rfl, rfl, sq_of (rS_sub _ _ hW1), atI_nat (List.getElem?_eq_getElem hjl), ?_⟩
    rw [hba]
    change tSeq _ _ _ [some (.ref p), some (.ref L), some (.ref W), some (.ref ba), none, none, none, none] H1
    have hL1 := d1.ex _ _ hz.at_
    refine q_asgW ⟨.ref p, rfl, .ref L, rfl, L, _, rfl, .inl (sq_of (rS_sub _ _ hL1)), _, 1, rfl, rfl, p, c, _, rfl, d1.pl, by rw [List.length_map]; omega, by rw [List.length_map]; omega, fun H2 y d2 hy0 hy1 => ⟨1, y, rfl, rfl, ?_⟩⟩
    rw [List.length_map] at hy1
    obtain ⟨rn, hrn⟩ : ∃ m : Nat, (1 : Int) + y = (m : Int) := ⟨(1 + y).toNat, by omega⟩
    change tSeq _ _ _ [some (.ref p), some (.ref L), some (.ref W), some (.ref ba), some (.int (1 + y)), none, none, none] H2
    rw [hrn]
    have d12 := d1.trans d2
    have hz2 := hz.mono d12.ex
    have hrl' : rn < rs.length := by omega
    have hrs : rs[rn]? = some rs[rn] := List.getElem?_eq_getElem hrl'
    have hrw : rows[rn]? = some rows[rn] := List.getElem?_eq_getElem (by omega)
    have hl2 := h6 _ (List.mem_of_getElem? hrw)
    generalize rs[rn] = r at *
    generalize rows[rn] = row at *
    refine q_asg (ev_op (ev_var (i := 1) rfl) (ev_var (i := 4) rfl) (rv_ixL (sq_of (rS_sub _ _ hz2.at_)) (atI_nat (v := .ref r) (by rw [List.getElem?_map, hrs]; rfl)))) fun H3 e3 => ?_
    change tSeq _ _ _ [some (.ref p), some (.ref L), some (.ref W), some (.ref ba), some (.int (rn : Int)), some (.ref r), none, none] H3
    have d3 := d12.ext e3
    have hz3 := hz.mono d3.ex
    obtain ⟨vs, hr3, hvs3⟩ := hz3.row rn r row hrs hrw
    have hvl := hvs3.length
    rw [List.length_map] at hvl
    refine q_asgW ⟨.ref p, rfl, .ref r, rfl, r, vs, rfl, .inl (sq_of (rS_sub _ _ hr3)), _, 2, rfl, rfl, p, c, _, rfl, d3.pl, by omega, by omega, fun H4 pl d4 hpl0 hpl1 => ?_⟩
    change tSeq _ _ _ [some (.ref p), some (.ref L), some (.ref W), some (.ref ba), some (.int (rn : Int)), some (.ref r), some (.int pl), none] H4
    have d04 := d3.trans d4
    have hz4 := hz.mono d04.ex
    have hr4 := d4.ex _ _ hr3
    have hvs4 := hvs3.mono d4.ex
    have hb4 : H4 ba = some (.tup (b.map V.int)) := rS_sub _ _ (d4.ex _ _ (d12.pl.rx e3 _ _ (d2.ex _ _ hbt)))
    refine q_asgW ⟨.int (rn : Int), rfl, by show 1 ≤ sizeLine; decide, fun t1 ht1 => ?_⟩
    have e5 := Ex.new (o := .tup [V.int (rn : Int)]) ht1
    refine ⟨.ref ba, rfl, t1, ba, _, _, rfl, rfl, st_of upd_same, st_of (e5 _ _ hb4), (by rw [List.length_map, sizeLine_eq]; show 1 + b.length ≤ 16777216; omega), (fun z => by cases z), fun _ z => ?_, fun _ _ t2 ht2 => ?_⟩
    · rw [List.map_eq_nil_iff] at z
      exact absurd z bne
    have e6 := Ex.new (o := .tup ([V.int (rn : Int)] ++ b.map V.int)) ht2
    have d6 := (d04.ext e5).ext e6
    have x6 := (d04.pl.rx (e5.trans e6))
    have hw6 : Dq (rS (upd (upd H4 t1 (.tup [V.int (rn : Int)])) t2 (.tup ([V.int (rn : Int)] ++ b.map V.int))) p) (.ref t2) (wd ((rn : Int) :: b)) := .tup ((d04.pl.ext e5).nr ht2 e6 upd_same) (DqA.ints ((rn : Int) :: b))
    change tIfS _ _ _ _ [some (.ref p), some (.ref L), some (.ref W), some (.ref ba), some (.int (rn : Int)), some (.ref r), some (.int pl), some (.ref t2)] _
    have hb6 := e6 _ _ (e5 _ _ hb4)
    generalize upd (upd H4 t1 (.tup [V.int (rn : Int)])) t2 (.tup ([V.int (rn : Int)] ++ b.map V.int)) = H6 at *
    have hz6 := hz.mono d6.ex
    have hr6 := x6 _ _ hr4
    have hvs6 := hvs4.mono x6
    have hlr : Ev (tCB (rLenS K) (tCons (tVar 5) tNil)) [some (.ref p), some (.ref L), some (.ref W), some (.ref ba), some (.int (rn : Int)), some (.ref r), some (.int pl), some (.ref t2)] H6 (.int (vs.length : Int)) := ev_len (ev_var (i := 5) rfl) (sq_of (rS_sub _ _ hr6))
    have hbb : EvT (tTest (tOp (rNotInD K) (tVar 7) (tVar 5))) [some (.ref p), some (.ref L), some (.ref W), some (.ref ba), some (.int (rn : Int)), some (.ref r), some (.int pl), some (.ref t2)] H6 (!decide ((rn : Int) :: b ∈ row)) := by
      rw [← any_wd]
      refine et_test (ev_op (ev_var (i := 7) rfl) (ev_var (i := 5) rfl) fun H10 e10 Q2 q => ⟨wd ((rn : Int) :: b), row.map wd, Dq.dp (SeqAt.canLay_of_shaped (shaped_ints _)) (hw6.mono (rS_sub.trans e10)), .lst (sq_of (e10 _ _ (rS_sub _ _ hr6))) (DqA.dp (lay_wds row) (hvs6.mono (rS_sub.trans e10))), shaped_ints _, shaped_wds row, q H10 (Ex.refl H10)⟩)
    refine s_when (b := !inV (.int (rn : Int)) (b.map V.int) && (!decide ((rn : Int) :: b ∈ row) && decide ((vs.length : Int) < 6))) (et_and (et_test (ev_op (ev_var (i := 4) rfl) (ev_var (i := 3) rfl) (rv_niT (st_of hb6) rfl (flat_ints b)))) fun _ => et_and hbb fun _ => et_test (ev_op hlr ev_c rv_I0)) (fun hb7 H7 e7 => ?_) (fun hb7 H7 e7 => k H7 rows ws (dr.trans (d6.ext e7)) (hz6.mono (d6.pl.rx e7)) hG rfl h6 hw hwn (by omega))
    rw [inV_ints] at hb7
    simp only [Bool.and_eq_true, Bool.not_eq_true', decide_eq_false_iff_not, decide_eq_true_iff] at hb7
    obtain ⟨hnr, hnin, hv6⟩ := hb7
    have hb7l : b.length ≤ 7 := way_short hn8 (by omega) bnd brg hnr
    have d7 := dr.trans (d6.ext e7)
    have hz7 := hz6.mono (d6.pl.rx e7)
    have hr7 := (d6.pl.rx e7) _ _ hr6
    have hvs7 := hvs6.mono (d6.pl.rx e7)
    have hw7 := hw6.mono (d6.pl.rx e7)
    obtain ⟨i, hi⟩ : ∃ i : Nat, (if pl - 1 > 0 then pl - 1 else 0) = (i : Int) := ⟨(if pl - 1 > 0 then pl - 1 else 0).toNat, by split <;> omega⟩
    refine ⟨.ref r, rfl, .inl ⟨rfl, _, sq_of (rS_sub _ _ hr7)⟩, .int pl, rfl, pl, 1, rfl, rfl, 0, pl - 1, rfl, .ref t2, rfl, r, vs, _, .ref t2, rfl, rfl, rS_sub _ _ hr7, by rw [sizeLine_eq]; omega, by rw [hi]; omega, by split <;> omega, ?_⟩
    rw [hi, Int.toNat_natCast]
    have hmr : r ∈ L :: W :: rs := List.mem_cons_of_mem _ (List.mem_cons_of_mem _ (List.mem_of_getElem? hrs))
    have m8 := d7.mutR (o := .lst (vs.take i ++ [.ref t2] ++ vs.drop i)) hr7 (hz.nw r hmr).1 (hz.nw r hmr).2
    have hdn : DqA (rS H7 p) (vs.take i ++ [.ref t2] ++ vs.drop i) ((row.take i ++ [(rn : Int) :: b] ++ row.drop i).map wd) := by
      rw [List.map_append, List.map_append, List.map_take, List.map_drop]
      exact ((hvs7.take _).append (.cons hw7 .nil)).append (hvs7.drop _)
    have hz8 := hz7.setRow hrs hrw hdn
    have hw8 := dq_kt (kt_updL (l' := vs.take i ++ [V.ref t2] ++ vs.drop i) hr7) (noL_wd _) hw7
    rw [← m8.2] at hz8 hw8
    have d8 := m8.1
    generalize upd H7 r (.lst (vs.take i ++ [.ref t2] ++ vs.drop i)) = H8 at *
    obtain ⟨us8, hW8, hus8⟩ := hz8.wy
    have hul8 := hus8.length
    rw [List.length_map] at hul8
    refine ⟨.ref W, rfl, .inl ⟨rfl, _, sq_of (rS_sub _ _ hW8)⟩, .ref t2, rfl, W, us8, .ref t2, rfl, rfl, rS_sub _ _ hW8, by rw [sizeLine_eq]; omega, ?_⟩
    have hmW : W ∈ L :: W :: rs := List.mem_cons_of_mem _ List.mem_cons_self
    have m9 := d8.mutR (o := .lst (us8 ++ [.ref t2])) hW8 (hz.nw W hmW).1 (hz.nw W hmW).2
    have hz9 := hz8.addWay hW8 hw8
    rw [← m9.2] at hz9
    have hrr : (rows.set rn (row.take i ++ [(rn : Int) :: b] ++ row.drop i))[rn]? = some (row.take i ++ [(rn : Int) :: b] ++ row.drop i) := List.getElem?_set_self (by omega)
    refine k _ (rows.set rn (row.take i ++ [(rn : Int) :: b] ++ row.drop i)) (ws ++ [(rn : Int) :: b]) m9.1 hz9 (gw_add hG hrw (by omega) (hw b hbw) hnr hb7l hnin i) (List.length_set ..) (fun row2 hm => ?_) (fun x hx => ?_) (by simp) (by simp)
    · rcases List.mem_or_eq_of_mem_set hm with z | z
      · exact h6 row2 z
      · rw [z]
        simp
        omega
    · rcases List.mem_append.mp hx with z | z
      · rcases hw x z with h | ⟨j, row', h1, h2⟩
        · exact .inl h
        · right
          by_cases e : rn = j
          · subst e
            rw [hrw] at h1
            obtain rfl := Option.some.inj h1
            refine ⟨rn, _, hrr, ?_⟩
            rw [← List.take_append_drop i row] at h2
            simp only [List.mem_append] at h2 ⊢
            exact h2.elim (fun h => .inl (.inl h)) .inr
          · exact ⟨j, row', by rw [List.getElem?_set_ne e]; exact h1, h2⟩
      · rw [List.mem_singleton.mp z]
        exact .inr ⟨rn, _, hrr, by simp⟩
end
end Wk

set_option Elab.async false
set_option linter.all false
set_option maxRecDepth 100000
set_option maxHeartbeats 4000000
namespace Wk
open PySem PySem.Spec PyProof.Rows L2 Evl
/-- a drawn order of the routers but the goal -/
structure Od3 (n : Nat) (os : List Int) : Prop where
  len : os.length = n - 1
  nd : os.Nodup
  rg : ∀ x ∈ os, 1 ≤ x ∧ x < (n : Int)
theorem Od3.ne {n : Nat} {os : List Int} (h : Od3 n os) {i j : Nat} {x : Int} (hi : os[i]? = some x) (hj : os[j]? = some x) : i = j := by
  have hil := (List.getElem?_eq_some_iff.mp hi).1
  exact (List.getElem?_inj hil h.nd).mp (hi.trans hj.symm)
/-- rows that are being made -/
structure RingJ (n many : Nat) (os : List Int) (i : Nat) (rows : List (List Wy)) (ws : List Wy) : Prop where
  len : rows.length = n
  shape : ∀ (j : Nat) (row : List Wy), rows[j]? = some row → row = [] ∨ ∃ (k : Nat) (x y : Int), k < many ∧ os[k]? = some x ∧ os[(k + 1) % many]? = some y ∧ x = (j : Int) ∧ (row = [[x, y, 0], [x, 0]] ∨ row = [[x, 0], [x, y, 0]])
  done : ∀ (k : Nat) (x y : Int), k < i → os[k]? = some x → os[(k + 1) % many]? = some y → ∃ row, rows[x.toNat]? = some row ∧ [x, 0] ∈ row ∧ [x, y, 0] ∈ row
  wa : ∀ b ∈ ws, b = [0] ∨ ∃ (k : Nat) (x y : Int), k < i ∧ os[k]? = some x ∧ os[(k + 1) % many]? = some y ∧ (b = [x, 0] ∨ b = [x, y, 0])
  wl : ws.length = 1 + 2 * i
theorem rj_start {n many : Nat} {os : List Int} {rows : List (List Wy)} (hl : rows.length = n) (h : ∀ row ∈ rows, row = []) : RingJ n many os 0 rows [[0]] :=
  ⟨hl, fun j row e => .inl (h row (List.mem_of_getElem? e)), fun k x y h1 => by omega, fun b hb => .inl (List.mem_singleton.mp hb), rfl⟩
theorem rj_turn {n many : Nat} {os : List Int} {i : Nat} {rows : List (List Wy)} {ws : List Wy} (ho : Od3 n os) (h : RingJ n many os i rows ws) (hi : i < many) {x y : Int} (hx : os[i]? = some x) (hy : os[(i + 1) % many]? = some y) {row' : List Wy} (hr : row' = [[x, y, 0], [x, 0]] ∨ row' = [[x, 0], [x, y, 0]]) : RingJ n many os (i + 1) (rows.set x.toNat row') (ws ++ [[x, 0]] ++ [[x, y, 0]]) := by
  have rx := ho.rg x (List.mem_of_getElem? hx)
  have hxl : x.toNat < rows.length := by rw [h.len]; omega
  refine ⟨by rw [List.length_set]; exact h.len, fun j row e => ?_, fun k z u h1 hz hu => ?_, fun b hb => ?_, by have := h.wl; simp; omega⟩
  · by_cases c : x.toNat = j
    · subst c
      rw [List.getElem?_set_self hxl] at e
      obtain rfl := Option.some.inj e
      exact .inr ⟨i, x, y, hi, hx, hy, by omega, hr⟩
    · rw [List.getElem?_set_ne c] at e
      exact h.shape j row e
  · by_cases c : k = i
    · subst c
      rw [hx] at hz
      rw [hy] at hu
      cases hz
      cases hu
      refine ⟨_, List.getElem?_set_self hxl, ?_⟩
      rcases hr with rfl | rfl <;> simp
    · obtain ⟨row, e1, e2, e3⟩ := h.done k z u (by omega) hz hu
      have rz := ho.rg z (List.mem_of_getElem? hz)
      have ne : x.toNat ≠ z.toNat := fun q => c (ho.ne hz (by rw [hx]; congr 1; omega))
      exact ⟨row, by rw [List.getElem?_set_ne ne]; exact e1, e2, e3⟩
  · simp only [List.mem_append, List.mem_singleton] at hb
    rcases hb with (hb | rfl) | rfl
    · rcases h.wa b hb with z | ⟨k, u, v, h1, h2⟩
      · exact .inl z
      · exact .inr ⟨k, u, v, by omega, h2⟩
    · exact .inr ⟨i, x, y, by omega, hx, hy, .inl rfl⟩
    · exact .inr ⟨i, x, y, by omega, hx, hy, .inr rfl⟩
theorem rj_end {n many : Nat} {os : List Int} {rows : List (List Wy)} {ws : List Wy} (ho : Od3 n os) (h2 : many = 0 ∨ 2 ≤ many) (hn : many + 1 ≤ n) (h : RingJ n many os many rows ws) : GW rows ∧ (∀ row ∈ rows, row.length ≤ 6) ∧ WsOk rows ws := by
  have idx : ∀ k, k < many → (k + 1) % many < many ∧ (k + 1) % many ≠ k := fun k k2 => by
    refine ⟨Nat.mod_lt _ (by omega), ?_⟩
    by_cases c : k + 1 = many
    · rw [c, Nat.mod_self]; omega
    · rw [Nat.mod_eq_of_lt (by omega)]; omega
  have nz : ∀ (k : Nat) (x : Int), os[k]? = some x → 1 ≤ x ∧ x < (n : Int) := fun k x hx => ho.rg x (List.mem_of_getElem? hx)
  have wok : ∀ {k : Nat} {x y : Int}, k < many → os[k]? = some x → os[(k + 1) % many]? = some y → ∀ w : Wy, (w = [x, 0] ∨ w = [x, y, 0]) → ∀ i : Nat, x = (i : Int) → WyOk rows.length i w := fun {k x y} hk hx hy w hw i e1 => by
    obtain ⟨m1, m2⟩ := idx k hk
    have x0 := nz k x hx
    have y0 := nz _ y hy
    have xy : x ≠ y := fun z => m2 (ho.ne hy (by rw [hx, z]))
    have x1 : x ≠ 0 := by omega
    have y1 : y ≠ 0 := by omega
    rw [h.len]
    rcases hw with rfl | rfl
    · refine ⟨by simp, by simp, by simp [e1], rfl, by simp [x1], fun u hu => ?_⟩
      simp only [List.mem_cons, List.not_mem_nil, or_false] at hu
      rcases hu with rfl | rfl <;> omega
    · refine ⟨by simp, by simp, by simp [e1], rfl, by simp [xy, x1, y1], fun u hu => ?_⟩
      simp only [List.mem_cons, List.not_mem_nil, or_false] at hu
      rcases hu with rfl | rfl | rfl <;> omega
  have mem2 : ∀ {x y : Int} {row : List Wy} {w : Wy}, (row = [[x, y, 0], [x, 0]] ∨ row = [[x, 0], [x, y, 0]]) → w ∈ row → w = [x, 0] ∨ w = [x, y, 0] := fun hr hw => by
    rcases hr with rfl | rfl <;> (simp only [List.mem_cons, List.not_mem_nil, or_false] at hw; rcases hw with h | h <;> simp [h])
  refine ⟨⟨fun row e => ?_, fun i row e => ?_, fun i row e w hw => ?_, fun i row e w hw => ?_⟩, fun row hr => ?_, fun b hb => ?_⟩
  · rcases h.shape 0 row e with z | ⟨k, x, y, k1, hx, hy, e1, e2⟩
    · exact z
    · have := nz k x hx
      omega
  · rcases h.shape i row e with z | ⟨k, x, y, k1, hx, hy, e1, e2⟩
    · rw [z]; exact List.nodup_nil
    · rcases e2 with rfl | rfl <;> simp
  · rcases h.shape i row e with z | ⟨k, x, y, k1, hx, hy, e1, e2⟩
    · rw [z] at hw; cases hw
    · exact wok k1 hx hy w (mem2 e2 hw) i e1
  · rcases h.shape i row e with z | ⟨k, x, y, k1, hx, hy, e1, e2⟩
    · rw [z] at hw; cases hw
    · obtain ⟨m1, m2⟩ := idx k k1
      have y0 := nz _ y hy
      rcases mem2 e2 hw with rfl | rfl
      · exact .inl rfl
      · obtain ⟨u, hu⟩ : ∃ u, os[((k + 1) % many + 1) % many]? = some u := ⟨_, List.getElem?_eq_getElem (by have := idx _ m1; have := ho.len; omega)⟩
        obtain ⟨row', r1, r2, _⟩ := h.done _ y u m1 hy hu
        refine .inr ⟨y.toNat, row', ?_, r1, r2⟩
        show some y = some ((y.toNat : Nat) : Int)
        congr 1
        omega
  · obtain ⟨i, hi⟩ := List.mem_iff_getElem?.mp hr
    rcases h.shape i row hi with z | ⟨k, x, y, k1, hx, hy, e1, e2⟩
    · rw [z]; simp
    · rcases e2 with rfl | rfl <;> simp
  · rcases h.wa b hb with z | ⟨k, x, y, k1, hx, hy, e⟩
    · exact .inl z
    · obtain ⟨row, r1, r2, r3⟩ := h.done k x y k1 hx hy
      exact .inr ⟨x.toNat, row, r1, e.elim (fun z => z ▸ r2) fun z => z ▸ r3⟩
/-- a new row in the place of another -/
theorem Lz.put {R : Hp} {c : Addr} {H0 : Hp} {L W b : Addr} {rs : List Addr} {rows : List (List Wy)} {ws : List Wy} (h : Lz R c H0 L W rs rows ws) {i : Nat} {vs : List V} {row' : List Wy} (hi : i < rows.length) (hb : R b = some (.lst vs)) (hv : DqA R vs (row'.map wd)) (hn : b ∉ L :: W :: rs) (h0 : H0 b = none) (hc : b ≠ c) : Lz (upd R L (.lst ((rs.set i b).map V.ref))) c H0 L W (rs.set i b) (rows.set i row') ws := by
  have kt := kt_updL (l' := (rs.set i b).map V.ref) h.at_
  have nd := h.nd
  rw [List.nodup_cons, List.nodup_cons] at nd
  have hil : i < rs.length := by rw [h.len]; exact hi
  have sub : ∀ a ∈ rs.set i b, a = b ∨ a ∈ rs := fun a ha => (List.mem_or_eq_of_mem_set ha).symm
  refine ⟨upd_same, by rw [List.length_set, List.length_set]; exact h.len, fun j r2 row2 h1 h2 => ?_, ?_, ?_, fun a ha => ?_⟩
  · by_cases e : i = j
    · subst e
      rw [List.getElem?_set_self hil] at h1
      rw [List.getElem?_set_self hi] at h2
      obtain rfl := Option.some.inj h1
      obtain rfl := Option.some.inj h2
      exact ⟨vs, by rw [upd_ne fun z => hn (by rw [z]; exact List.mem_cons_self)]; exact hb, dqa_kt kt (noLA_wds _) hv⟩
    · rw [List.getElem?_set_ne e] at h1 h2
      obtain ⟨vs2, h3, h4⟩ := h.row j r2 row2 h1 h2
      exact ⟨vs2, by rw [upd_ne fun z => nd.1 (by rw [← z]; exact List.mem_cons_of_mem _ (List.mem_of_getElem? h1))]; exact h3, dqa_kt kt (noLA_wds _) h4⟩
  · obtain ⟨us, h3, h4⟩ := h.wy
    exact ⟨us, by rw [upd_ne fun z => nd.1 (by rw [← z]; exact List.mem_cons_self)]; exact h3, dqa_kt kt (noLA_wds _) h4⟩
  · simp only [List.mem_cons, not_or] at hn
    refine List.nodup_cons.mpr ⟨fun z => ?_, List.nodup_cons.mpr ⟨fun z => ?_, nodup_set nd.2.2 hn.2.2⟩⟩
    · rcases List.mem_cons.mp z with z | z
      · exact nd.1 (by rw [z]; exact List.mem_cons_self)
      · rcases sub _ z with z | z
        · exact hn.1 z.symm
        · exact nd.1 (List.mem_cons_of_mem _ z)
    · rcases sub _ z with z | z
      · exact hn.2.1 z.symm
      · exact nd.2.1 z
  · rcases List.mem_cons.mp ha with z | ha
    · exact h.nw a (by rw [z]; exact List.mem_cons_self)
    rcases List.mem_cons.mp ha with z | ha
    · exact h.nw a (by rw [z]; exact List.mem_cons_of_mem _ List.mem_cons_self)
    rcases sub _ ha with z | z
    · rw [z]; exact ⟨h0, hc⟩
    · exact h.nw a (List.mem_cons_of_mem _ (List.mem_cons_of_mem _ z))
end Wk

set_option Elab.async false
set_option linter.all false
set_option maxRecDepth 100000
set_option maxHeartbeats 4000000
namespace Wk
open PySem PySem.Spec PyProof.Rows L2 Evl
theorem Pol.kt {H : Hp} {p c : Addr} (h : Pol H p c) : Kt H (rS H p) := by
  obtain ⟨g, gs, cs, n, h1, h2, h3, h4⟩ := h.ex
  have key : ∀ a o, H a = some o → (∀ l, o ≠ .lst l) → rS H p a = some o := fun a o ha hl => by
    rw [rS_at (fun z => by rw [z, h1] at ha; cases ha; exact hl _ rfl) (fun z => by
      rw [gOf_of h1] at z
      cases z
      rw [h2] at ha; cases ha; exact hl _ rfl)]
    exact ha
  exact ⟨fun a xs ha => key a _ ha fun l z => (by cases z), fun a u xs ha => key a _ ha fun l z => (by cases z)⟩
theorem noLA_rds (rows : List (List Wy)) : noLA (rows.map rd) = true := noLA_all fun d hd => by
  obtain ⟨row, _, rfl⟩ := List.mem_map.mp hd
  show noLA (row.map wd) = true
  exact noLA_wds row
/-- [[] for .. in range(n)] -/
theorem lc_emp {ta : TA} {j : Nat} {vs : List Nat} {σ : L2.St} {H : Hp} {Q : VK} {n : Nat} (h : EvA ta σ H [.int (n : Int)]) (hn : n ≤ 100) (hw : ∀ x, wipe ((wipe σ vs).set j (some x)) vs = wipe σ vs)
    (k : ∀ H' D (rs : List Addr), Ex H H' → H D = none → H' D = some (.lst (rs.map V.ref)) → rs.length = n → (∀ r ∈ rs, H r = none ∧ H' r = some (.lst [])) → (D :: rs).Nodup → Q (.ref D) H') : tLc (iRng1 ta) (gName j) tYes (tLst tNil) vs σ H Q := by
  refine h H (Ex.refl _) _ fun H1 e1 => ⟨(n : Int), rfl, by omega, by omega, fun D nD => ?_⟩
  have nD0 := fresh_back e1 nD
  refine lc_it (walk_range (lo := 0) (n := (n : Int).toNat)) (fun i H' => Ex H H' ∧ ∃ rs : List Addr, H' D = some (.lst (rs.map V.ref)) ∧ rs.length = i ∧ (∀ r ∈ rs, H r = none ∧ H' r = some (.lst [])) ∧ (D :: rs).Nodup) ⟨e1.trans (Ex.new nD), [], upd_same, rfl, fun r hr => (by cases hr), by simp⟩ (fun _ _ _ _ => trivial) (fun i x H3 H4 hi pv y => ?_) (fun H3 pv => ?_)
  · obtain ⟨rfl, rfl⟩ := y
    obtain ⟨e3, rs, hD, hl, hr, nd⟩ := pv
    refine ⟨hw _, ?_⟩
    unfold tYes
    dsimp only
    rw [if_pos rfl]
    refine ⟨by show 0 ≤ sizeLine; decide, fun b nb => ?_⟩
    have e5 := Ex.new (o := .lst []) nb
    have nbD : b ≠ D := fun z => by rw [z, hD] at nb; cases nb
    have nbr : b ∉ rs := fun z => by rw [(hr b z).2] at nb; cases nb
    refine ⟨rs.map V.ref, by rw [upd_ne (Ne.symm nbD)]; exact hD, by rw [List.length_map, sizeLine_eq]; omega, Ex.mut (e3.trans e5) nD0, rs ++ [b], by rw [upd_same, List.map_append]; rfl, by simp [hl], fun r hrr => ?_, ?_⟩
    · rcases List.mem_append.mp hrr with z | z
      · have nr : r ≠ D := fun q => by rw [q] at z; exact (List.nodup_cons.mp nd).1 z
        exact ⟨(hr r z).1, by rw [upd_ne nr]; exact e5 _ _ (hr r z).2⟩
      · rw [List.mem_singleton.mp z]
        exact ⟨fresh_back e3 nb, by rw [upd_ne nbD, upd_same]⟩
    · obtain ⟨n1, n2⟩ := List.nodup_cons.mp nd
      refine List.nodup_cons.mpr ⟨fun z => ?_, List.nodup_append.mpr ⟨n2, by simp, fun a ha b' hb' => ?_⟩⟩
      · rcases List.mem_append.mp z with z | z
        · exact n1 z
        · exact nbD (List.mem_singleton.mp z).symm
      · rw [List.mem_singleton.mp hb']
        exact fun z => nbr (z ▸ ha)
  · obtain ⟨e3, rs, hD, hl, hr, nd⟩ := pv
    exact k H3 D rs e3 nD0 hD (by rw [hl]; omega) hr nd
abbrev rTupS (K : PySem.W.Frag) : List V → Hp → VK → Prop := fun xs H Q => ∃ p ys, xs = [.ref p] ∧ ((SqL K H p ys ∧ ∀ l, H l = none → Q (.ref l) (upd H l (.tup ys))) ∨ (SqT K H p ys ∧ Q (.ref p) H))
/-- tuple([tuple(row) for row in lists]) -/
theorem ret_rows {K : PySem.W.Frag} {l j : Nat} {vs : List Nat} {σ : L2.St} {H : Hp} {E : Ends} {L : Addr} {rs : List Addr} {rows : List (List Wy)} (hσ : σ[l]? = some (some (.ref L))) (hw : ∀ x, wipe ((wipe σ vs).set j (some x)) vs = wipe σ vs) (hg : ∀ x, ((wipe σ vs).set j (some x))[j]? = some (some x)) (hL : H L = some (.lst (rs.map V.ref))) (hl : rs.length = rows.length) (h8 : rows.length ≤ 100)
    (hr : ∀ (i : Nat) (r : Addr) (row : List Wy), rs[i]? = some r → rows[i]? = some row → ∃ ws, H r = some (.lst ws) ∧ DqA H ws (row.map wd)) (k : ∀ H' T, Ex H H' → Dq H' (.ref T) (pd rows) → E.rt (.ref T) H') : tRet (tCB (rTupS K) (tCons (tLc (iList K (tVar l)) (gName j) tYes (tCB (rTupS K) (tCons (tVar j) tNil)) vs) tNil)) E σ H := by
  refine ⟨.ref L, hσ, L, rfl, ⟨_, sq_of hL⟩, fun D nD => ?_⟩
  refine lc_list (xs := rs.map V.ref) (fun i H' => Ex H H' ∧ ∃ ts, H' D = some (.lst ts) ∧ ts.length = i ∧ DqA H' ts ((rows.take i).map rd)) ⟨Ex.new nD, [], upd_same, rfl, .nil⟩ (fun i H' hi pv => sq_of (pv.1 _ _ hL)) (fun i x H3 hx pv => ?_) (fun H3 pv => ?_)
  · obtain ⟨e3, ts, hD, htl, hts⟩ := pv
    rw [List.getElem?_map] at hx
    cases hri : rs[i]? with
    | none => rw [hri] at hx; cases hx
    | some r =>
      rw [hri] at hx
      obtain rfl := Option.some.inj hx
      have hil := (List.getElem?_eq_some_iff.mp hri).1
      have hrow : rows[i]? = some rows[i] := List.getElem?_eq_getElem (by omega)
      obtain ⟨ws, h1, h2⟩ := hr i r _ hri hrow
      refine ⟨hw _, ?_⟩
      unfold tYes
      dsimp only
      rw [if_pos rfl]
      refine ⟨.ref r, hg _, r, ws, rfl, .inl ⟨sq_of (e3 _ _ h1), fun T nT => ?_⟩⟩
      have e4 := Ex.new (o := .tup ws) nT
      have hD4 := e4 _ _ hD
      have kt := kt_updL (l' := ts ++ [V.ref T]) hD4
      refine ⟨ts, hD4, by rw [sizeLine_eq]; omega, Ex.mut (e3.trans e4) nD, ts ++ [.ref T], upd_same, by simp [htl], ?_⟩
      rw [take_snoc hrow, List.map_append]
      rw [show (rows.take i).map rd ++ [rows[i]].map rd = (rows.take i ++ [rows[i]]).map rd by rw [List.map_append]]
      refine dqa_kt kt (noLA_rds _) (by rw [List.map_append]; exact (hts.mono e4).append (.cons (.tup upd_same (h2.mono (e3.trans e4))) .nil))
  · obtain ⟨e3, ts, hD, htl, hts⟩ := pv
    rw [List.length_map, hl, List.take_length] at hts
    refine ⟨D, ts, rfl, .inl ⟨sq_of hD, fun T nT => ?_⟩⟩
    have e4 := Ex.new (o := .tup ts) nT
    exact k _ T (e3.trans e4) (.tup upd_same (hts.mono e4))
end Wk

set_option Elab.async false
set_option linter.all false
set_option maxRecDepth 100000
set_option maxHeartbeats 4000000
namespace Wk
open PySem PySem.Spec PyProof.Rows L2 Evl
section
variable {P : Program} {w : World} {K : PySem.W.Frag} {mg : Str → Option Value} {base : Heap} {f : Addr} {fd : FuncData}
/-! _law_lists -/
def spLists3 : Sp := fun vs H Q _ => ∃ (p c : Addr) (n ring more : Nat), vs = [.ref p, .int (n : Int), .int (ring : Int), .int (more : Int)] ∧ Pol H p c ∧ 2 ≤ n ∧ n ≤ 8 ∧ (ring = 0 ∨ 2 ≤ ring) ∧ ring + 1 ≤ n ∧ more ≤ 20 ∧ ∀ H' v rows, Dr p c H H' → Dq (rS H' p) v (pd rows) → rows.length = n → GW rows → (∀ row ∈ rows, row.length ≤ 6) → Q v H'
abbrev sLists3 : Stmt := top 40
abbrev nLists3 : List Str := ["_law_pool_here", "_law_size", "_law_ring", "_law_more", "_law_lists_here", "_law_ways", "_law_order_here", "_law_k", "_law_near", "_law_far", "_law_row"]
theorem scLists3 : FnScope nLists3 ["_law_pool_here", "_law_size", "_law_ring", "_law_more"] (defScope sLists3) := ⟨rfl, rfl, rfl, by decide +kernel, rfl, by decide +kernel, by decide +kernel⟩
theorem ok_lists3 (B : Bl mg) (C : Cal P w K mg base "_law_draw" ["_law_pool_here", "_law_many"] 1 spDraw3) (CO : Cal P w K mg base "_law_order" ["_law_pool_here", "_law_size"] 2 spOrd3) (CA : Cal P w K mg base "_law_add" ["_law_pool_here", "_law_lists_here", "_law_ways"] 2 spAdd3) (F : FnP K "_law_lists" sLists3 f fd) : FnOk P w K mg base CX0 3 f fd ["_law_pool_here", "_law_size", "_law_ring", "_law_more"] spLists3 := by
  refine F.ok scLists3 (fun vs H Q E h => ?_) (fun cdv A outer s H vs Q E hr h => ?_)
  · obtain ⟨p, c, n, ring, more, rfl, _⟩ := h
    rfl
  · obtain ⟨p, c, n, ring, more, rfl, hP, hn2, hn8, hrg, hrn, hmo, k⟩ := h
    have r2 : Room 2 _ := hr
    have r1 : Room 1 _ := hr.mono (by decide)
    refine ⟨_, pss_cons (ps_setLc (i := 4) (own := [("_law_k", 7)]) (g := gName 7) (tt := tYes) rfl scLists3.nd rfl rfl (sw_true rfl rfl rfl (by decide +kernel)) (pi_range1 (by rfl) B.range (pa_cons (pv 1) pa_nil)) (blkOk_by (N := nLists3) (sc := defScope sLists3) (by decide +kernel))
          (fun _ _ _ _ _ => pg_name (i := 7) scLists3.nd rfl (Or.inl rfl)) (fun _ _ _ _ _ => pts_nil) (fun _ _ _ _ _ => pe_lst pa_nil))
      (pss_cons (ps_set (i := 5) scLists3.nd rfl (Or.inl rfl) (pe_lst (pa_cons (pe_tup (pa_cons pe_int pa_nil)) pa_nil)))
      (pss_cons (ps_set (i := 6) scLists3.nd rfl (Or.inl rfl) (pe_cal CO r2 (by rfl) (pa_cons (pv 0) (pa_cons (pv 1) pa_nil))))
      (pss_cons (ps_for (passes_of rfl) rfl (pi_range1 (by rfl) B.range (pa_cons (pv 2) pa_nil)) (pg_name (i := 7) scLists3.nd rfl (Or.inl rfl))
        (pss_cons (ps_set (i := 8) scLists3.nd rfl (Or.inl rfl) (pe_tup (pa_cons (pe_ix (ix_listK (K := K) rfl) (pv 6) (pv 7) (fun _ _ => rfl)) (pa_cons pe_int pa_nil))))
        (pss_cons (ps_set (i := 9) scLists3.nd rfl (Or.inl rfl) (pe_tup (pa_cons (pe_ix (ix_listK (K := K) rfl) (pv 6) (pv 7) (fun _ _ => rfl)) (pa_cons (pe_ix (ix_listK (K := K) rfl) (pv 6) (pe_op op_mod (pe_op op_add (pv 7) pe_int) (pv 2)) (fun _ _ => rfl)) (pa_cons pe_int pa_nil)))))
        (pss_cut (ps_if (pt_cmpR op_eq (pe_cal C r1 (by rfl) (pa_cons (pv 0) (pa_cons pe_int pa_nil))) pe_int (nomark _))
            (pss_one (ps_asg (pe_lst (pa_cons (pv 8) (pa_cons (pv 9) pa_nil))) (pg_sub (pv 4) (pe_ix (ix_listK (K := K) rfl) (pv 6) (pv 7) (fun _ _ => rfl)) set_list)))
            (pss_one (ps_asg (pe_lst (pa_cons (pv 9) (pa_cons (pv 8) pa_nil))) (pg_sub (pv 4) (pe_ix (ix_listK (K := K) rfl) (pv 6) (pv 7) (fun _ _ => rfl)) set_list))))
        (pss_cons (ps_expr (pe_bm PySem.F.plainAttrs_list PySem.F.slot_list_append PySem.F.type_list_append mt_append (pv 5) (pa_cons (pv 8) pa_nil)))
        (pss_one (ps_expr (pe_bm PySem.F.plainAttrs_list PySem.F.slot_list_append PySem.F.type_list_append mt_append (pv 5) (pa_cons (pv 9) pa_nil)))))))))
      (pss_cons (ps_for (passes_of rfl) rfl (pi_range1 (by rfl) B.range (pa_cons (pv 3) pa_nil)) (pg_name (i := 7) scLists3.nd rfl (Or.inl rfl))
        (pss_one (ps_expr (pe_cal CA r2 (by rfl) (pa_cons (pv 0) (pa_cons (pv 4) (pa_cons (pv 5) pa_nil)))))))
      (pss_one (ps_ret (pe_callTy (call_tupleK (K := K) rfl) (by rfl) B.tuple PyProof.Rows.boot_tuple (pa_cons (pe_lc (own := [("_law_row", 10)]) (g := gName 10) (tt := tYes) rfl scLists3.nd (pi_list (pv 4)) (blkOk_by (N := nLists3) (sc := defScope sLists3) (by decide +kernel))
          (fun _ _ _ _ _ => pg_name (i := 10) scLists3.nd rfl (Or.inl rfl)) (fun _ _ _ _ _ => pts_nil) (fun _ _ _ _ _ => pe_callTy (call_tupleK (K := K) rfl) (by rfl) B.tuple PyProof.Rows.boot_tuple (pa_cons (pv 10) pa_nil))) pa_nil)))))))), ?_⟩
    refine q_asgW (lc_emp (n := n) (ea_cons (ev_var (i := 1) rfl) ea_nil) (by omega) (fun x => rfl) fun H1 L rs e1 nL hL1 hrl hrs ndL => ?_)
    change tSeq _ _ _ [some (.ref p), some (.int (n : Int)), some (.int (ring : Int)), some (.int (more : Int)), some (.ref L), none, none, none, none, none, none] H1
    have d1 := Dr.of_ex hP e1
    refine q_asgW ⟨by show 1 ≤ sizeLine; decide, fun t0 nt0 => ⟨by show 1 ≤ sizeLine; decide, fun W nW => ?_⟩⟩
    have e2 := Ex.new (o := .tup [V.int 0]) nt0
    have ht0 : (upd H1 t0 (.tup [V.int 0])) t0 = some (.tup [V.int 0]) := upd_same
    generalize upd H1 t0 (.tup [V.int 0]) = H2 at *
    have e3 := Ex.new (o := .lst [V.ref t0]) nW
    have hW3 : (upd H2 W (.lst [V.ref t0])) W = some (.lst [.ref t0]) := upd_same
    change tSeq _ _ _ [some (.ref p), some (.int (n : Int)), some (.int (ring : Int)), some (.int (more : Int)), some (.ref L), some (.ref W), none, none, none, none, none] _
    generalize upd H2 W (.lst [V.ref t0]) = H3 at *
    have d3 := (d1.ext e2).ext e3
    have nWH : H W = none := fresh_back (e1.trans e2) nW
    have e13 := e2.trans e3
    have rL : rS H3 p L = some (.lst (rs.map V.ref)) := hP.nr nL (e1.trans e13) (e13 _ _ hL1)
    have rr : ∀ r ∈ rs, rS H3 p r = some (.lst []) := fun r hr => hP.nr (hrs r hr).1 (e1.trans e13) (e13 _ _ (hrs r hr).2)
    have rW : rS H3 p W = some (.lst [.ref t0]) := hP.nr nWH ((e1.trans e2).trans e3) hW3
    have rt0 : rS H3 p t0 = some (.tup [.int 0]) := d3.pl.kt.t _ _ (e3 _ _ ht0)
    have nWL : ∀ a ∈ L :: rs, W ≠ a := fun a ha z => by
      rcases List.mem_cons.mp ha with q | q
      · rw [z, q, e2 _ _ hL1] at nW; cases nW
      · rw [z, e2 _ _ (hrs a q).2] at nW; cases nW
    obtain ⟨ndL1, ndL2⟩ := List.nodup_cons.mp ndL
    have hz3 : Lz (rS H3 p) c H L W rs (List.replicate n []) [[0]] := by
      refine ⟨rL, by rw [List.length_replicate]; exact hrl, fun i r row h1 h2 => ⟨[], rr r (List.mem_of_getElem? h1), ?_⟩, ⟨_, rW, .cons (.tup rt0 (DqA.ints [0])) .nil⟩, ?_, fun a ha => ?_⟩
      · rw [List.getElem?_replicate] at h2
        split at h2
        · cases h2; exact .nil
        · cases h2
      · refine List.nodup_cons.mpr ⟨fun z => ?_, List.nodup_cons.mpr ⟨fun z => nWL W (List.mem_cons_of_mem _ z) rfl, ndL2⟩⟩
        rcases List.mem_cons.mp z with z | z
        · exact nWL L List.mem_cons_self z.symm
        · exact ndL1 z
      · rcases List.mem_cons.mp ha with z | ha
        · rw [z]; exact ⟨nL, (hP.nw nL).2.2⟩
        rcases List.mem_cons.mp ha with z | z
        · rw [z]; exact ⟨nWH, (hP.nw nWH).2.2⟩
        · exact ⟨(hrs a z).1, (hP.nw (hrs a z).1).2.2⟩
    refine q_asgW ⟨.ref p, rfl, .int (n : Int), rfl, p, c, n, rfl, d3.pl, hn2, hn8, fun H4 O os d34 nO nOc hO hol hon hor => ?_⟩
    change tSeq _ _ _ [some (.ref p), some (.int (n : Int)), some (.int (ring : Int)), some (.int (more : Int)), some (.ref L), some (.ref W), some (.ref O), none, none, none, none] H4
    have ho : Od3 n os := ⟨hol, hon, hor⟩
    have d4 := d3.trans d34
    have hz4 := hz3.mono d34.ex
    have nOm : ∀ {a o}, rS H3 p a = some o → a ≠ O := fun {a o} h z => by
      have := rS_sub _ _ h
      rw [z, nO] at this; cases this
    have nOL := nOm rL
    have nOW := nOm rW
    clear rL rr rW rt0 nWL ndL1 ndL2 ndL hrs hL1 hz3
    refine q_forR1 (n := (ring : Int)) (ea_cons (ev_var (i := 2) rfl) ea_nil) (by omega) (fun i σ' H' => ∃ (rs : List Addr) (rows : List (List Wy)) (ws : List Wy) (o7 o8 o9 : Option V), σ' = [some (.ref p), some (.int (n : Int)), some (.int (ring : Int)), some (.int (more : Int)), some (.ref L), some (.ref W), some (.ref O), o7, o8, o9, none] ∧ Dr p c H H' ∧ Lz (rS H' p) c H L W rs rows ws ∧ RingJ n ring os i rows ws ∧ rS H' p O = some (.lst (os.map V.int))) (fun H5 e5 => ⟨rs, _, [[0]], _, _, _, rfl, d4.ext e5, hz4.mono (d4.pl.rx e5), rj_start (List.length_replicate ..) (fun row hr => List.eq_of_mem_replicate hr), d4.pl.rx e5 _ _ hO⟩) (fun i σ' H5 hi hP5 => ?_) (fun σ' H5 hP5 => ?_)
    · obtain ⟨rs5, rows, ws, o7, o8, o9, rfl, d5, hz5, hrj, hO5⟩ := hP5
      have hir : i < ring := by omega
      have hln := hrj.len
      have hwl := hrj.wl
      have hm : (i + 1) % ring < ring := Nat.mod_lt _ (by omega)
      obtain ⟨x, hx⟩ : ∃ x, os[i]? = some x := ⟨_, List.getElem?_eq_getElem (by omega)⟩
      obtain ⟨y, hy⟩ : ∃ y, os[(i + 1) % ring]? = some y := ⟨_, List.getElem?_eq_getElem (by omega)⟩
      have rx := hor x (List.mem_of_getElem? hx)
      obtain ⟨xn, rfl⟩ : ∃ xn : Nat, x = (xn : Int) := ⟨x.toNat, by omega⟩
      change tSeq _ _ _ [some (.ref p), some (.int (n : Int)), some (.int (ring : Int)), some (.int (more : Int)), some (.ref L), some (.ref W), some (.ref O), some (.int (i : Int)), o8, o9, none] H5
      have ixk : ∀ {σ : L2.St} {H6 : Hp}, σ[6]? = some (some (.ref O)) → σ[7]? = some (some (.int (i : Int))) → Ex H5 H6 → Ev (tOp (rIxL K) (tVar 6) (tVar 7)) σ H6 (.int (xn : Int)) := fun h1 h2 e => ev_op (ev_var h1) (ev_var h2) (rv_ixL (sq_of (e _ _ (rS_sub _ _ hO5))) (atI_nat (by rw [List.getElem?_map, hx]; rfl)))
      refine q_asgU (eu_tup (ea_cons (ixk rfl rfl (Ex.refl _)) (ea_cons (ev_c (v := .int 0)) ea_nil)) (by simp)) fun N H6 nN e6 hN => ?_
      change tSeq _ _ _ [some (.ref p), some (.int (n : Int)), some (.int (ring : Int)), some (.int (more : Int)), some (.ref L), some (.ref W), some (.ref O), some (.int (i : Int)), some (.ref N), o9, none] H6
      have evy : Ev (tOp (rIxL K) (tVar 6) (tOp (rI (fun _ j => 0 < j) fun i j => .int (i % j)) (tOp (rI0 fun i j => .int (i + j)) (tVar 7) (tC (.int 1))) (tVar 2))) [some (.ref p), some (.int (n : Int)), some (.int (ring : Int)), some (.int (more : Int)), some (.ref L), some (.ref W), some (.ref O), some (.int (i : Int)), some (.ref N), o9, none] H6 (.int y) := ev_op (ev_var (i := 6) rfl) (ev_is (ev_op (ev_op (ev_var (i := 7) rfl) (ev_c (v := .int 1)) rv_I0) (ev_var (i := 2) rfl) (rv_I (by omega))) (show V.int (((i : Int) + 1) % (ring : Int)) = V.int (((i + 1) % ring : Nat) : Int) by push_cast; rfl)) (rv_ixL (sq_of (e6 _ _ (rS_sub _ _ hO5))) (atI_nat (by rw [List.getElem?_map, hy]; rfl)))
      refine q_asgU (eu_tup (ea_cons (ixk rfl rfl e6) (ea_cons evy (ea_cons (ev_c (v := .int 0)) ea_nil))) (by simp)) fun Fa H7 nF e7 hF => ?_
      change tCut _ _ _ [some (.ref p), some (.int (n : Int)), some (.int (ring : Int)), some (.int (more : Int)), some (.ref L), some (.ref W), some (.ref O), some (.int (i : Int)), some (.ref N), some (.ref Fa), none] H7
      have d7 := (d5.ext e6).ext e7
      have x57 := d5.pl.rx (e6.trans e7)
      have hz7 := hz5.mono x57
      have hO7 := x57 _ _ hO5
      have tN7 : rS H7 p N = some (.tup [.int (xn : Int), .int 0]) := d7.pl.kt.t _ _ (e7 _ _ hN)
      have tF7 : rS H7 p Fa = some (.tup [.int (xn : Int), .int y, .int 0]) := d7.pl.kt.t _ _ hF
      have put : ∀ (H8 : Hp) (b : Addr) (u v : Addr) (row' : List Wy), Dr p c H7 H8 → H8 b = none → (u = N ∧ v = Fa ∧ row' = [[(xn : Int), 0], [(xn : Int), y, 0]] ∨ u = Fa ∧ v = N ∧ row' = [[(xn : Int), y, 0], [(xn : Int), 0]]) →
          (upd H8 b (.lst [V.ref u, V.ref v])) L = some (.lst (rs5.map V.ref)) ∧ ∀ H9, H9 = upd (upd H8 b (.lst [V.ref u, V.ref v])) L (.lst ((rs5.map V.ref).set xn (.ref b))) → Dr p c H H9 ∧ Lz (rS H9 p) c H L W (rs5.set xn b) (rows.set xn row') ws ∧ rS H9 p O = some (.lst (os.map V.int)) ∧ rS H9 p N = some (.tup [.int (xn : Int), .int 0]) ∧ rS H9 p Fa = some (.tup [.int (xn : Int), .int y, .int 0]) := fun H8 b u v row' d78 nb huv => by
        have d08 := d7.trans d78
        have hz8 := hz7.mono d78.ex
        have m9 := d08.newR (o := .lst [V.ref u, V.ref v]) nb
        have eb := Ex.new (o := .lst [V.ref u, V.ref v]) nb
        have x9 := d08.pl.rx eb
        have hz9 := hz8.mono x9
        have tN9 := x9 _ _ (d78.ex _ _ tN7)
        have tF9 := x9 _ _ (d78.ex _ _ tF7)
        have hO9 := x9 _ _ (d78.ex _ _ hO7)
        have hb9 : rS (upd H8 b (.lst [V.ref u, V.ref v])) p b = some (.lst [.ref u, .ref v]) := by rw [m9.2]; exact upd_same
        have nbm : b ∉ L :: W :: rs5 := fun z => by
          have : ∃ o, H8 b = some o := by
            rcases List.mem_cons.mp z with q | q
            · rw [q]; exact ⟨_, rS_sub _ _ hz8.at_⟩
            rcases List.mem_cons.mp q with q | q
            · rw [q]; obtain ⟨us, h, _⟩ := hz8.wy; exact ⟨_, rS_sub _ _ h⟩
            · obtain ⟨j, hj⟩ := List.mem_iff_getElem?.mp q
              have hjl : j < rows.length := by have := (List.getElem?_eq_some_iff.mp hj).1; have := hz8.len; omega
              obtain ⟨vs, h, _⟩ := hz8.row j b _ hj (List.getElem?_eq_getElem hjl)
              exact ⟨_, rS_sub _ _ h⟩
          obtain ⟨o, h⟩ := this
          rw [nb] at h; cases h
        have hdv : DqA (rS (upd H8 b (.lst [V.ref u, V.ref v])) p) [.ref u, .ref v] (row'.map wd) := by
          rcases huv with ⟨rfl, rfl, rfl⟩ | ⟨rfl, rfl, rfl⟩
          · exact .cons (.tup tN9 (DqA.ints [(xn : Int), 0])) (.cons (.tup tF9 (DqA.ints [(xn : Int), y, 0])) .nil)
          · exact .cons (.tup tF9 (DqA.ints [(xn : Int), y, 0])) (.cons (.tup tN9 (DqA.ints [(xn : Int), 0])) .nil)
        refine ⟨rS_sub _ _ hz9.at_, fun H9 e9 => ?_⟩
        have hp := hz9.put (i := xn) (by omega) hb9 hdv nbm (d08.sv b nb) (d08.pl.nw nb).2.2
        have m := m9.1.mutR (o := .lst ((rs5.map V.ref).set xn (.ref b))) hz9.at_ (hz9.nw L List.mem_cons_self).1 (hz9.nw L List.mem_cons_self).2
        rw [← e9] at m
        have es : (rs5.map V.ref).set xn (.ref b) = (rs5.set xn b).map V.ref := by rw [List.map_set]
        rw [es] at m
        rw [← m.2] at hp
        refine ⟨m.1, hp, by rw [m.2, upd_ne (Ne.symm nOL)]; exact hO9, ?_, ?_⟩
        · rw [m.2, upd_ne fun z => by rw [z, hz9.at_] at tN9; cases tN9]; exact tN9
        · rw [m.2, upd_ne fun z => by rw [z, hz9.at_] at tF9; cases tF9]; exact tF9
      refine ⟨fun σ' H' => σ' = [some (.ref p), some (.int (n : Int)), some (.int (ring : Int)), some (.int (more : Int)), some (.ref L), some (.ref W), some (.ref O), some (.int (i : Int)), some (.ref N), some (.ref Fa), none] ∧ ∃ rs6 row', Dr p c H H' ∧ Lz (rS H' p) c H L W rs6 (rows.set xn row') ws ∧ (row' = [[(xn : Int), y, 0], [(xn : Int), 0]] ∨ row' = [[(xn : Int), 0], [(xn : Int), y, 0]]) ∧ rS H' p O = some (.lst (os.map V.int)) ∧ rS H' p N = some (.tup [.int (xn : Int), .int 0]) ∧ rS H' p Fa = some (.tup [.int (xn : Int), .int y, .int 0]), ?_, ?_⟩
      · refine ⟨.ref p, rfl, p, c, 5, rfl, d7.pl, by decide, by decide, fun H8 z d78 hz0 hz1 => ⟨rfl, _, rfl, ?_⟩⟩
        dsimp only
        by_cases cc : decide (V.int z = V.int 4) = true
        · rw [if_pos cc]
          refine ⟨.ref N, rfl, .ref Fa, rfl, by show 2 ≤ sizeLine; decide, fun b nb => ?_⟩
          obtain ⟨q1, q2⟩ := put H8 b N Fa _ d78 nb (.inl ⟨rfl, rfl, rfl⟩)
          have hO9 := Ex.new (o := .lst [V.ref N, V.ref Fa]) nb _ _ (rS_sub _ _ (d78.ex _ _ hO7))
          refine ⟨.ref L, rfl, .ref O, rfl, .int (i : Int), rfl, O, os.map V.int, (i : Int), .int (xn : Int), rfl, rfl, sq_of hO9, atI_nat (by rw [List.getElem?_map, hx]; rfl), L, rs5.map V.ref, (xn : Int), xn, rfl, rfl, q1, ixN_nat (by rw [List.length_map, hz5.len]; omega), ?_⟩
          obtain ⟨w1, w2, w3, w4, w5⟩ := q2 _ rfl
          exact ⟨rfl, _, _, w1, w2, .inr rfl, w3, w4, w5⟩
        · rw [if_neg cc]
          refine ⟨.ref Fa, rfl, .ref N, rfl, by show 2 ≤ sizeLine; decide, fun b nb => ?_⟩
          obtain ⟨q1, q2⟩ := put H8 b Fa N _ d78 nb (.inr ⟨rfl, rfl, rfl⟩)
          have hO9 := Ex.new (o := .lst [V.ref Fa, V.ref N]) nb _ _ (rS_sub _ _ (d78.ex _ _ hO7))
          refine ⟨.ref L, rfl, .ref O, rfl, .int (i : Int), rfl, O, os.map V.int, (i : Int), .int (xn : Int), rfl, rfl, sq_of hO9, atI_nat (by rw [List.getElem?_map, hx]; rfl), L, rs5.map V.ref, (xn : Int), xn, rfl, rfl, q1, ixN_nat (by rw [List.length_map, hz5.len]; omega), ?_⟩
          obtain ⟨w1, w2, w3, w4, w5⟩ := q2 _ rfl
          exact ⟨rfl, _, _, w1, w2, .inl rfl, w3, w4, w5⟩
      clear put
      rintro σ' H8 ⟨rfl, rs6, row', d8, hz8, hrow, hO8, tN8, tF8⟩
      obtain ⟨us, hW8, hus⟩ := hz8.wy
      have hul := hus.length
      rw [List.length_map] at hul
      have hmW : W ∈ L :: W :: rs6 := List.mem_cons_of_mem _ List.mem_cons_self
      refine ⟨.ref W, rfl, .inl ⟨rfl, _, sq_of (rS_sub _ _ hW8)⟩, .ref N, rfl, W, us, .ref N, rfl, rfl, rS_sub _ _ hW8, by rw [sizeLine_eq]; omega, ?_⟩
      have m9 := d8.mutR (o := .lst (us ++ [V.ref N])) hW8 (hz8.nw W hmW).1 (hz8.nw W hmW).2
      have hz9 := hz8.addWay (w := [(xn : Int), 0]) hW8 (.tup tN8 (DqA.ints [(xn : Int), 0]))
      rw [← m9.2] at hz9
      have hW9 : rS (upd H8 W (.lst (us ++ [V.ref N]))) p W = some (.lst (us ++ [V.ref N])) := by rw [m9.2]; exact upd_same
      have hO9 : rS (upd H8 W (.lst (us ++ [V.ref N]))) p O = some (.lst (os.map V.int)) := by rw [m9.2, upd_ne (Ne.symm nOW)]; exact hO8
      have tF9 : rS (upd H8 W (.lst (us ++ [V.ref N]))) p Fa = some (.tup [.int (xn : Int), .int y, .int 0]) := by rw [m9.2, upd_ne fun z => by rw [z, hW8] at tF8; cases tF8]; exact tF8
      have d9 := m9.1
      generalize upd H8 W (.lst (us ++ [V.ref N])) = H9 at *
      refine ⟨.ref W, rfl, .inl ⟨rfl, _, sq_of (rS_sub _ _ hW9)⟩, .ref Fa, rfl, W, us ++ [V.ref N], .ref Fa, rfl, rfl, rS_sub _ _ hW9, by rw [sizeLine_eq]; simp; omega, ?_⟩
      have m10 := d9.mutR (o := .lst (us ++ [V.ref N] ++ [V.ref Fa])) hW9 (hz9.nw W hmW).1 (hz9.nw W hmW).2
      have hz10 := hz9.addWay (w := [(xn : Int), y, 0]) hW9 (.tup tF9 (DqA.ints [(xn : Int), y, 0]))
      rw [← m10.2] at hz10
      have hO10 : rS (upd H9 W (.lst (us ++ [V.ref N] ++ [V.ref Fa]))) p O = some (.lst (os.map V.int)) := by rw [m10.2, upd_ne (Ne.symm nOW)]; exact hO9
      have hj := rj_turn ho hrj hir hx hy hrow
      rw [Int.toNat_natCast] at hj
      exact ⟨rs6, _, _, _, _, _, rfl, m10.1, hz10, hj, hO10⟩
    · obtain ⟨rs5, rows, ws, o7, o8, o9, rfl, d5, hz5, hrj, _⟩ := hP5
      rw [Int.toNat_natCast] at hrj
      obtain ⟨hG, h6, hw⟩ := rj_end ho hrg hrn hrj
      have hln := hrj.len
      have hwl := hrj.wl
      refine q_forR1 (n := (more : Int)) (ea_cons (ev_var (i := 3) rfl) ea_nil) (by omega) (fun i σ' H' => ∃ (rows : List (List Wy)) (ws : List Wy) (o7 o8 o9 : Option V), σ' = [some (.ref p), some (.int (n : Int)), some (.int (ring : Int)), some (.int (more : Int)), some (.ref L), some (.ref W), some (.ref O), o7, o8, o9, none] ∧ Dr p c H H' ∧ Lz (rS H' p) c H L W rs5 rows ws ∧ rows.length = n ∧ GW rows ∧ (∀ row ∈ rows, row.length ≤ 6) ∧ WsOk rows ws ∧ ws ≠ [] ∧ ws.length ≤ 20 + i) (fun H6 e6 => ⟨rows, ws, _, _, _, rfl, d5.ext e6, hz5.mono (d5.pl.rx e6), hln, hG, h6, hw, fun z => (by rw [z] at hwl; simp at hwl; omega), by omega⟩) (fun i σ' H6 hi hP6 => ?_) (fun σ' H6 hP6 => ?_)
      · obtain ⟨rows6, ws6, o7, o8, o9, rfl, d6, hz6, hl6, hG6, h66, hw6, hwn6, hwl6⟩ := hP6
        refine ⟨.ref p, rfl, .ref L, rfl, .ref W, rfl, p, c, L, W, H, rs5, rows6, ws6, rfl, d6, hz6, hG6, by omega, by omega, h66, hw6, hwn6, by omega, fun H7 rows7 ws7 d7 hz7 hG7 hl7 h67 hw7 hwn7 hwl7 => ⟨rows7, ws7, _, _, _, rfl, d7, hz7, by omega, hG7, h67, hw7, hwn7, by omega⟩⟩
      · obtain ⟨rows6, ws6, o7, o8, o9, rfl, d6, hz6, hl6, hG6, h66, _⟩ := hP6
        refine ret_rows (K := K) (rs := rs5) (rows := rows6) rfl (fun x => rfl) (fun x => rfl) (rS_sub _ _ hz6.at_) hz6.len (by omega) (fun j r row h1 h2 => ?_) fun H7 T e7 hT => ?_
        · obtain ⟨vs, h3, h4⟩ := hz6.row j r row h1 h2
          exact ⟨vs, rS_sub _ _ h3, h4.mono rS_sub⟩
        · have d7 := d6.ext e7
          exact k H7 _ rows6 d7 (dq_kt d7.pl.kt (noLA_rds rows6) hT) hl6 hG6 h66
end
end Wk

set_option Elab.async false
set_option linter.all false
set_option maxRecDepth 100000
set_option maxHeartbeats 4000000
namespace Wk
open PySem PySem.Spec PyProof.Rows L2 Evl
/-- a row of ways at r -/
def RowH (R : Hp) (r : Addr) (row : List Wy) : Prop := ∃ vs, R r = some (.lst vs) ∧ DqA R vs (row.map wd)
theorem RowH.mono {R R' : Hp} {r : Addr} {row : List Wy} (e : Ex R R') (h : RowH R r row) : RowH R' r row := by
  obtain ⟨vs, h1, h2⟩ := h
  exact ⟨vs, e _ _ h1, h2.mono e⟩
theorem RowH.upd {R : Hp} {r L : Addr} {row : List Wy} {l l' : List V} (h : RowH R r row) (hL : R L = some (.lst l)) (n : r ≠ L) : RowH (L2.upd R L (.lst l')) r row := by
  obtain ⟨vs, h1, h2⟩ := h
  exact ⟨vs, by rw [upd_ne n]; exact h1, dqa_kt (kt_updL hL) (noLA_wds _) h2⟩
theorem rows_set {P : Addr → List Wy → Prop} {rs : List Addr} {rows : List (List Wy)} (hl : rs.length = rows.length) (h : ∀ (j : Nat) r row, rs[j]? = some r → rows[j]? = some row → P r row) (i : Nat) {b : Addr} {row' : List Wy} (hb : P b row') : ∀ (j : Nat) r row, (rs.set i b)[j]? = some r → (rows.set i row')[j]? = some row → P r row := fun j r row h1 h2 => by
  by_cases e : i = j
  · subst e
    by_cases hi : i < rs.length
    · rw [List.getElem?_set_self hi] at h1
      rw [List.getElem?_set_self (by omega)] at h2
      cases h1; cases h2
      exact hb
    · rw [List.getElem?_eq_none (by rw [List.length_set]; omega)] at h1
      cases h1
  · rw [List.getElem?_set_ne e] at h1 h2
    exact h j r row h1 h2
/-- the rows of eased wishes -/
def rowA (a b d : Int) (i : Nat) : List Wy := [[a, b, 0], [a, 0]].take i ++ [[a, d, 0]] ++ [[a, b, 0], [a, 0]].drop i
def rowBx (a b d : Int) (i : Nat) : List Wy := [[b, a, 0], [b, 0]].take i ++ [[b, a, d, 0]] ++ [[b, a, 0], [b, 0]].drop i
theorem take2 (x y : Wy) {i : Nat} (hi : i ≤ 2) (z : Wy) : [x, y].take i ++ [z] ++ [x, y].drop i = [z, x, y] ∨ [x, y].take i ++ [z] ++ [x, y].drop i = [x, z, y] ∨ [x, y].take i ++ [z] ++ [x, y].drop i = [x, y, z] := by
  have : i = 0 ∨ i = 1 ∨ i = 2 := by omega
  rcases this with rfl | rfl | rfl <;> simp
theorem eased_ok {a b d : Int} (h : Od3 4 [a, b, d]) {i : Nat} (hi : i ≤ 2) {rb : List Wy} (hb : rb = [[b, a, 0], [b, 0]] ∨ ∃ j, j ≤ 2 ∧ rb = rowBx a b d j) : GW (((([[], [], [], []] : List (List Wy)).set a.toNat (rowA a b d i)).set b.toNat rb).set d.toNat [[d, 0]]) ∧ ∀ row ∈ (((([[], [], [], []] : List (List Wy)).set a.toNat (rowA a b d i)).set b.toNat rb).set d.toNat [[d, 0]]), row.length ≤ 6 := by
  have ra := h.rg a (by simp)
  have rb' := h.rg b (by simp)
  have rd := h.rg d (by simp)
  have nd := h.nd
  simp only [List.nodup_cons, List.mem_cons, List.not_mem_nil, or_false, not_or, List.nodup_nil, and_true, not_false_eq_true] at nd
  obtain ⟨⟨nab, nad⟩, nbd⟩ := nd
  obtain ⟨an, rfl⟩ : ∃ n : Nat, a = (n : Int) := ⟨a.toNat, by omega⟩
  obtain ⟨bn, rfl⟩ : ∃ n : Nat, b = (n : Int) := ⟨b.toNat, by omega⟩
  obtain ⟨dn, rfl⟩ : ∃ n : Nat, d = (n : Int) := ⟨d.toNat, by omega⟩
  simp only [Int.toNat_natCast]
  have eab : an ≠ bn := by omega
  have ead : an ≠ dn := by omega
  have ebd : bn ≠ dn := by omega
  have g0 : GW ([[], [], [], []] : List (List Wy)) := GW.empty fun row hr => by simp at hr; exact hr
  have hl0 : ([[], [], [], []] : List (List Wy)).length = 4 := rfl
  have z0 : ∀ n : Nat, 1 ≤ n → n < 4 → ([[], [], [], []] : List (List Wy))[n]? = some [] := fun n h1 h2 => by
    have : n = 1 ∨ n = 2 ∨ n = 3 := by omega
    rcases this with rfl | rfl | rfl <;> rfl
  have ga := z0 an (by omega) (by omega)
  have gb := z0 bn (by omega) (by omega)
  have gd := z0 dn (by omega) (by omega)
  generalize hR0 : ([[], [], [], []] : List (List Wy)) = R0 at *
  have an0 : (an : Int) ≠ 0 := by omega
  have bn0 : (bn : Int) ≠ 0 := by omega
  have dn0 : (dn : Int) ≠ 0 := by omega
  have an1 : an ≠ 0 := by omega
  have bn1 : bn ≠ 0 := by omega
  have dn1 : dn ≠ 0 := by omega
  -- one way behind another
  have s1 := gw_add g0 gd (by omega) (.inl rfl) (by simp [dn0, dn1, dn1]) (by simp) (by simp) 0
  have e1 : R0.set dn (([] : List Wy).take 0 ++ [(dn : Int) :: [0]] ++ ([] : List Wy).drop 0) = R0.set dn [[(dn : Int), 0]] := rfl
  rw [e1] at s1
  have s2 := gw_add s1 (r := an) (row := []) (by rw [List.getElem?_set_ne (Ne.symm ead)]; exact ga) (by omega) (.inl rfl) (by simp [an0, an1]) (by simp) (by simp) 0
  have e2 : (R0.set dn [[(dn : Int), 0]]).set an (([] : List Wy).take 0 ++ [(an : Int) :: [0]] ++ ([] : List Wy).drop 0) = (R0.set dn [[(dn : Int), 0]]).set an [[(an : Int), 0]] := rfl
  rw [e2] at s2
  have s3 := gw_add s2 (r := bn) (row := []) (by rw [List.getElem?_set_ne eab, List.getElem?_set_ne (Ne.symm ebd)]; exact gb) (by omega) (.inl rfl) (by simp [bn0, bn1]) (by simp) (by simp) 0
  have e3 : ((R0.set dn [[(dn : Int), 0]]).set an [[(an : Int), 0]]).set bn (([] : List Wy).take 0 ++ [(bn : Int) :: [0]] ++ ([] : List Wy).drop 0) = ((R0.set dn [[(dn : Int), 0]]).set an [[(an : Int), 0]]).set bn [[(bn : Int), 0]] := rfl
  rw [e3] at s3
  have g3 : ∀ n : Nat, (((R0.set dn [[(dn : Int), 0]]).set an [[(an : Int), 0]]).set bn [[(bn : Int), 0]])[n]? = if n = bn then some [[(bn : Int), 0]] else if n = an then some [[(an : Int), 0]] else if n = dn then some [[(dn : Int), 0]] else R0[n]? := fun n => by
    by_cases c1 : n = bn
    · subst c1; rw [if_pos rfl, List.getElem?_set_self (by simp [hl0]; omega)]
    rw [if_neg c1, List.getElem?_set_ne (Ne.symm c1)]
    by_cases c2 : n = an
    · subst c2; rw [if_pos rfl, List.getElem?_set_self (by simp [hl0]; omega)]
    rw [if_neg c2, List.getElem?_set_ne (Ne.symm c2)]
    by_cases c3 : n = dn
    · subst c3; rw [if_pos rfl, List.getElem?_set_self (by rw [hl0]; omega)]
    · rw [if_neg c3, List.getElem?_set_ne (Ne.symm c3)]
  have q3a := g3 an
  rw [if_neg eab, if_pos rfl] at q3a
  have q3b := g3 bn
  rw [if_pos rfl] at q3b
  have q3d := g3 dn
  rw [if_neg (Ne.symm ebd), if_neg (Ne.symm ead), if_pos rfl] at q3d
  have l3 : (((R0.set dn [[(dn : Int), 0]]).set an [[(an : Int), 0]]).set bn [[(bn : Int), 0]]).length = 4 := by simp [hl0]
  generalize hR3 : ((R0.set dn [[(dn : Int), 0]]).set an [[(an : Int), 0]]).set bn [[(bn : Int), 0]] = R3 at *
  have s4 := gw_add s3 (r := an) q3a (by omega) (.inr ⟨bn, _, q3b, by simp⟩) (b := [(bn : Int), 0]) (by simp [nab, an0, an1]) (by simp) (by simp [bn0, bn1]) 0
  have e4 : R3.set an ([[(an : Int), 0]].take 0 ++ [(an : Int) :: [(bn : Int), 0]] ++ [[(an : Int), 0]].drop 0) = R3.set an [[(an : Int), bn, 0], [(an : Int), 0]] := rfl
  rw [e4] at s4
  have q4b : (R3.set an [[(an : Int), bn, 0], [(an : Int), 0]])[bn]? = some [[(bn : Int), 0]] := by rw [List.getElem?_set_ne eab]; exact q3b
  have q4a : (R3.set an [[(an : Int), bn, 0], [(an : Int), 0]])[an]? = some [[(an : Int), bn, 0], [(an : Int), 0]] := List.getElem?_set_self (by omega)
  have s5 := gw_add s4 (r := bn) q4b (by omega) (.inr ⟨an, _, q4a, by simp⟩) (b := [(an : Int), 0]) (by simp [Ne.symm nab, bn0, bn1]) (by simp) (by simp [an0, an1]) 0
  have e5 : (R3.set an [[(an : Int), bn, 0], [(an : Int), 0]]).set bn ([[(bn : Int), 0]].take 0 ++ [(bn : Int) :: [(an : Int), 0]] ++ [[(bn : Int), 0]].drop 0) = (R3.set an [[(an : Int), bn, 0], [(an : Int), 0]]).set bn [[(bn : Int), an, 0], [(bn : Int), 0]] := rfl
  rw [e5] at s5
  generalize hR5 : (R3.set an [[(an : Int), bn, 0], [(an : Int), 0]]).set bn [[(bn : Int), an, 0], [(bn : Int), 0]] = R5 at *
  have q5a : R5[an]? = some [[(an : Int), bn, 0], [(an : Int), 0]] := by rw [← hR5, List.getElem?_set_ne (Ne.symm eab)]; exact q4a
  have q5b : R5[bn]? = some [[(bn : Int), an, 0], [(bn : Int), 0]] := by rw [← hR5, List.getElem?_set_self (by simp; omega)]
  have q5d : R5[dn]? = some [[(dn : Int), 0]] := by rw [← hR5, List.getElem?_set_ne ebd, List.getElem?_set_ne ead]; exact q3d
  have l5 : R5.length = 4 := by rw [← hR5]; simp [l3]
  have s6 := gw_add s5 (r := an) q5a (by omega) (.inr ⟨dn, _, q5d, by simp⟩) (b := [(dn : Int), 0]) (by simp [nad, an0, an1]) (by simp) (by simp [dn0, dn1, nbd, Ne.symm nbd]) i
  have e6 : R5.set an ([[(an : Int), bn, 0], [(an : Int), 0]].take i ++ [(an : Int) :: [(dn : Int), 0]] ++ [[(an : Int), bn, 0], [(an : Int), 0]].drop i) = R5.set an (rowA an bn dn i) := rfl
  rw [e6] at s6
  have q6a : (R5.set an (rowA an bn dn i))[an]? = some (rowA an bn dn i) := List.getElem?_set_self (by omega)
  have q6b : (R5.set an (rowA an bn dn i))[bn]? = some [[(bn : Int), an, 0], [(bn : Int), 0]] := by rw [List.getElem?_set_ne eab]; exact q5b
  have main : GW ((R5.set an (rowA an bn dn i)).set bn rb) := by
    rcases hb with rfl | ⟨j, hj, rfl⟩
    · have : (R5.set an (rowA an bn dn i)).set bn [[(bn : Int), an, 0], [(bn : Int), 0]] = R5.set an (rowA an bn dn i) := by
        apply List.ext_getElem?
        intro n
        by_cases c : bn = n
        · subst c; rw [List.getElem?_set_self (by simp; omega), q6b]
        · rw [List.getElem?_set_ne c]
      rw [this]
      exact s6
    · exact gw_add s6 (r := bn) q6b (by omega) (.inr ⟨an, _, q6a, by
        unfold rowA
        simp⟩) (b := [(an : Int), dn, 0]) (by simp [Ne.symm nab, nbd, bn0, bn1]) (by simp) (by simp) j
  have fin : ((R5.set an (rowA an bn dn i)).set bn rb) = (((R0.set an (rowA an bn dn i)).set bn rb).set dn [[(dn : Int), 0]]) := by
    apply List.ext_getElem?
    intro n
    by_cases c1 : n = dn
    · subst c1
      rw [List.getElem?_set_ne ebd, List.getElem?_set_ne ead, q5d, List.getElem?_set_self (by simp [hl0]; omega)]
    rw [List.getElem?_set_ne (l := (R0.set an (rowA an bn dn i)).set bn rb) (Ne.symm c1)]
    by_cases c2 : n = bn
    · subst c2
      rw [List.getElem?_set_self (by simp; omega), List.getElem?_set_self (by simp [hl0]; omega)]
    rw [List.getElem?_set_ne (Ne.symm c2), List.getElem?_set_ne (Ne.symm c2)]
    by_cases c3 : n = an
    · subst c3
      rw [List.getElem?_set_self (by omega), List.getElem?_set_self (by rw [hl0]; omega)]
    rw [List.getElem?_set_ne (Ne.symm c3), List.getElem?_set_ne (Ne.symm c3), ← hR5, List.getElem?_set_ne (Ne.symm c2), List.getElem?_set_ne (Ne.symm c3), g3, if_neg c2, if_neg c3, if_neg c1]
  rw [← fin]
  refine ⟨main, fun row hr => ?_⟩
  have hlB : rb.length ≤ 6 := by
    rcases hb with rfl | ⟨j, hj, rfl⟩
    · simp
    · unfold rowBx
      rcases take2 [(bn : Int), an, 0] [(bn : Int), 0] hj [(bn : Int), an, dn, 0] with e | e | e <;> (rw [e]; simp)
  have hlA : (rowA an bn dn i).length ≤ 6 := by
    unfold rowA
    rcases take2 [(an : Int), bn, 0] [(an : Int), 0] hi [(an : Int), dn, 0] with e | e | e <;> (rw [e]; simp)
  rw [fin] at hr
  rcases List.mem_or_eq_of_mem_set hr with hr | rfl
  · rcases List.mem_or_eq_of_mem_set hr with hr | rfl
    · rcases List.mem_or_eq_of_mem_set hr with hr | rfl
      · rw [← hR0] at hr; simp at hr; rw [hr]; simp
      · exact hlA
    · exact hlB
  · simp
end Wk

set_option Elab.async false
set_option linter.all false
set_option maxRecDepth 100000
set_option maxHeartbeats 4000000
namespace Wk
open PySem PySem.Spec PyProof.Rows L2 Evl
section
variable {P : Program} {w : World} {K : PySem.W.Frag} {mg : Str → Option Value} {base : Heap} {f : Addr} {fd : FuncData}
theorem q_asgG {te : TE} {g : TG} {tz : TS} {D : Ends} {σ : L2.St} {H : Hp} (h : te σ H fun x H1 => g x σ H1 fun σ2 H2 => tz D σ2 H2) : tSeq (tAsg te g) tz D σ H := h
/-- what a making of lists tells -/
def TellR (p c : Addr) (H : Hp) (Q : VK) (lo hi : Nat) : Prop := ∀ H' v rows, Dr p c H H' → Dq (rS H' p) v (pd rows) → lo ≤ rows.length → rows.length ≤ hi → GW rows → (∀ row ∈ rows, row.length ≤ 6) → Q v H'
/-! _law_eased -/
def spEased : Sp := fun vs H Q _ => ∃ (p c : Addr), vs = [.ref p] ∧ Pol H p c ∧ TellR p c H Q 4 4
abbrev sEased : Stmt := top 41
abbrev nEased : List Str := ["_law_pool_here", "_law_order_here", "_law_lists_here", "_law_row", "_law_place"]
theorem scEased : FnScope nEased ["_law_pool_here"] (defScope sEased) := ⟨rfl, rfl, rfl, by decide +kernel, rfl, by decide +kernel, by decide +kernel⟩
theorem ok_eased (B : Bl mg) (C : Cal P w K mg base "_law_draw" ["_law_pool_here", "_law_many"] 1 spDraw3) (CO : Cal P w K mg base "_law_order" ["_law_pool_here", "_law_size"] 2 spOrd3) (F : FnP K "_law_eased" sEased f fd) : FnOk P w K mg base CX0 3 f fd ["_law_pool_here"] spEased := by
  refine F.ok scEased (fun vs H Q E h => ?_) (fun cdv A outer s H vs Q E hr h => ?_)
  · obtain ⟨p, c, rfl, _⟩ := h
    rfl
  · obtain ⟨p, c, rfl, hP, k⟩ := h
    have r2 : Room 2 _ := hr
    have r1 : Room 1 _ := hr.mono (by decide)
    refine ⟨_, pss_cons (ps_set (i := 1) scEased.nd rfl (Or.inl rfl) (pe_cal CO r2 (by rfl) (pa_cons (pv 0) (pa_cons pe_int pa_nil))))
      (pss_cons (ps_set (i := 2) scEased.nd rfl (Or.inl rfl) (pe_lst (pa_cons (pe_lst pa_nil) (pa_cons (pe_lst pa_nil) (pa_cons (pe_lst pa_nil) (pa_cons (pe_lst pa_nil) pa_nil))))))
      (pss_cons (ps_set (i := 3) scEased.nd rfl (Or.inl rfl) (pe_lst (pa_cons (pe_tup (pa_cons (pe_ix (ix_listK (K := K) rfl) (pv 1) pe_int (fun _ _ => rfl)) (pa_cons (pe_ix (ix_listK (K := K) rfl) (pv 1) pe_int (fun _ _ => rfl)) (pa_cons pe_int pa_nil)))) (pa_cons (pe_tup (pa_cons (pe_ix (ix_listK (K := K) rfl) (pv 1) pe_int (fun _ _ => rfl)) (pa_cons pe_int pa_nil))) pa_nil))))
      (pss_cons (ps_expr (pe_bm PySem.F.plainAttrs_list PySem.F.slot_list_insert PySem.F.type_list_insert mt_insert (pv 3) (pa_cons (pe_op op_mod (pe_cal C r1 (by rfl) (pa_cons (pv 0) (pa_cons pe_int pa_nil))) pe_int) (pa_cons (pe_tup (pa_cons (pe_ix (ix_listK (K := K) rfl) (pv 1) pe_int (fun _ _ => rfl)) (pa_cons (pe_ix (ix_listK (K := K) rfl) (pv 1) pe_int (fun _ _ => rfl)) (pa_cons pe_int pa_nil)))) pa_nil))))
      (pss_cons (ps_asg (pv 3) (pg_sub (pv 2) (pe_ix (ix_listK (K := K) rfl) (pv 1) pe_int (fun _ _ => rfl)) set_list))
      (pss_cons (ps_set (i := 3) scEased.nd rfl (Or.inl rfl) (pe_lst (pa_cons (pe_tup (pa_cons (pe_ix (ix_listK (K := K) rfl) (pv 1) pe_int (fun _ _ => rfl)) (pa_cons (pe_ix (ix_listK (K := K) rfl) (pv 1) pe_int (fun _ _ => rfl)) (pa_cons pe_int pa_nil)))) (pa_cons (pe_tup (pa_cons (pe_ix (ix_listK (K := K) rfl) (pv 1) pe_int (fun _ _ => rfl)) (pa_cons pe_int pa_nil))) pa_nil))))
      (pss_cons (ps_set (i := 4) scEased.nd rfl (Or.inl rfl) (pe_cal C r1 (by rfl) (pa_cons (pv 0) (pa_cons pe_int pa_nil))))
      (pss_cut (ps_if (pt_cmpR op_lt (pv 4) pe_int (nomark _)) (pss_one (ps_expr (pe_bm PySem.F.plainAttrs_list PySem.F.slot_list_insert PySem.F.type_list_insert mt_insert (pv 3) (pa_cons (pv 4) (pa_cons (pe_tup (pa_cons (pe_ix (ix_listK (K := K) rfl) (pv 1) pe_int (fun _ _ => rfl)) (pa_cons (pe_ix (ix_listK (K := K) rfl) (pv 1) pe_int (fun _ _ => rfl)) (pa_cons (pe_ix (ix_listK (K := K) rfl) (pv 1) pe_int (fun _ _ => rfl)) (pa_cons pe_int pa_nil))))) pa_nil))))) pss_nil)
      (pss_cons (ps_asg (pv 3) (pg_sub (pv 2) (pe_ix (ix_listK (K := K) rfl) (pv 1) pe_int (fun _ _ => rfl)) set_list))
      (pss_cons (ps_asg (pe_lst (pa_cons (pe_tup (pa_cons (pe_ix (ix_listK (K := K) rfl) (pv 1) pe_int (fun _ _ => rfl)) (pa_cons pe_int pa_nil))) pa_nil)) (pg_sub (pv 2) (pe_ix (ix_listK (K := K) rfl) (pv 1) pe_int (fun _ _ => rfl)) set_list))
      (pss_one (ps_ret (pe_callTy (call_tupleK (K := K) rfl) (by rfl) B.tuple PyProof.Rows.boot_tuple (pa_cons (pe_lc (own := [("_law_row", 3)]) (g := gName 3) (tt := tYes) rfl scEased.nd (pi_list (pv 2)) (blkOk_by (N := nEased) (sc := defScope sEased) (by decide +kernel))
          (fun _ _ _ _ _ => pg_name (i := 3) scEased.nd rfl (Or.inl rfl)) (fun _ _ _ _ _ => pts_nil) (fun _ _ _ _ _ => pe_callTy (call_tupleK (K := K) rfl) (by rfl) B.tuple PyProof.Rows.boot_tuple (pa_cons (pv 3) pa_nil))) pa_nil))))))))))))), ?_⟩
    refine q_asgW ⟨.ref p, rfl, p, c, 4, rfl, hP, by decide, by decide, fun H1 O os d1 nO nOc hO hol hon hor => ?_⟩
    have ho : Od3 4 os := ⟨hol, hon, hor⟩
    obtain ⟨a, b, d, rfl⟩ : ∃ a b d, os = [a, b, d] := by
      match os, hol with
      | [a, b, d], _ => exact ⟨a, b, d, rfl⟩
    have ra := hor a (by simp)
    have rb := hor b (by simp)
    have rd := hor d (by simp)
    obtain ⟨an, rfl⟩ : ∃ n : Nat, a = (n : Int) := ⟨a.toNat, by omega⟩
    obtain ⟨bn, rfl⟩ : ∃ n : Nat, b = (n : Int) := ⟨b.toNat, by omega⟩
    obtain ⟨dn, rfl⟩ : ∃ n : Nat, d = (n : Int) := ⟨d.toNat, by omega⟩
    change tSeq _ _ _ [some (.ref p), some (.ref O), none, none, none] H1
    refine q_asgW ⟨by show 0 ≤ sizeLine; decide, fun l0 n0 => ⟨by show 0 ≤ sizeLine; decide, fun l1 n1 => ⟨by show 0 ≤ sizeLine; decide, fun l2 n2 => ⟨by show 0 ≤ sizeLine; decide, fun l3 n3 => ⟨by show 4 ≤ sizeLine; decide, fun L nL => ?_⟩⟩⟩⟩⟩
    have d2 := (((d1.ext (Ex.new (o := .lst []) n0)).ext (Ex.new (o := .lst []) n1)).ext (Ex.new (o := .lst []) n2)).ext (Ex.new (o := .lst []) n3)
    have q0 : (upd (upd (upd (upd H1 l0 (.lst [])) l1 (.lst [])) l2 (.lst [])) l3 (.lst [])) l0 = some (.lst []) := (((Ex.new (o := .lst []) n1).trans (Ex.new (o := .lst []) n2)).trans (Ex.new (o := .lst []) n3)) _ _ upd_same
    have q1 : (upd (upd (upd (upd H1 l0 (.lst [])) l1 (.lst [])) l2 (.lst [])) l3 (.lst [])) l1 = some (.lst []) := ((Ex.new (o := .lst []) n2).trans (Ex.new (o := .lst []) n3)) _ _ upd_same
    have q2 : (upd (upd (upd (upd H1 l0 (.lst [])) l1 (.lst [])) l2 (.lst [])) l3 (.lst [])) l2 = some (.lst []) := (Ex.new (o := .lst []) n3) _ _ upd_same
    have q3 : (upd (upd (upd (upd H1 l0 (.lst [])) l1 (.lst [])) l2 (.lst [])) l3 (.lst [])) l3 = some (.lst []) := upd_same
    have e12 : Ex H1 (upd (upd (upd (upd H1 l0 (.lst [])) l1 (.lst [])) l2 (.lst [])) l3 (.lst [])) := (((Ex.new (o := .lst []) n0).trans (Ex.new (o := .lst []) n1)).trans (Ex.new (o := .lst []) n2)).trans (Ex.new (o := .lst []) n3)
    have hl : ∀ {l : Addr}, H1 l = none → (upd (upd (upd (upd H1 l0 (.lst [])) l1 (.lst [])) l2 (.lst [])) l3 (.lst [])) l = some (.lst []) → RowH (rS (upd (upd (upd (upd H1 l0 (.lst [])) l1 (.lst [])) l2 (.lst [])) l3 (.lst [])) p) l [] := fun n h => ⟨[], d1.pl.nr n e12 h, .nil⟩
    have w0 := hl n0 q0
    have w1 := hl (fresh_back (Ex.new n0) n1) q1
    have w2 := hl (fresh_back ((Ex.new n0).trans (Ex.new n1)) n2) q2
    have w3 := hl (fresh_back (((Ex.new n0).trans (Ex.new n1)).trans (Ex.new n2)) n3) q3
    have hO2 := d1.pl.rx e12 _ _ hO
    clear hl e12 q0 q1 q2 q3
    generalize upd (upd (upd (upd H1 l0 (.lst [])) l1 (.lst [])) l2 (.lst [])) l3 (.lst []) = H2 at *
    have eL := Ex.new (o := .lst [V.ref l0, .ref l1, .ref l2, .ref l3]) nL
    have hL3 : rS (upd H2 L (.lst [V.ref l0, .ref l1, .ref l2, .ref l3])) p L = some (.lst [.ref l0, .ref l1, .ref l2, .ref l3]) := d2.pl.nr nL eL upd_same
    have nLc := (d2.pl.nw nL).2.2
    have d23 := Dr.of_ex d2.pl eL
    change tSeq _ _ _ [some (.ref p), some (.ref O), some (.ref L), none, none] _
    generalize upd H2 L (.lst [V.ref l0, .ref l1, .ref l2, .ref l3]) = H3 at *
    -- what the order tells
    have ixo : ∀ {σ : L2.St} {H' H'' : Hp} {j : Nat} {y : Int}, σ[1]? = some (some (.ref O)) → rS H' p O = some (.lst ([(an : Int), bn, dn].map V.int)) → Ex H' H'' → [(an : Int), bn, dn][j]? = some y → Ev (tOp (rIxL K) (tVar 1) (tC (.int (j : Int)))) σ H'' (.int y) := fun h1 h2 e hj => ev_op (ev_var h1) (ev_is ev_c rfl) (rv_ixL (sq_of (e _ _ (rS_sub _ _ h2))) (atI_nat (by rw [List.getElem?_map, hj]; rfl)))
    have dint : ∀ {te : TE} {σ : L2.St} {H' : Hp} {y : Int}, Ev te σ H' (.int y) → EvD te σ H' (.int y) := fun h => d_ev h rfl fun H1 e => .int _
    have d0 : ∀ {σ : L2.St} {H' : Hp}, EvD (tC (.int 0)) σ H' (.int 0) := fun {σ H'} => d_ev (ev_c (v := .int 0)) rfl fun H1 e => .int _
    have hO3 := d23.ex _ _ hO2
    refine q_asgW ((d_lst (d_cons (d_tup (d_cons (dint (ixo (j := 0) (y := (an : Int)) rfl hO3 (Ex.refl _) rfl)) (d_cons (dint (ixo (j := 1) (y := (bn : Int)) rfl hO3 (Ex.refl _) rfl)) (d_cons d0 d_nil))) (by simp)) (d_cons (d_tup (d_cons (dint (ixo (j := 0) (y := (an : Int)) rfl hO3 (Ex.refl _) rfl)) (d_cons d0 d_nil)) (by simp)) d_nil)) (by simp)) H3 (Ex.refl _) _ fun r us H4 nr e4 hr hus => ?_)
    have hus4 : DqA H4 us ([[(an : Int), bn, 0], [(an : Int), 0]].map wd) := hus.mono ((off_in _ _).trans fr_sub)
    have hul := hus4.length
    rw [List.length_map] at hul
    change tSeq _ _ _ [some (.ref p), some (.ref O), some (.ref L), some (.ref r), none] H4
    have d34 := Dr.of_ex d23.pl e4
    have hr4 := d23.pl.nr nr e4 hr
    have hu4 := dqa_kt d34.pl.kt (noLA_wds _) hus4
    refine ⟨.ref r, rfl, .inl ⟨rfl, _, sq_of hr⟩, .ref p, rfl, p, c, 5, rfl, d34.pl, by decide, by decide, fun H5 z d45 hz0 hz1 => ⟨z, 3, rfl, rfl, (show (0 : Int) < 3 by decide), ?_⟩⟩
    have d35 := d34.trans d45
    have hO5 := d35.ex _ _ hO3
    refine (eu_tup (ea_cons (ixo (j := 0) (y := (an : Int)) rfl hO5 (Ex.refl _) rfl) (ea_cons (ixo (j := 2) (y := (dn : Int)) rfl hO5 (Ex.refl _) rfl) (ea_cons (ev_c (v := .int 0)) ea_nil))) (by simp)) H5 (Ex.refl _) _ fun T H6 nT e6 hT => ?_
    have d36 := d35.ext e6
    have hr6 := d35.pl.rx e6 _ _ (d45.ex _ _ hr4)
    have hu6 := (hu4.mono d45.ex).mono (d35.pl.rx e6)
    obtain ⟨i, hi, hi2⟩ : ∃ i : Nat, z % 3 = (i : Int) ∧ i ≤ 2 := ⟨(z % 3).toNat, by omega, by omega⟩
    refine ⟨r, us, z % 3, .ref T, rfl, rfl, rS_sub _ _ hr6, by rw [sizeLine_eq, hul]; simp, by omega, by omega, ?_⟩
    rw [hi, Int.toNat_natCast]
    have nrc := (d23.pl.nw nr).2.2
    have m7 := d36.mutR (o := .lst (us.take i ++ [V.ref T] ++ us.drop i)) hr6 nr nrc
    have hT6 : rS H6 p T = some (.tup [.int (an : Int), .int (dn : Int), .int 0]) := d36.pl.kt.t _ _ hT
    have w7 : RowH (rS (upd H6 r (.lst (us.take i ++ [V.ref T] ++ us.drop i))) p) r (rowA an bn dn i) := by
      rw [m7.2]
      refine ⟨_, upd_same, dqa_kt (kt_updL hr6) (noLA_wds _) ?_⟩
      unfold rowA
      rw [List.map_append, List.map_append, List.map_take, List.map_drop]
      exact ((hu6.take _).append (.cons (.tup hT6 (DqA.ints [(an : Int), dn, 0])) .nil)).append (hu6.drop _)
    have d37 := m7.1
    dsimp only
    generalize upd H6 r (.lst (us.take i ++ [V.ref T] ++ us.drop i)) = H7 at *
    have hL7 := d37.ex _ _ hL3
    have hO7 := d37.ex _ _ hO3
    have nrL : r ≠ L := fun z => by rw [z, rS_sub _ _ hL3] at nr; cases nr
    refine q_setL (l := L) (xs := [.ref l0, .ref l1, .ref l2, .ref l3]) (j := an) (rS_sub _ _ hL7) (ev_var (i := 3) rfl) (ev_var (i := 2) rfl) (ixo (j := 0) (y := (an : Int)) rfl hO7 (Ex.refl _) rfl) (by show an < 4; omega) fun H8 e8 => ?_
    have d28 := (d23.trans d37).ext e8
    have hL8 := d37.pl.rx e8 _ _ hL7
    have m9 := d28.mutR (o := .lst ([V.ref l0, .ref l1, .ref l2, .ref l3].set an (.ref r))) hL8 nL nLc
    have w9 := (w7.mono (d37.pl.rx e8)).upd (l' := [V.ref l0, .ref l1, .ref l2, .ref l3].set an (.ref r)) hL8 nrL
    rw [← m9.2] at w9
    have hL9 : rS (upd H8 L (.lst ([V.ref l0, .ref l1, .ref l2, .ref l3].set an (.ref r)))) p L = some (.lst ([V.ref l0, .ref l1, .ref l2, .ref l3].set an (.ref r))) := by rw [m9.2]; exact upd_same
    have d29 := m9.1
    generalize upd H8 L (.lst ([V.ref l0, .ref l1, .ref l2, .ref l3].set an (.ref r))) = H9 at *
    clear d37 d36 d35 d34 d45 hu6 hu4 hus4 hus hr4 hr6 hr hT hT6 m7 m9 w7 hL8 hL7 hO7 hO5
    have hO9 := d29.ex _ _ hO2
    -- the second row
    refine q_asgW ((d_lst (d_cons (d_tup (d_cons (dint (ixo (j := 1) (y := (bn : Int)) rfl hO9 (Ex.refl _) rfl)) (d_cons (dint (ixo (j := 0) (y := (an : Int)) rfl hO9 (Ex.refl _) rfl)) (d_cons d0 d_nil))) (by simp)) (d_cons (d_tup (d_cons (dint (ixo (j := 1) (y := (bn : Int)) rfl hO9 (Ex.refl _) rfl)) (d_cons d0 d_nil)) (by simp)) d_nil)) (by simp)) H9 (Ex.refl _) _ fun rb us H10 nrb e10 hrb hus => ?_)
    have hus10 : DqA H10 us ([[(bn : Int), an, 0], [(bn : Int), 0]].map wd) := hus.mono ((off_in _ _).trans fr_sub)
    have hul := hus10.length
    rw [List.length_map] at hul
    change tSeq _ _ _ [some (.ref p), some (.ref O), some (.ref L), some (.ref rb), none] H10
    have da := Dr.of_ex d29.pl e10
    have hr10 := d29.pl.nr nrb e10 hrb
    have hu10 := dqa_kt da.pl.kt (noLA_wds _) hus10
    refine q_asgW ⟨.ref p, rfl, p, c, 6, rfl, da.pl, by decide, by decide, fun H11 pl d11 hp0 hp1 => ?_⟩
    change tCut _ _ _ [some (.ref p), some (.ref O), some (.ref L), some (.ref rb), some (.int pl)] H11
    have db := da.trans d11
    have hr11 := d11.ex _ _ hr10
    have hu11 := hu10.mono d11.ex
    have hO11 := db.ex _ _ hO9
    have nrbc := (d29.pl.nw nrb).2.2
    refine ⟨fun σ' H' => σ' = [some (.ref p), some (.ref O), some (.ref L), some (.ref rb), some (.int pl)] ∧ Dr p c H9 H' ∧ ∃ rowb, (rowb = [[(bn : Int), an, 0], [(bn : Int), 0]] ∨ ∃ j, j ≤ 2 ∧ rowb = rowBx an bn dn j) ∧ RowH (rS H' p) rb rowb, ?_, ?_⟩
    · refine s_when (b := decide (pl < 3)) (et_test (ev_op (ev_var (i := 4) rfl) (ev_c (v := .int 3)) rv_I0)) (fun hb12 H12 e12 => ?_) (fun hb12 H12 e12 => ⟨rfl, db.ext e12, _, .inl rfl, us, db.pl.rx e12 _ _ hr11, hu11.mono (db.pl.rx e12)⟩)
      have hpl3 : pl < 3 := of_decide_eq_true hb12
      have hr12 := db.pl.rx e12 _ _ hr11
      refine ⟨.ref rb, rfl, .inl ⟨rfl, _, sq_of (rS_sub _ _ hr12)⟩, .int pl, rfl, ?_⟩
      have hO12 := db.pl.rx e12 _ _ hO11
      refine (eu_tup (ea_cons (ixo (j := 1) (y := (bn : Int)) rfl hO12 (Ex.refl _) rfl) (ea_cons (ixo (j := 0) (y := (an : Int)) rfl hO12 (Ex.refl _) rfl) (ea_cons (ixo (j := 2) (y := (dn : Int)) rfl hO12 (Ex.refl _) rfl) (ea_cons (ev_c (v := .int 0)) ea_nil)))) (by simp)) H12 (Ex.refl _) _ fun T H13 nT e13 hT => ?_
      have d13 := (db.ext e12).ext e13
      have hr13 := (db.ext e12).pl.rx e13 _ _ hr12
      have hu13 := (hu11.mono (db.pl.rx e12)).mono ((db.ext e12).pl.rx e13)
      obtain ⟨j, rfl⟩ : ∃ j : Nat, pl = (j : Int) := ⟨pl.toNat, by omega⟩
      refine ⟨rb, us, (j : Int), .ref T, rfl, rfl, rS_sub _ _ hr13, by rw [sizeLine_eq, hul]; simp, by omega, by omega, ?_⟩
      rw [Int.toNat_natCast]
      have m14 := d13.mutR (o := .lst (us.take j ++ [V.ref T] ++ us.drop j)) hr13 nrb nrbc
      have hT13 : rS H13 p T = some (.tup [.int (bn : Int), .int (an : Int), .int (dn : Int), .int 0]) := d13.pl.kt.t _ _ hT
      refine ⟨rfl, m14.1, rowBx an bn dn j, .inr ⟨j, by omega, rfl⟩, ?_⟩
      rw [m14.2]
      refine ⟨_, upd_same, dqa_kt (kt_updL hr13) (noLA_wds _) ?_⟩
      unfold rowBx
      rw [List.map_append, List.map_append, List.map_take, List.map_drop]
      exact ((hu13.take _).append (.cons (.tup hT13 (DqA.ints [(bn : Int), an, dn, 0])) .nil)).append (hu13.drop _)
    rintro σ' H15 ⟨rfl, d15, rowb, hrowb, w15⟩
    have hL15 := d15.ex _ _ hL9
    have hO15 := d15.ex _ _ hO9
    have nrbL : rb ≠ L := fun z => by rw [z, rS_sub _ _ hL9] at nrb; cases nrb
    have x15 := w9.mono d15.ex
    refine q_setL (l := L) (xs := [V.ref l0, .ref l1, .ref l2, .ref l3].set an (.ref r)) (j := bn) (rS_sub _ _ hL15) (ev_var (i := 3) rfl) (ev_var (i := 2) rfl) (ixo (j := 1) (y := (bn : Int)) rfl hO15 (Ex.refl _) rfl) (by rw [List.length_set]; show bn < 4; omega) fun H16 e16 => ?_
    have d216 := (d29.trans d15).ext e16
    have hL16 := d15.pl.rx e16 _ _ hL15
    have m17 := d216.mutR (o := .lst (([V.ref l0, .ref l1, .ref l2, .ref l3].set an (.ref r)).set bn (.ref rb))) hL16 nL nLc
    have y17 := (x15.mono (d15.pl.rx e16)).upd (l' := ([V.ref l0, .ref l1, .ref l2, .ref l3].set an (.ref r)).set bn (.ref rb)) hL16 nrL
    have z17 := (w15.mono (d15.pl.rx e16)).upd (l' := ([V.ref l0, .ref l1, .ref l2, .ref l3].set an (.ref r)).set bn (.ref rb)) hL16 nrbL
    rw [← m17.2] at y17 z17
    have hL17 : rS (upd H16 L (.lst (([V.ref l0, .ref l1, .ref l2, .ref l3].set an (.ref r)).set bn (.ref rb)))) p L = some (.lst (([V.ref l0, .ref l1, .ref l2, .ref l3].set an (.ref r)).set bn (.ref rb))) := by rw [m17.2]; exact upd_same
    have d217 := m17.1
    generalize upd H16 L (.lst (([V.ref l0, .ref l1, .ref l2, .ref l3].set an (.ref r)).set bn (.ref rb))) = H17 at *
    have hO17 := d217.ex _ _ hO2
    -- the third row
    refine q_asgG ((d_lst (d_cons (d_tup (d_cons (dint (ixo (j := 2) (y := (dn : Int)) rfl hO17 (Ex.refl _) rfl)) (d_cons d0 d_nil)) (by simp)) d_nil) (by simp)) H17 (Ex.refl _) _ fun rd' us H18 nrd e18 hrd hus => ?_)
    have hus18 : DqA H18 us ([[(dn : Int), 0]].map wd) := hus.mono ((off_in _ _).trans fr_sub)
    have dc := Dr.of_ex d217.pl e18
    have hr18 := d217.pl.nr nrd e18 hrd
    have hu18 := dqa_kt dc.pl.kt (noLA_wds _) hus18
    have hL18 := dc.ex _ _ hL17
    have hO18 := dc.ex _ _ hO17
    have nrdL : rd' ≠ L := fun z => by rw [z, rS_sub _ _ hL17] at nrd; cases nrd
    refine ⟨.ref L, rfl, .ref O, rfl, O, [V.int (an : Int), .int (bn : Int), .int (dn : Int)], (2 : Int), .int (dn : Int), rfl, rfl, sq_of (rS_sub _ _ hO18), atI_nat (j := 2) rfl, L, ([V.ref l0, .ref l1, .ref l2, .ref l3].set an (.ref r)).set bn (.ref rb), (dn : Int), dn, rfl, rfl, rS_sub _ _ hL18, ixN_nat (by rw [List.length_set, List.length_set]; show dn < 4; omega), ?_⟩
    have d218 := d217.trans dc
    have m19 := d218.mutR (o := .lst ((([V.ref l0, .ref l1, .ref l2, .ref l3].set an (.ref r)).set bn (.ref rb)).set dn (.ref rd'))) hL18 nL nLc
    have y19 := (y17.mono dc.ex).upd (l' := (([V.ref l0, .ref l1, .ref l2, .ref l3].set an (.ref r)).set bn (.ref rb)).set dn (.ref rd')) hL18 nrL
    have z19 := (z17.mono dc.ex).upd (l' := (([V.ref l0, .ref l1, .ref l2, .ref l3].set an (.ref r)).set bn (.ref rb)).set dn (.ref rd')) hL18 nrbL
    have v19 := (show RowH (rS H18 p) rd' [[(dn : Int), 0]] from ⟨us, hr18, hu18⟩).upd (l' := (([V.ref l0, .ref l1, .ref l2, .ref l3].set an (.ref r)).set bn (.ref rb)).set dn (.ref rd')) hL18 nrdL
    rw [← m19.2] at y19 z19 v19
    have d219 := m19.1
    have es : (([V.ref l0, .ref l1, .ref l2, .ref l3].set an (.ref r)).set bn (.ref rb)).set dn (.ref rd') = ((([l0, l1, l2, l3].set an r).set bn rb).set dn rd').map V.ref := by rw [List.map_set, List.map_set, List.map_set]; rfl
    have hL19 : (upd H18 L (.lst ((([V.ref l0, .ref l1, .ref l2, .ref l3].set an (.ref r)).set bn (.ref rb)).set dn (.ref rd')))) L = some (.lst (((([l0, l1, l2, l3].set an r).set bn rb).set dn rd').map V.ref)) := by rw [upd_same, es]
    dsimp only
    generalize upd H18 L (.lst ((([V.ref l0, .ref l1, .ref l2, .ref l3].set an (.ref r)).set bn (.ref rb)).set dn (.ref rd'))) = H19 at *
    obtain ⟨hGd, h6d⟩ := eased_ok ho hi2 hrowb
    simp only [Int.toNat_natCast] at hGd h6d
    have base4 : ∀ (j : Nat) r row, [l0, l1, l2, l3][j]? = some r → ([[], [], [], []] : List (List Wy))[j]? = some row → RowH (rS H19 p) r row := fun j r row h1 h2 => by
      match j, h1, h2 with
      | 0, h1, h2 => cases h1; cases h2; exact w0.mono d219.ex
      | 1, h1, h2 => cases h1; cases h2; exact w1.mono d219.ex
      | 2, h1, h2 => cases h1; cases h2; exact w2.mono d219.ex
      | 3, h1, h2 => cases h1; cases h2; exact w3.mono d219.ex
    have all := rows_set (by simp) (rows_set (by simp) (rows_set (P := RowH (rS H19 p)) (rs := [l0, l1, l2, l3]) (rows := [[], [], [], []]) rfl base4 an y19) bn z19) dn v19
    refine ret_rows (K := K) (rs := (([l0, l1, l2, l3].set an r).set bn rb).set dn rd') (rows := ((([[], [], [], []] : List (List Wy)).set an (rowA an bn dn i)).set bn rowb).set dn [[(dn : Int), 0]]) rfl (fun x => rfl) (fun x => rfl) hL19 (by simp) (by simp) (fun j r' row h1 h2 => ?_) fun H20 T e20 hT => ?_
    · obtain ⟨vs, h3, h4⟩ := all j r' row h1 h2
      exact ⟨vs, rS_sub _ _ h3, h4.mono rS_sub⟩
    · have d20 := (d2.trans d219).ext e20
      exact k H20 _ _ d20 (dq_kt d20.pl.kt (noLA_rds _) hT) (by simp) (by simp) hGd h6d
end
end Wk

set_option Elab.async false
set_option linter.all false
set_option maxRecDepth 100000
set_option maxHeartbeats 4000000
namespace Wk
open PySem PySem.Spec PyProof.Rows L2 Evl
theorem flat_repV (n : Nat) (x : V) : (List.replicate n [x]).flatten = List.replicate n x := by
  induction n with
  | zero => rfl
  | succ n ih => rw [List.replicate_succ, List.flatten_cons, ih]; rfl
/-- rows of one way at most, one router behind another -/
structure For3 (n : Nat) (os : List Int) (i : Nat) (rows : List (List Wy)) (ws : List Wy) : Prop where
  len : rows.length = n
  g : GW rows
  l6 : ∀ row ∈ rows, row.length ≤ 6
  w : WsOk rows ws
  wn : ws ≠ []
  wl : ws.length ≤ 1 + i
  us : ∀ b ∈ ws, ∀ x ∈ b, x = 0 ∨ ∃ k, k < i ∧ os[k]? = some x
  em : ∀ (k : Nat) (x : Int), i ≤ k → os[k]? = some x → rows[x.toNat]? = some []
theorem for3_start {n : Nat} {os : List Int} (ho : Od3 n os) : For3 n os 0 (List.replicate n []) [[0]] :=
  ⟨List.length_replicate .., GW.empty fun row hr => List.eq_of_mem_replicate hr, fun row hr => by rw [List.eq_of_mem_replicate hr]; simp, fun b hb => .inl (List.mem_singleton.mp hb), by simp, by simp, fun b hb x hx => .inl (by rw [List.mem_singleton.mp hb] at hx; exact List.mem_singleton.mp hx), fun k x _ hx => by
    have := ho.rg x (List.mem_of_getElem? hx)
    rw [List.getElem?_replicate, if_pos (by omega)]⟩
theorem for3_skip {n : Nat} {os : List Int} {i : Nat} {rows : List (List Wy)} {ws : List Wy} (h : For3 n os i rows ws) : For3 n os (i + 1) rows ws :=
  ⟨h.len, h.g, h.l6, h.w, h.wn, by have := h.wl; omega, fun b hb x hx => (h.us b hb x hx).imp id fun ⟨k, h1, h2⟩ => ⟨k, by omega, h2⟩, fun k x hk hx => h.em k x (by omega) hx⟩
theorem for3_add {n : Nat} {os : List Int} {i : Nat} {rows : List (List Wy)} {ws : List Wy} (ho : Od3 n os) (h2 : 2 ≤ n) (h8 : n ≤ 8) (h : For3 n os i rows ws) {r : Nat} (hr : os[i]? = some (r : Int)) {b : Wy} (hb : b ∈ ws) : For3 n os (i + 1) (rows.set r [(r : Int) :: b]) (ws ++ [(r : Int) :: b]) := by
  have rr := ho.rg _ (List.mem_of_getElem? hr)
  have hrl : r < rows.length := by rw [h.len]; omega
  have he := h.em i _ (Nat.le_refl _) hr
  rw [Int.toNat_natCast] at he
  have hn : (r : Int) ∉ b := fun z => by
    rcases h.us b hb _ z with q | ⟨k, k1, k2⟩
    · omega
    · have := ho.ne hr k2
      omega
  obtain ⟨bnd, bne, _, brg⟩ := wsOk_ok h.g (by rw [h.len]; exact h2) h.w hb
  have hg := gw_add h.g he (by omega) (h.w b hb) hn (way_short (n := rows.length) (by rw [h.len]; exact h8) hrl bnd brg hn) (by simp) 0
  have e1 : rows.set r (([] : List Wy).take 0 ++ [(r : Int) :: b] ++ ([] : List Wy).drop 0) = rows.set r [(r : Int) :: b] := rfl
  rw [e1] at hg
  refine ⟨by rw [List.length_set]; exact h.len, hg, fun row hm => ?_, fun x hx => ?_, by simp, by have := h.wl; simp; omega, fun x hx y hy => ?_, fun k x hk hx => ?_⟩
  · rcases List.mem_or_eq_of_mem_set hm with z | z
    · exact h.l6 row z
    · rw [z]; simp
  · rcases List.mem_append.mp hx with z | z
    · rcases h.w x z with q | ⟨j, row', h1, h3⟩
      · exact .inl q
      · have : r ≠ j := fun e => by rw [← e, he] at h1; cases h1; cases h3
        exact .inr ⟨j, row', by rw [List.getElem?_set_ne this]; exact h1, h3⟩
    · rw [List.mem_singleton.mp z]
      exact .inr ⟨r, _, List.getElem?_set_self hrl, by simp⟩
  · rcases List.mem_append.mp hx with z | z
    · exact (h.us x z y hy).imp id fun ⟨k, h1, h2⟩ => ⟨k, by omega, h2⟩
    · rw [List.mem_singleton.mp z] at hy
      rcases List.mem_cons.mp hy with q | q
      · exact .inr ⟨i, by omega, by rw [q]; exact hr⟩
      · exact (h.us b hb y q).imp id fun ⟨k, h1, h2⟩ => ⟨k, by omega, h2⟩
  · have rx := ho.rg x (List.mem_of_getElem? hx)
    have : r ≠ x.toNat := fun e => by
      have : k = i := ho.ne hx (by rw [hr]; congr 1; omega)
      omega
    rw [List.getElem?_set_ne this]
    exact h.em k x (by omega) hx
section
variable {P : Program} {w : World} {K : PySem.W.Frag} {mg : Str → Option Value} {base : Heap} {f : Addr} {fd : FuncData}
/-! _law_wishes -/
def spWsh : Sp := fun vs H Q _ => ∃ (p c : Addr), vs = [.ref p] ∧ Pol H p c ∧ TellR p c H Q 2 8
abbrev sWsh : Stmt := top 42
abbrev nWsh : List Str := ["_law_pool_here", "_law_kind"]
theorem scWsh : FnScope nWsh ["_law_pool_here"] (defScope sWsh) := ⟨rfl, rfl, rfl, by decide +kernel, rfl, by decide +kernel, by decide +kernel⟩
theorem ok_wsh (C : Cal P w K mg base "_law_draw" ["_law_pool_here", "_law_many"] 1 spDraw3) (CE : Cal P w K mg base "_law_eased" ["_law_pool_here"] 3 spEased) (CL : Cal P w K mg base "_law_lists" ["_law_pool_here", "_law_size", "_law_ring", "_law_more"] 3 spLists3) (F : FnP K "_law_wishes" sWsh f fd) : FnOk P w K mg base CX0 4 f fd ["_law_pool_here"] spWsh := by
  refine F.ok scWsh (fun vs H Q E h => ?_) (fun cdv A outer s H vs Q E hr h => ?_)
  · obtain ⟨p, c, rfl, _⟩ := h
    rfl
  · obtain ⟨p, c, rfl, hP, k⟩ := h
    have r3 : Room 3 _ := hr
    have r1 : Room 1 _ := hr.mono (by decide)
    refine ⟨_, pss_cons (ps_set (i := 1) scWsh.nd rfl (Or.inl rfl) (pe_cal C r1 (by rfl) (pa_cons (pv 0) (pa_cons pe_int pa_nil))))
      (pss_cons (ps_if (pt_cmpR op_eq (pv 1) pe_int (nomark _)) (pss_one (ps_ret (pe_cal CE r3 (by rfl) (pa_cons (pv 0) pa_nil)))) pss_nil)
      (pss_cons (ps_if (pt_cmpR op_eq (pv 1) pe_int (nomark _)) (pss_one (ps_ret (pe_cal CL r3 (by rfl) (pa_cons (pv 0) (pa_cons pe_int (pa_cons pe_int (pa_cons (pe_cal C r1 (by rfl) (pa_cons (pv 0) (pa_cons pe_int pa_nil))) pa_nil))))))) pss_nil)
      (pss_cons (ps_if (pt_cmpR op_eq (pv 1) pe_int (nomark _)) (pss_one (ps_ret (pe_cal CL r3 (by rfl) (pa_cons (pv 0) (pa_cons pe_int (pa_cons pe_int (pa_cons (pe_cal C r1 (by rfl) (pa_cons (pv 0) (pa_cons pe_int pa_nil))) pa_nil))))))) pss_nil)
      (pss_cons (ps_if (pt_cmpR op_eq (pv 1) pe_int (nomark _)) (pss_one (ps_ret (pe_cal CL r3 (by rfl) (pa_cons (pv 0) (pa_cons pe_int (pa_cons pe_int (pa_cons (pe_op op_add pe_int (pe_cal C r1 (by rfl) (pa_cons (pv 0) (pa_cons pe_int pa_nil)))) pa_nil))))))) pss_nil)
      (pss_one (ps_ret (pe_cal CL r3 (by rfl) (pa_cons (pv 0) (pa_cons (pe_op op_add pe_int (pe_cal C r1 (by rfl) (pa_cons (pv 0) (pa_cons pe_int pa_nil)))) (pa_cons pe_int (pa_cons (pe_cal C r1 (by rfl) (pa_cons (pv 0) (pa_cons pe_int pa_nil))) pa_nil))))))))))), ?_⟩
    refine q_asgW ⟨.ref p, rfl, p, c, 6, rfl, hP, by decide, by decide, fun H1 kd d1 hk0 hk1 => ?_⟩
    change tSeq _ _ _ [some (.ref p), some (.int kd)] H1
    have tst : ∀ {H' : Hp} (m : Int), EvT (tTest (tOp rEq (tVar 1) (tC (.int m)))) [some (.ref p), some (.int kd)] H' (decide (V.int kd = V.int m)) := fun m => et_test (ev_op (ev_var (i := 1) rfl) ev_c (rv_eq rfl))
    refine q_when (tst 3) (fun hb H2 e2 => ?_) (fun hb H2 e2 => ?_)
    · have d2 := d1.ext e2
      exact ret_any ⟨.ref p, rfl, p, c, rfl, d2.pl, fun H3 v rows d3 hv h4 h4' hG h6 => k H3 v rows (d2.trans d3) hv (by omega) (by omega) hG h6⟩
    have d2 := d1.ext e2
    have fin : ∀ {H3 H4 : Hp} {v : V} {rows : List (List Wy)} {n : Nat}, Dr p c H H3 → 2 ≤ n → n ≤ 8 → Dr p c H3 H4 → Dq (rS H4 p) v (pd rows) → rows.length = n → GW rows → (∀ row ∈ rows, row.length ≤ 6) → Q v H4 := fun d n2 n8 d' hv hl hG h6 => k _ _ _ (d.trans d') hv (by omega) (by omega) hG h6
    refine q_when (tst 0) (fun hb H3 e3 => ?_) (fun hb H3 e3 => ?_)
    · have d3 := d2.ext e3
      refine ret_any ⟨.ref p, rfl, .ref p, rfl, p, c, 3, rfl, d3.pl, by decide, by decide, fun H4 z d4 hz0 hz1 => ?_⟩
      obtain ⟨m, rfl⟩ : ∃ m : Nat, z = (m : Int) := ⟨z.toNat, by omega⟩
      exact ⟨p, c, 3, 2, m, rfl, d4.pl, by decide, by decide, .inr (by decide), by decide, by omega, fun H5 v rows d5 => fin (d3.trans d4) (by decide) (by decide) d5⟩
    have d3 := d2.ext e3
    refine q_when (tst 1) (fun hb H4 e4 => ?_) (fun hb H4 e4 => ?_)
    · have d4 := d3.ext e4
      refine ret_any ⟨.ref p, rfl, .ref p, rfl, p, c, 2, rfl, d4.pl, by decide, by decide, fun H5 z d5 hz0 hz1 => ?_⟩
      obtain ⟨m, rfl⟩ : ∃ m : Nat, z = (m : Int) := ⟨z.toNat, by omega⟩
      exact ⟨p, c, 4, 3, m, rfl, d5.pl, by decide, by decide, .inr (by decide), by decide, by omega, fun H6 v rows d6 => fin (d4.trans d5) (by decide) (by decide) d6⟩
    have d4 := d3.ext e4
    refine q_when (tst 2) (fun hb H5 e5 => ?_) (fun hb H5 e5 => ?_)
    · have d5 := d4.ext e5
      refine ret_any ⟨.ref p, rfl, .ref p, rfl, p, c, 2, rfl, d5.pl, by decide, by decide, fun H6 z d6 hz0 hz1 => ⟨1, z, rfl, rfl, ?_⟩⟩
      obtain ⟨m, hm⟩ : ∃ m : Nat, 1 + z = (m : Int) := ⟨(1 + z).toNat, by omega⟩
      exact ⟨p, c, 4, 2, m, (by rw [← hm]; rfl), d6.pl, by decide, by decide, .inr (by decide), by decide, by omega, fun H7 v rows d7 => fin (d5.trans d6) (by decide) (by decide) d7⟩
    have d5 := d4.ext e5
    refine ret_any ⟨.ref p, rfl, .ref p, rfl, p, c, 2, rfl, d5.pl, by decide, by decide, fun H6 z d6 hz0 hz1 => ⟨3, z, rfl, rfl, .ref p, rfl, p, c, 8, rfl, d6.pl, by decide, by decide, fun H7 y d7 hy0 hy1 => ?_⟩⟩
    obtain ⟨n, hn⟩ : ∃ n : Nat, 3 + z = (n : Int) := ⟨(3 + z).toNat, by omega⟩
    obtain ⟨m, rfl⟩ : ∃ m : Nat, y = (m : Int) := ⟨y.toNat, by omega⟩
    exact ⟨p, c, n, 0, m, (by rw [← hn]; rfl), d7.pl, by omega, by omega, .inl rfl, by omega, by omega, fun H8 v rows d8 => fin ((d5.trans d6).trans d7) (by omega) (by omega) d8⟩
end
end Wk

set_option Elab.async false
set_option linter.all false
set_option maxRecDepth 100000
set_option maxHeartbeats 4000000
namespace Wk
open PySem PySem.Spec PyProof.Rows L2 Evl
/-- rows as tuples in the list at L -/
def LsH (R : Hp) (L : Addr) (rows : List (List Wy)) : Prop := ∃ vs, R L = some (.lst vs) ∧ DqA R vs (rows.map rd)
theorem LsH.mono {R R' : Hp} {L : Addr} {rows : List (List Wy)} (e : Ex R R') (h : LsH R L rows) : LsH R' L rows := by
  obtain ⟨vs, h1, h2⟩ := h
  exact ⟨vs, e _ _ h1, h2.mono e⟩
theorem LsH.other {R : Hp} {L W : Addr} {rows : List (List Wy)} {l l' : List V} (h : LsH R L rows) (hW : R W = some (.lst l)) (n : L ≠ W) : LsH (L2.upd R W (.lst l')) L rows := by
  obtain ⟨vs, h1, h2⟩ := h
  exact ⟨vs, by rw [upd_ne n]; exact h1, dqa_kt (kt_updL hW) (noLA_rds _) h2⟩
/-- ways as tuples in the list at W: RowH; a thing of it is written -/
theorem RowH.setAt {R : Hp} {W : Addr} {ws : List Wy} {vs : List V} {v : V} {w : Wy} {i : Nat} (hW : R W = some (.lst vs)) (h : DqA R vs (ws.map wd)) (hv : Dq R v (wd w)) : RowH (L2.upd R W (.lst (vs.set i v))) W (ws.set i w) := by
  refine ⟨_, upd_same, dqa_kt (kt_updL hW) (noLA_wds _) ?_⟩
  rw [List.map_set]
  exact DqA.set hv i h
theorem LsH.setAt {R : Hp} {L : Addr} {rows : List (List Wy)} {vs : List V} {v : V} {row : List Wy} {i : Nat} (hL : R L = some (.lst vs)) (h : DqA R vs (rows.map rd)) (hv : Dq R v (rd row)) : LsH (L2.upd R L (.lst (vs.set i v))) L (rows.set i row) := by
  refine ⟨_, upd_same, dqa_kt (kt_updL hL) (noLA_rds _) ?_⟩
  rw [List.map_set]
  exact DqA.set hv i h
section
variable {P : Program} {w : World} {K : PySem.W.Frag} {mg : Str → Option Value} {base : Heap} {f : Addr} {fd : FuncData}
/-! _law_forest -/
def spFor : Sp := fun vs H Q _ => ∃ (p c : Addr), vs = [.ref p] ∧ Pol H p c ∧ TellR p c H Q 2 8
abbrev sFor : Stmt := top 43
abbrev nFor : List Str := ["_law_pool_here", "_law_size", "_law_lists_here", "_law_ways", "_law_router", "_law_way"]
theorem scFor : FnScope nFor ["_law_pool_here"] (defScope sFor) := ⟨rfl, rfl, rfl, by decide +kernel, rfl, by decide +kernel, by decide +kernel⟩
theorem ok_for (B : Bl mg) (C : Cal P w K mg base "_law_draw" ["_law_pool_here", "_law_many"] 1 spDraw3) (CO : Cal P w K mg base "_law_order" ["_law_pool_here", "_law_size"] 2 spOrd3) (F : FnP K "_law_forest" sFor f fd) : FnOk P w K mg base CX0 3 f fd ["_law_pool_here"] spFor := by
  refine F.ok scFor (fun vs H Q E h => ?_) (fun cdv A outer s H vs Q E hr h => ?_)
  · obtain ⟨p, c, rfl, _⟩ := h
    rfl
  · obtain ⟨p, c, rfl, hP, k⟩ := h
    have r2 : Room 2 _ := hr
    have r1 : Room 1 _ := hr.mono (by decide)
    refine ⟨_, pss_cons (ps_set (i := 1) scFor.nd rfl (Or.inl rfl) (pe_op op_add pe_int (pe_cal C r1 (by rfl) (pa_cons (pv 0) (pa_cons pe_int pa_nil)))))
      (pss_cons (ps_set (i := 2) scFor.nd rfl (Or.inl rfl) (pe_op op_rep (pe_lst (pa_cons (pe_tup pa_nil) pa_nil)) (pv 1)))
      (pss_cons (ps_set (i := 3) scFor.nd rfl (Or.inl rfl) (pe_lst (pa_cons (pe_tup (pa_cons pe_int pa_nil)) pa_nil)))
      (pss_cons (ps_for (passes_of rfl) rfl (pi_list (pe_cal CO r2 (by rfl) (pa_cons (pv 0) (pa_cons (pv 1) pa_nil)))) (pg_name (i := 4) scFor.nd rfl (Or.inl rfl))
        (pss_one (ps_if (pt_cmpR op_lt (pe_cal C r1 (by rfl) (pa_cons (pv 0) (pa_cons pe_int pa_nil))) pe_int (nomark _))
          (pss_cons (ps_set (i := 5) scFor.nd rfl (Or.inl rfl) (pe_op op_catA (pe_tup (pa_cons (pv 4) pa_nil)) (pe_ix (ix_listK (K := K) rfl) (pv 3) (pe_cal C r1 (by rfl) (pa_cons (pv 0) (pa_cons (pe_callB (call_lenK (K := K) rfl) (by rfl) B.len PySem.boot_len (pa_cons (pv 3) pa_nil)) pa_nil))) (fun _ _ => rfl))))
          (pss_cons (ps_asg (pe_tup (pa_cons (pv 5) pa_nil)) (pg_sub (pv 2) (pv 4) set_list))
          (pss_one (ps_expr (pe_bm PySem.F.plainAttrs_list PySem.F.slot_list_append PySem.F.type_list_append mt_append (pv 3) (pa_cons (pv 5) pa_nil)))))) pss_nil)))
      (pss_one (ps_ret (pe_callTy (call_tupleK (K := K) rfl) (by rfl) B.tuple PyProof.Rows.boot_tuple (pa_cons (pv 2) pa_nil))))))), ?_⟩
    refine q_asgW ⟨.ref p, rfl, p, c, 7, rfl, hP, by decide, by decide, fun H1 z d1 hz0 hz1 => ⟨2, z, rfl, rfl, ?_⟩⟩
    obtain ⟨n, hn⟩ : ∃ n : Nat, 2 + z = (n : Int) := ⟨(2 + z).toNat, by omega⟩
    change tSeq _ _ _ [some (.ref p), some (.int (2 + z)), none, none, none, none] H1
    rw [hn]
    have hn2 : 2 ≤ n := by omega
    have hn8 : n ≤ 8 := by omega
    refine q_asgW ⟨by show 0 ≤ sizeLine; decide, fun t nt => ⟨by show 1 ≤ sizeLine; decide, fun l nl => ⟨.int (n : Int), rfl, l, (n : Int), [.ref t], rfl, rfl, upd_same, by omega, by omega, by rw [sizeLine_eq]; simp; omega, fun L nL => ?_⟩⟩⟩
    rw [Int.toNat_natCast, flat_repV]
    have e2 := Ex.new (o := .tup []) nt
    have ht : (upd H1 t (.tup [])) t = some (.tup []) := upd_same
    have e3 := Ex.new (o := .lst [V.ref t]) nl
    generalize upd H1 t (.tup []) = H2 at *
    generalize upd H2 l (.lst [V.ref t]) = H3 at *
    have e4 := Ex.new (o := .lst (List.replicate n (V.ref t))) nL
    have hL4 : (upd H3 L (.lst (List.replicate n (V.ref t)))) L = some (.lst (List.replicate n (.ref t))) := upd_same
    change tSeq _ _ _ [some (.ref p), some (.int (n : Int)), some (.ref L), none, none, none] _
    generalize upd H3 L (.lst (List.replicate n (V.ref t))) = H4 at *
    have nL1 : H1 L = none := fresh_back (e2.trans e3) nL
    refine q_asgW ⟨by show 1 ≤ sizeLine; decide, fun t0 nt0 => ⟨by show 1 ≤ sizeLine; decide, fun W nW => ?_⟩⟩
    have e5 := Ex.new (o := .tup [V.int 0]) nt0
    have ht0 : (upd H4 t0 (.tup [V.int 0])) t0 = some (.tup [.int 0]) := upd_same
    generalize upd H4 t0 (.tup [V.int 0]) = H5 at *
    have e6 := Ex.new (o := .lst [V.ref t0]) nW
    have hW6 : (upd H5 W (.lst [V.ref t0])) W = some (.lst [.ref t0]) := upd_same
    change tSeq _ _ _ [some (.ref p), some (.int (n : Int)), some (.ref L), some (.ref W), none, none] _
    generalize upd H5 W (.lst [V.ref t0]) = H6 at *
    have e46 := e5.trans e6
    have e16 := ((e2.trans e3).trans e4).trans e46
    have nW1 : H1 W = none := fresh_back (((e2.trans e3).trans e4).trans e5) nW
    have d6 := Dr.of_ex d1.pl e16
    have hLW : L ≠ W := fun z => by rw [← z, e5 _ _ hL4] at nW; cases nW
    have rL : rS H6 p L = some (.lst (List.replicate n (.ref t))) := d1.pl.nr nL1 e16 (e46 _ _ hL4)
    have rW : rS H6 p W = some (.lst [.ref t0]) := d1.pl.nr nW1 e16 hW6
    have rt : rS H6 p t = some (.tup []) := d6.pl.kt.t _ _ (e46 _ _ (e4 _ _ (e3 _ _ ht)))
    have rt0 : rS H6 p t0 = some (.tup [.int 0]) := d6.pl.kt.t _ _ (e6 _ _ ht0)
    have w6L : LsH (rS H6 p) L (List.replicate n []) := by
      refine ⟨_, rL, ?_⟩
      rw [List.map_replicate]
      clear rL hL4 e4 hn hn2 hn8
      induction n with
      | zero => exact .nil
      | succ n ih => exact .cons (.tup rt .nil) ih
    have w6W : RowH (rS H6 p) W [[0]] := ⟨_, rW, .cons (.tup rt0 (DqA.ints [0])) .nil⟩
    have nLc := (d1.pl.nw nL1).2.2
    have nWc := (d1.pl.nw nW1).2.2
    refine q_forC (fun O xs H7 => ∃ os : List Int, xs = os.map V.int ∧ Dr p c H6 H7 ∧ H6 O = none ∧ rS H7 p O = some (.lst (os.map V.int)) ∧ Od3 n os) (fun Q' q' => ⟨.ref p, rfl, .int (n : Int), rfl, p, c, n, rfl, d6.pl, hn2, hn8, fun H7 O os d7 nO nOc hO hol hon hor => q' O _ H7 ⟨os, rfl, d7, nO, hO, hol, hon, hor⟩⟩) ?_
    rintro O xs H7 ⟨os, rfl, d7, nO, hO, ho⟩
    have nOL : O ≠ L := fun z => by rw [z, rS_sub _ _ rL] at nO; cases nO
    have nOW : O ≠ W := fun z => by rw [z, rS_sub _ _ rW] at nO; cases nO
    refine ⟨sq_of (rS_sub _ _ hO), fun i σ' H' => ∃ (rows : List (List Wy)) (ws : List Wy) (o4 o5 : Option V), σ' = [some (.ref p), some (.int (n : Int)), some (.ref L), some (.ref W), o4, o5] ∧ Dr p c H1 H' ∧ LsH (rS H' p) L rows ∧ RowH (rS H' p) W ws ∧ For3 n os i rows ws ∧ rS H' p O = some (.lst (os.map V.int)), ⟨_, _, _, _, rfl, d6.trans d7, w6L.mono d7.ex, w6W.mono d7.ex, for3_start ho, hO⟩, fun i σ' H' _ h => ?_, ?_, ?_⟩
    · obtain ⟨_, _, _, _, _, _, _, _, _, h⟩ := h
      exact sq_of (rS_sub _ _ h)
    · rintro i x σ' H8 hx ⟨rows, ws, o4, o5, rfl, d8, hLs, hWs, hf, hO8⟩
      rw [List.getElem?_map] at hx
      cases hoi : os[i]? with
      | none => rw [hoi] at hx; cases hx
      | some y =>
      rw [hoi] at hx
      obtain rfl := Option.some.inj hx
      have ry := ho.rg y (List.mem_of_getElem? hoi)
      obtain ⟨r, rfl⟩ : ∃ r : Nat, y = (r : Int) := ⟨y.toNat, by omega⟩
      refine g_name ?_
      change tIfS _ _ _ _ [some (.ref p), some (.int (n : Int)), some (.ref L), some (.ref W), some (.int (r : Int)), o5] H8
      refine ⟨.ref p, rfl, p, c, 8, rfl, d8.pl, by decide, by decide, fun H9 q d9 hq0 hq1 => ⟨q, 7, rfl, rfl, _, rfl, ?_⟩⟩
      have d89 := d8.trans d9
      dsimp only
      by_cases cc : decide (q < 7) = true
      · rw [if_pos cc]
        refine q_asgW ⟨.int (r : Int), rfl, by show 1 ≤ sizeLine; decide, fun t1 nt1 => ?_⟩
        have e10 := Ex.new (o := .tup [V.int (r : Int)]) nt1
        have ht1 : (upd H9 t1 (.tup [V.int (r : Int)])) t1 = some (.tup [.int (r : Int)]) := upd_same
        generalize upd H9 t1 (.tup [V.int (r : Int)]) = H10 at *
        have d10 := d89.ext e10
        have x10 := (d9.ext e10).ex
        obtain ⟨us, hW10, hus⟩ := hWs.mono x10
        have hul := hus.length
        rw [List.length_map] at hul
        have hwp : 0 < ws.length := List.length_pos_iff.mpr hf.wn
        have hwl := hf.wl
        have hil := (List.getElem?_eq_some_iff.mp hoi).1
        have hol := ho.len
        refine ⟨.ref W, rfl, .ref p, rfl, .ref W, rfl, W, us, rfl, .inl (sq_of (rS_sub _ _ hW10)), p, c, _, rfl, d10.pl, by omega, by omega, fun H11 m d11 hm0 hm1 => ?_⟩
        obtain ⟨mn, rfl⟩ : ∃ mn : Nat, m = (mn : Int) := ⟨m.toNat, by omega⟩
        have hml : mn < us.length := by omega
        have hW11 := d11.ex _ _ hW10
        have hus11 := hus.mono d11.ex
        obtain ⟨b, hb, hbd⟩ := hus11.wds_inv (List.getElem?_eq_getElem hml)
        have hbw := List.mem_of_getElem? hb
        obtain ⟨bnd, bne, bl8, brg⟩ := wsOk_ok hf.g (by rw [hf.len]; exact hn2) hf.w hbw
        obtain ⟨ba, hba, hbt⟩ := wd_ref hbd
        have ht11 : rS H11 p t1 = some (.tup [.int (r : Int)]) := d11.ex _ _ (d10.pl.kt.t _ _ ht1)
        refine ⟨W, us, (mn : Int), us[mn], rfl, rfl, sq_of (rS_sub _ _ hW11), atI_nat (List.getElem?_eq_getElem hml), ?_⟩
        rw [hba]
        refine ⟨t1, ba, _, _, rfl, rfl, st_of (rS_sub _ _ ht11), st_of (rS_sub _ _ hbt), (by rw [List.length_map, sizeLine_eq]; show 1 + b.length ≤ 16777216; omega), (fun z => by cases z), fun _ z => ?_, fun _ _ t2 nt2 => ?_⟩
        · rw [List.map_eq_nil_iff] at z
          exact absurd z bne
        have e12 := Ex.new (o := .tup ([V.int (r : Int)] ++ b.map V.int)) nt2
        have d12 := (d10.trans d11).ext e12
        have ht2 : rS (upd H11 t2 (.tup ([V.int (r : Int)] ++ b.map V.int))) p t2 = some (.tup ([V.int (r : Int)] ++ b.map V.int)) := d12.pl.kt.t _ _ upd_same
        have x12 := (d11.ext e12).ex
        change tSeq _ _ _ [some (.ref p), some (.int (n : Int)), some (.ref L), some (.ref W), some (.int (r : Int)), some (.ref t2)] _
        generalize upd H11 t2 (.tup ([V.int (r : Int)] ++ b.map V.int)) = H12 at *
        have hw12 : Dq (rS H12 p) (.ref t2) (wd ((r : Int) :: b)) := .tup ht2 (DqA.ints ((r : Int) :: b))
        refine q_asgG ⟨.ref t2, rfl, by show 1 ≤ sizeLine; decide, fun t3 nt3 => ?_⟩
        have e13 := Ex.new (o := .tup [V.ref t2]) nt3
        have d13 := d12.ext e13
        have ht3 : rS (upd H12 t3 (.tup [V.ref t2])) p t3 = some (.tup [.ref t2]) := d13.pl.kt.t _ _ upd_same
        have x13 := d12.pl.rx e13
        generalize upd H12 t3 (.tup [V.ref t2]) = H13 at *
        have hr13 : Dq (rS H13 p) (.ref t3) (rd [(r : Int) :: b]) := .tup ht3 (.cons (hw12.mono x13) .nil)
        have x813 := (x10.trans x12).trans x13
        obtain ⟨vs, hL13, hvs⟩ := (hLs.mono x813)
        have hvl := hvs.length
        rw [List.length_map, hf.len] at hvl
        refine ⟨.ref L, rfl, .int (r : Int), rfl, L, vs, (r : Int), r, rfl, rfl, rS_sub _ _ hL13, ixN_nat (by omega), ?_⟩
        have m14 := d13.mutR (o := .lst (vs.set r (.ref t3))) hL13 nL1 nLc
        have a14 := LsH.setAt (i := r) hL13 hvs hr13
        have b14 : RowH (upd (rS H13 p) L (.lst (vs.set r (.ref t3)))) W ws := ((RowH.mono (x12.trans x13) ⟨us, hW10, hus⟩).upd (l' := vs.set r (.ref t3)) hL13 (Ne.symm hLW))
        have w14 := dq_kt (kt_updL (l' := vs.set r (V.ref t3)) hL13) (noL_wd _) (hw12.mono x13)
        have o14 : (upd (rS H13 p) L (.lst (vs.set r (.ref t3)))) O = some (.lst (os.map V.int)) := by rw [upd_ne nOL]; exact x813 _ _ hO8
        rw [← m14.2] at a14 b14 w14 o14
        have d14 := m14.1
        generalize upd H13 L (.lst (vs.set r (.ref t3))) = H14 at *
        obtain ⟨us2, hW14, hus2⟩ := b14
        have hul2 := hus2.length
        rw [List.length_map] at hul2
        refine ⟨.ref W, rfl, .inl ⟨rfl, _, sq_of (rS_sub _ _ hW14)⟩, .ref t2, rfl, W, us2, .ref t2, rfl, rfl, rS_sub _ _ hW14, by rw [sizeLine_eq]; omega, ?_⟩
        have m15 := d14.mutR (o := .lst (us2 ++ [V.ref t2])) hW14 nW1 nWc
        refine ⟨_, _, _, _, rfl, m15.1, ?_, ?_, for3_add ho hn2 hn8 hf hoi hbw, ?_⟩
        · rw [m15.2]
          exact a14.other hW14 hLW
        · rw [m15.2]
          refine ⟨_, upd_same, dqa_kt (kt_updL hW14) (noLA_wds _) ?_⟩
          rw [List.map_append]
          exact hus2.append (.cons w14 .nil)
        · rw [m15.2, upd_ne nOW]
          exact o14
      · rw [if_neg cc]
        exact ⟨rows, ws, _, _, rfl, d89, hLs.mono d9.ex, hWs.mono d9.ex, for3_skip hf, d9.ex _ _ hO8⟩
    · rintro σ' H8 ⟨rows, ws, o4, o5, rfl, d8, ⟨vs, hL8, hvs⟩, _, hf, _⟩
      refine ret_any ⟨.ref L, rfl, L, vs, rfl, .inl ⟨sq_of (rS_sub _ _ hL8), fun T nT => ?_⟩⟩
      have e9 := Ex.new (o := .tup vs) nT
      have d9 := (d1.trans d8).ext e9
      have hl := hf.len
      exact k _ _ rows d9 (.tup (d9.pl.kt.t _ _ upd_same) (hvs.mono (d8.pl.rx e9))) (by omega) (by omega) hf.g hf.l6
end
end Wk

set_option Elab.async false
set_option linter.all false
set_option maxRecDepth 100000
set_option maxHeartbeats 4000000
namespace Wk
open PySem PySem.Spec PyProof.Rows L2 Evl
/-- what a router of the pairs wishes and takes -/
inductive Typ (rows : List (List Wy)) (ts : List Wy) (r : Nat) : Prop
  | e : rows[r]? = some [] → ts[r]? = some [] → Typ rows ts r
  | one (v : Nat) : v ≠ 0 → v ≠ r → rows[r]? = some [[(r : Int), v, 0], [(r : Int), 0]] → ts[r]? = some [(r : Int), 0] → ts[v]? = some [(v : Int), r, 0] → Typ rows ts r
  | two (v : Nat) : v ≠ 0 → v ≠ r → rows[r]? = some [[(r : Int), v, 0], [(r : Int), 0]] → ts[r]? = some [(r : Int), v, 0] → ts[v]? = some [(v : Int), 0] → Typ rows ts r
  | last (v u : Nat) : v ≠ 0 → v ≠ r → rows[r]? = some [[(r : Int), v, 0], [(r : Int), v, u, 0]] → ts[r]? = some [(r : Int), v, 0] → ts[v]? = some [(v : Int), 0] → Typ rows ts r
theorem Typ.set {rows : List (List Wy)} {ts : List Wy} {r x : Nat} {row : List Wy} {w : Wy} (h : Typ rows ts r) (n : r ≠ x) (hx : ts[x]? = some []) : Typ (rows.set x row) (ts.set x w) r := by
  have g : ∀ {v : Nat} {y : Wy}, ts[v]? = some y → y ≠ [] → (ts.set x w)[v]? = some y := fun {v y} h1 h2 => by
    rw [List.getElem?_set_ne fun e => h2 (by rw [← e, hx] at h1; exact (Option.some.inj h1).symm)]
    exact h1
  have gr : (rows.set x row)[r]? = rows[r]? := List.getElem?_set_ne (Ne.symm n)
  have gt : (ts.set x w)[r]? = ts[r]? := List.getElem?_set_ne (Ne.symm n)
  cases h with
  | e h1 h2 => exact .e (gr.trans h1) (gt.trans h2)
  | one v v0 vr h1 h2 h3 => exact .one v v0 vr (gr.trans h1) (gt.trans h2) (g h3 (by simp))
  | two v v0 vr h1 h2 h3 => exact .two v v0 vr (gr.trans h1) (gt.trans h2) (g h3 (by simp))
  | last v u v0 vr h1 h2 h3 => exact .last v u v0 vr (gr.trans h1) (gt.trans h2) (g h3 (by simp))
structure PrI (os : List Int) (i : Nat) (rows : List (List Wy)) (ts : List Wy) : Prop where
  rl : rows.length = 8
  tl : ts.length = 8
  g : GW rows
  l6 : ∀ row ∈ rows, row.length ≤ 6
  t0 : ts[0]? = some [0]
  st : ∀ r : Nat, 1 ≤ r → r < 8 → Typ rows ts r
  em : ∀ (k : Nat) (x : Int), i ≤ k → os[k]? = some x → rows[x.toNat]? = some [] ∧ ts[x.toNat]? = some []
theorem pr_start {os : List Int} (ho : Od3 8 os) : PrI os 0 (List.replicate 8 []) ([0] :: List.replicate 7 []) := by
  have key : ∀ r : Nat, 1 ≤ r → r < 8 → (List.replicate 8 ([] : List Wy))[r]? = some [] ∧ (([0] : Wy) :: List.replicate 7 [])[r]? = some [] := fun r h1 h2 => by
    refine ⟨by rw [List.getElem?_replicate, if_pos h2], ?_⟩
    cases r with
    | zero => omega
    | succ r => rw [List.getElem?_cons_succ, List.getElem?_replicate, if_pos (by omega)]
  exact ⟨List.length_replicate .., by simp, GW.empty fun row hr => List.eq_of_mem_replicate hr, fun row hr => by rw [List.eq_of_mem_replicate hr]; simp, rfl, fun r h1 h2 => .e (key r h1 h2).1 (key r h1 h2).2, fun k x _ hx => by
    have := ho.rg x (List.mem_of_getElem? hx)
    exact key _ (by omega) (by omega)⟩
theorem set2 {α : Type} {l : List α} {a b : Nat} (h : a ≠ b) (x y z : α) : ((l.set a x).set b y).set a z = (l.set a z).set b y := by
  apply List.ext_getElem?
  intro n
  by_cases c1 : a = n
  · subst c1
    by_cases hl : a < l.length
    · rw [List.getElem?_set_self (by simp; exact hl), List.getElem?_set_ne (Ne.symm h), List.getElem?_set_self hl]
    · rw [List.getElem?_eq_none (by simp; omega), List.getElem?_eq_none (by simp; omega)]
  · rw [List.getElem?_set_ne c1]
    by_cases c2 : b = n
    · subst c2
      by_cases hl : b < l.length
      · rw [List.getElem?_set_self (by simp; exact hl), List.getElem?_set_self (by simp; exact hl)]
      · rw [List.getElem?_eq_none (by simp; omega), List.getElem?_eq_none (by simp; omega)]
    · rw [List.getElem?_set_ne c2, List.getElem?_set_ne c1, List.getElem?_set_ne c2, List.getElem?_set_ne c1]
theorem pr_turn {os : List Int} (ho : Od3 8 os) {i : Nat} {rows : List (List Wy)} {ts : List Wy} (h : PrI os (2 * i) rows ts) {a b : Nat} (ha : os[2 * i]? = some (a : Int)) (hb : os[2 * i + 1]? = some (b : Int)) :
    PrI os (2 * (i + 1)) ((rows.set a [[(a : Int), b, 0], [(a : Int), 0]]).set b [[(b : Int), a, 0], [(b : Int), 0]]) ((ts.set a [(a : Int), 0]).set b [(b : Int), a, 0]) := by
  have ra := ho.rg _ (List.mem_of_getElem? ha)
  have rb := ho.rg _ (List.mem_of_getElem? hb)
  have nab : a ≠ b := fun e => by
    have := ho.ne ha (by rw [hb, e])
    omega
  obtain ⟨ea, eta⟩ := h.em _ _ (Nat.le_refl _) ha
  obtain ⟨eb, etb⟩ := h.em _ _ (by omega) hb
  rw [Int.toNat_natCast] at ea eta eb etb
  have a0 : (a : Int) ≠ 0 := by omega
  have b0 : (b : Int) ≠ 0 := by omega
  have a1 : a ≠ 0 := by omega
  have b1 : b ≠ 0 := by omega
  have hl := h.rl
  have htl := h.tl
  have s1 := gw_add h.g ea (by omega) (.inl rfl) (by simp [a0, a1]) (by simp) (by simp) 0
  have e1 : rows.set a (([] : List Wy).take 0 ++ [(a : Int) :: [0]] ++ ([] : List Wy).drop 0) = rows.set a [[(a : Int), 0]] := rfl
  rw [e1] at s1
  have s2 := gw_add s1 (r := b) (row := []) (by rw [List.getElem?_set_ne nab]; exact eb) (by omega) (.inl rfl) (by simp [b0, b1]) (by simp) (by simp) 0
  have e2 : (rows.set a [[(a : Int), 0]]).set b (([] : List Wy).take 0 ++ [(b : Int) :: [0]] ++ ([] : List Wy).drop 0) = (rows.set a [[(a : Int), 0]]).set b [[(b : Int), 0]] := rfl
  rw [e2] at s2
  have q2a : ((rows.set a [[(a : Int), 0]]).set b [[(b : Int), 0]])[a]? = some [[(a : Int), 0]] := by rw [List.getElem?_set_ne (Ne.symm nab), List.getElem?_set_self (by omega)]
  have q2b : ((rows.set a [[(a : Int), 0]]).set b [[(b : Int), 0]])[b]? = some [[(b : Int), 0]] := List.getElem?_set_self (by simp; omega)
  have s3 := gw_add s2 q2a (by omega) (.inr ⟨b, _, q2b, by simp⟩) (b := [(b : Int), 0]) (by simp [a0, a1]; omega) (by simp) (by simp [b0, b1]) 0
  have e3 : ((rows.set a [[(a : Int), 0]]).set b [[(b : Int), 0]]).set a ([[(a : Int), 0]].take 0 ++ [(a : Int) :: [(b : Int), 0]] ++ [[(a : Int), 0]].drop 0) = (rows.set a [[(a : Int), b, 0], [(a : Int), 0]]).set b [[(b : Int), 0]] := set2 nab _ _ _
  rw [e3] at s3
  have q3a : ((rows.set a [[(a : Int), b, 0], [(a : Int), 0]]).set b [[(b : Int), 0]])[a]? = some [[(a : Int), b, 0], [(a : Int), 0]] := by rw [List.getElem?_set_ne (Ne.symm nab), List.getElem?_set_self (by omega)]
  have q3b : ((rows.set a [[(a : Int), b, 0], [(a : Int), 0]]).set b [[(b : Int), 0]])[b]? = some [[(b : Int), 0]] := List.getElem?_set_self (by simp; omega)
  have s4 := gw_add s3 q3b (by omega) (.inr ⟨a, _, q3a, by simp⟩) (b := [(a : Int), 0]) (by simp [b0, b1]; omega) (by simp) (by simp [a0, a1]) 0
  have e4 : ((rows.set a [[(a : Int), b, 0], [(a : Int), 0]]).set b [[(b : Int), 0]]).set b ([[(b : Int), 0]].take 0 ++ [(b : Int) :: [(a : Int), 0]] ++ [[(b : Int), 0]].drop 0) = (rows.set a [[(a : Int), b, 0], [(a : Int), 0]]).set b [[(b : Int), a, 0], [(b : Int), 0]] := by rw [List.set_set]; rfl
  rw [e4] at s4
  have ga : ((rows.set a [[(a : Int), b, 0], [(a : Int), 0]]).set b [[(b : Int), a, 0], [(b : Int), 0]])[a]? = some [[(a : Int), b, 0], [(a : Int), 0]] := by rw [List.getElem?_set_ne (Ne.symm nab), List.getElem?_set_self (by omega)]
  have gb : ((rows.set a [[(a : Int), b, 0], [(a : Int), 0]]).set b [[(b : Int), a, 0], [(b : Int), 0]])[b]? = some [[(b : Int), a, 0], [(b : Int), 0]] := List.getElem?_set_self (by simp; omega)
  have ta : ((ts.set a [(a : Int), 0]).set b [(b : Int), a, 0])[a]? = some [(a : Int), 0] := by rw [List.getElem?_set_ne (Ne.symm nab), List.getElem?_set_self (by omega)]
  have tb : ((ts.set a [(a : Int), 0]).set b [(b : Int), a, 0])[b]? = some [(b : Int), a, 0] := List.getElem?_set_self (by simp; omega)
  refine ⟨by simp [hl], by simp [htl], s4, fun row hr => ?_, ?_, fun r h1 h2 => ?_, fun k x hk hx => ?_⟩
  · rcases List.mem_or_eq_of_mem_set hr with hr | rfl
    · rcases List.mem_or_eq_of_mem_set hr with hr | rfl
      · exact h.l6 row hr
      · simp
    · simp
  · rw [List.getElem?_set_ne b1, List.getElem?_set_ne a1]
    exact h.t0
  · by_cases c1 : r = a
    · subst c1
      exact .one b b1 (Ne.symm nab) ga ta tb
    by_cases c2 : r = b
    · subst c2
      exact .two a a1 nab gb tb ta
    · exact ((h.st r h1 h2).set c1 eta).set c2 (by rw [List.getElem?_set_ne nab]; exact etb)
  · have rx := ho.rg x (List.mem_of_getElem? hx)
    have na : a ≠ x.toNat := fun e => by
      have := ho.ne hx (by rw [ha]; congr 1; omega)
      omega
    have nb : b ≠ x.toNat := fun e => by
      have := ho.ne hx (by rw [hb]; congr 1; omega)
      omega
    obtain ⟨q1, q2⟩ := h.em k x (by omega) hx
    exact ⟨by rw [List.getElem?_set_ne nb, List.getElem?_set_ne na]; exact q1, by rw [List.getElem?_set_ne nb, List.getElem?_set_ne na]; exact q2⟩
theorem pr_last {os : List Int} (ho : Od3 8 os) {rows : List (List Wy)} {ts : List Wy} (h : PrI os 6 rows ts) {z a b : Nat} (hz : os[6]? = some (z : Int)) (ha : os[0]? = some (a : Int)) (hb : os[1]? = some (b : Int)) (hra : rows[a]? = some [[(a : Int), b, 0], [(a : Int), 0]]) (hta : ts[a]? = some [(a : Int), 0]) :
    PrI os 7 (rows.set z [[(z : Int), a, 0], [(z : Int), a, b, 0]]) (ts.set z [(z : Int), a, 0]) := by
  have rz := ho.rg _ (List.mem_of_getElem? hz)
  have ra := ho.rg _ (List.mem_of_getElem? ha)
  have rb := ho.rg _ (List.mem_of_getElem? hb)
  have nza : z ≠ a := fun e => by
    have := ho.ne hz (by rw [ha, e])
    omega
  have nzb : z ≠ b := fun e => by
    have := ho.ne hz (by rw [hb, e])
    omega
  have nab : a ≠ b := fun e => by
    have := ho.ne ha (by rw [hb, e])
    omega
  obtain ⟨ez, etz⟩ := h.em _ _ (Nat.le_refl _) hz
  rw [Int.toNat_natCast] at ez etz
  have hl := h.rl
  have htl := h.tl
  have z1 : z ≠ 0 := by omega
  have a1 : a ≠ 0 := by omega
  have b1 : b ≠ 0 := by omega
  have s1 := gw_add h.g ez z1 (.inr ⟨a, _, hra, by simp⟩) (b := [(a : Int), 0]) (by simp [z1]; omega) (by simp) (by simp) 0
  have e1 : rows.set z (([] : List Wy).take 0 ++ [(z : Int) :: [(a : Int), 0]] ++ ([] : List Wy).drop 0) = rows.set z [[(z : Int), a, 0]] := rfl
  rw [e1] at s1
  have q1z : (rows.set z [[(z : Int), a, 0]])[z]? = some [[(z : Int), a, 0]] := List.getElem?_set_self (by omega)
  have q1a : (rows.set z [[(z : Int), a, 0]])[a]? = some [[(a : Int), b, 0], [(a : Int), 0]] := by rw [List.getElem?_set_ne nza]; exact hra
  have s2 := gw_add s1 q1z z1 (.inr ⟨a, _, q1a, by simp⟩) (b := [(a : Int), b, 0]) (by simp [z1]; omega) (by simp) (by simp) 1
  have e2 : (rows.set z [[(z : Int), a, 0]]).set z ([[(z : Int), a, 0]].take 1 ++ [(z : Int) :: [(a : Int), b, 0]] ++ [[(z : Int), a, 0]].drop 1) = rows.set z [[(z : Int), a, 0], [(z : Int), a, b, 0]] := by rw [List.set_set]; rfl
  rw [e2] at s2
  refine ⟨by simp [hl], by simp [htl], s2, fun row hr => ?_, by rw [List.getElem?_set_ne z1]; exact h.t0, fun r h1 h2 => ?_, fun k x hk hx => ?_⟩
  · rcases List.mem_or_eq_of_mem_set hr with hr | rfl
    · exact h.l6 row hr
    · simp
  · by_cases c1 : r = z
    · subst c1
      exact .last a b a1 (Ne.symm nza) (List.getElem?_set_self (by omega)) (List.getElem?_set_self (by omega)) (by rw [List.getElem?_set_ne nza]; exact hta)
    · exact (h.st r h1 h2).set c1 etz
  · have := (List.getElem?_eq_some_iff.mp hx).1
    have := ho.len
    omega
/-- it is an outcome -/
theorem pr_out {os : List Int} {i : Nat} {rows : List (List Wy)} {ts : List Wy} (h : PrI os i rows ts) : FullT rows ts ∧ okP rows ts = true := by
  have hl := h.rl
  have htl := h.tl
  have gd : ∀ {r : Nat} {row : List Wy}, rows[r]? = some row → rows.getD r [] = row := fun e => by rw [List.getD_eq_getElem?_getD, e]; rfl
  have hF : FullT rows ts := by
    refine ⟨by omega, fun r x hx => ?_⟩
    unfold chW
    by_cases c : r = 0
    · subst c
      rw [if_pos rfl]
      rw [h.t0] at hx
      cases hx
      simp
    · rw [if_neg c]
      have hr8 : r < 8 := by have := (List.getElem?_eq_some_iff.mp hx).1; omega
      rcases h.st r (by omega) hr8 with ⟨h1, h2⟩ | ⟨v, _, _, h1, h2, _⟩ | ⟨v, _, _, h1, h2, _⟩ | ⟨v, u, _, _, h1, h2, _⟩
      all_goals
        rw [h2] at hx
        cases hx
        rw [gd h1]
        simp
  refine ⟨hF, ?_⟩
  rw [okP_ls h.g (by omega) hF, ls_iff]
  intro r h1 h2
  have tg : ∀ {v : Nat} {x : Wy}, ts[v]? = some x → (ts.map some).getD v none = some x := fun e => by rw [List.getD_eq_getElem?_getD, List.getElem?_map, e]; rfl
  rw [best_find]
  have t0 := tg h.t0
  rcases h.st r (by omega) (by omega) with ⟨h3, h4⟩ | ⟨v, v0, vr, h3, h4, h5⟩ | ⟨v, v0, vr, h3, h4, h5⟩ | ⟨v, u, v0, vr, h3, h4, h5⟩
  · rw [gd h3, tg h4]
    rfl
  · rw [gd h3, tg h4]
    have k1 : hit (ts.map some) [(r : Int), v, 0] = false := by
      unfold hit
      show decide ((ts.map some).getD ((v : Int)).toNat none = some [(v : Int), 0]) = false
      rw [Int.toNat_natCast, tg h5]
      simp
    have k2 : hit (ts.map some) [(r : Int), 0] = true := by
      unfold hit
      show decide ((ts.map some).getD 0 none = some [0]) = true
      rw [t0]
      simp
    rw [List.find?_cons, k1, List.find?_cons, k2]
    rfl
  · rw [gd h3, tg h4]
    have k1 : hit (ts.map some) [(r : Int), v, 0] = true := by
      unfold hit
      show decide ((ts.map some).getD ((v : Int)).toNat none = some [(v : Int), 0]) = true
      rw [Int.toNat_natCast, tg h5]
      simp
    rw [List.find?_cons, k1]
    rfl
  · rw [gd h3, tg h4]
    have k1 : hit (ts.map some) [(r : Int), v, 0] = true := by
      unfold hit
      show decide ((ts.map some).getD ((v : Int)).toNat none = some [(v : Int), 0]) = true
      rw [Int.toNat_natCast, tg h5]
      simp
    rw [List.find?_cons, k1]
    rfl
end Wk

set_option Elab.async false
set_option linter.all false
set_option maxRecDepth 100000
set_option maxHeartbeats 4000000
namespace Wk
open PySem PySem.Spec PyProof.Rows L2 Evl
/-- the lists, the taking and the order, while pairs are made -/
structure PW (p c L T O : Addr) (H1 : Hp) (os : List Int) (rows : List (List Wy)) (ts : List Wy) (Hx : Hp) : Prop where
  dr : Dr p c H1 Hx
  ls : LsH (rS Hx p) L rows
  tk : RowH (rS Hx p) T ts
  oo : rS Hx p O = some (.lst (os.map V.int))
  l1 : H1 L = none ∧ L ≠ c
  t1 : H1 T = none ∧ T ≠ c
  lt : L ≠ T
  ol : O ≠ L
  ot : O ≠ T
section
variable {p c L T O : Addr} {H1 Hx Hy : Hp} {os : List Int} {rows : List (List Wy)} {ts : List Wy}
theorem PW.ext (h : PW p c L T O H1 os rows ts Hx) (e : Ex Hx Hy) : PW p c L T O H1 os rows ts Hy := ⟨h.dr.ext e, h.ls.mono (h.dr.pl.rx e), h.tk.mono (h.dr.pl.rx e), h.dr.pl.rx e _ _ h.oo, h.l1, h.t1, h.lt, h.ol, h.ot⟩
theorem PW.draw (h : PW p c L T O H1 os rows ts Hx) (d : Dr p c Hx Hy) : PW p c L T O H1 os rows ts Hy := ⟨h.dr.trans d, h.ls.mono d.ex, h.tk.mono d.ex, d.ex _ _ h.oo, h.l1, h.t1, h.lt, h.ol, h.ot⟩
theorem PW.setL (h : PW p c L T O H1 os rows ts Hx) {u : V} {row : List Wy} (hu : Dq Hx u (rd row)) : ∃ vs, Hx L = some (.lst vs) ∧ vs.length = rows.length ∧ ∀ i, PW p c L T O H1 os (rows.set i row) ts (upd Hx L (.lst (vs.set i u))) := by
  obtain ⟨vs, hL, hvs⟩ := h.ls
  have hl := hvs.length
  rw [List.length_map] at hl
  refine ⟨vs, rS_sub _ _ hL, hl, fun i => ?_⟩
  have m := h.dr.mutR (o := .lst (vs.set i u)) hL h.l1.1 h.l1.2
  have hu' := dq_kt h.dr.pl.kt (show noL (rd row) = true from noLA_wds row) hu
  refine ⟨m.1, ?_, ?_, ?_, h.l1, h.t1, h.lt, h.ol, h.ot⟩
  · rw [m.2]; exact LsH.setAt hL hvs hu'
  · rw [m.2]; exact h.tk.upd hL (Ne.symm h.lt)
  · rw [m.2, upd_ne h.ol]; exact h.oo
theorem PW.setT (h : PW p c L T O H1 os rows ts Hx) {u : V} {w : Wy} (hu : Dq Hx u (wd w)) : ∃ vs, Hx T = some (.lst vs) ∧ vs.length = ts.length ∧ ∀ i, PW p c L T O H1 os rows (ts.set i w) (upd Hx T (.lst (vs.set i u))) := by
  obtain ⟨vs, hT, hvs⟩ := h.tk
  have hl := hvs.length
  rw [List.length_map] at hl
  refine ⟨vs, rS_sub _ _ hT, hl, fun i => ?_⟩
  have m := h.dr.mutR (o := .lst (vs.set i u)) hT h.t1.1 h.t1.2
  have hu' := dq_kt h.dr.pl.kt (noL_wd w) hu
  refine ⟨m.1, ?_, ?_, ?_, h.l1, h.t1, h.lt, h.ol, h.ot⟩
  · rw [m.2]; exact h.ls.other hT h.lt
  · rw [m.2]; exact RowH.setAt hT hvs hu'
  · rw [m.2, upd_ne h.ot]; exact h.oo
end
theorem d_wd2 {te1 : TE} {σ : L2.St} {H : Hp} {x : Int} (h1 : Ev te1 σ H (.int x)) : EvD (tTup (tCons te1 (tCons (tC (.int 0)) tNil))) σ H (wd [x, 0]) :=
  d_tup (d_cons (d_ev h1 rfl fun _ _ => .int _) (d_cons (d_ev (ev_c (v := .int 0)) rfl fun _ _ => .int _) d_nil)) (by simp)
theorem d_wd3 {te1 te2 : TE} {σ : L2.St} {H : Hp} {x y : Int} (h1 : Ev te1 σ H (.int x)) (h2 : Ev te2 σ H (.int y)) : EvD (tTup (tCons te1 (tCons te2 (tCons (tC (.int 0)) tNil)))) σ H (wd [x, y, 0]) :=
  d_tup (d_cons (d_ev h1 rfl fun _ _ => .int _) (d_cons (d_ev h2 rfl fun _ _ => .int _) (d_cons (d_ev (ev_c (v := .int 0)) rfl fun _ _ => .int _) d_nil))) (by simp)
theorem d_wd4 {te1 te2 te3 : TE} {σ : L2.St} {H : Hp} {x y z : Int} (h1 : Ev te1 σ H (.int x)) (h2 : Ev te2 σ H (.int y)) (h3 : Ev te3 σ H (.int z)) : EvD (tTup (tCons te1 (tCons te2 (tCons te3 (tCons (tC (.int 0)) tNil))))) σ H (wd [x, y, z, 0]) :=
  d_tup (d_cons (d_ev h1 rfl fun _ _ => .int _) (d_cons (d_ev h2 rfl fun _ _ => .int _) (d_cons (d_ev h3 rfl fun _ _ => .int _) (d_cons (d_ev (ev_c (v := .int 0)) rfl fun _ _ => .int _) d_nil)))) (by simp)
theorem d_rd2 {t1 t2 : TE} {σ : L2.St} {H : Hp} {x y : Wy} (h1 : EvD t1 σ H (wd x)) (h2 : EvD t2 σ H (wd y)) : EvD (tTup (tCons t1 (tCons t2 tNil))) σ H (rd [x, y]) := d_tup (d_cons h1 (d_cons h2 d_nil)) (by simp)
/-- x[i] = a datum -/
theorem q_setD {te : TE} {tz : TS} {D : Ends} {σ : L2.St} {H : Hp} {d : PyData} {l j : Nat} {L : Addr} {i : Nat} (h : EvD te σ H d) (hl : σ[l]? = some (some (.ref L))) (hj : σ[j]? = some (some (.int (i : Int)))) (k : ∀ u H2, Ex H H2 → Dq H2 u d → ∃ vs, H2 L = some (.lst vs) ∧ i < vs.length ∧ tz D σ (upd H2 L (.lst (vs.set i u)))) : tSeq (tAsg te (gSub (tVar l) (tVar j) rSetL)) tz D σ H :=
  q_asgG (h H (Ex.refl _) _ fun u H2 e2 hu => by
    obtain ⟨vs, h1, h2, h3⟩ := k u H2 e2 (hu.mono fr_sub)
    exact ⟨.ref L, hl, .int (i : Int), hj, L, vs, (i : Int), i, rfl, rfl, h1, ixN_nat h2, h3⟩)
theorem s_setD {te : TE} {D : Ends} {σ : L2.St} {H : Hp} {d : PyData} {l j : Nat} {L : Addr} {i : Nat} (h : EvD te σ H d) (hl : σ[l]? = some (some (.ref L))) (hj : σ[j]? = some (some (.int (i : Int)))) (k : ∀ u H2, Ex H H2 → Dq H2 u d → ∃ vs, H2 L = some (.lst vs) ∧ i < vs.length ∧ D.nx σ (upd H2 L (.lst (vs.set i u)))) : tAsg te (gSub (tVar l) (tVar j) rSetL) D σ H :=
  h H (Ex.refl _) _ fun u H2 e2 hu => by
    obtain ⟨vs, h1, h2, h3⟩ := k u H2 e2 (hu.mono fr_sub)
    exact ⟨.ref L, hl, .int (i : Int), hj, L, vs, (i : Int), i, rfl, rfl, h1, ixN_nat h2, h3⟩
section
variable {P : Program} {w : World} {K : PySem.W.Frag} {mg : Str → Option Value} {base : Heap} {f : Addr} {fd : FuncData}
/-! _law_pairs -/
def spPrs : Sp := fun vs H Q _ => ∃ (p c : Addr), vs = [.ref p] ∧ Pol H p c ∧ ∀ H' U lv tv rows ts, Dr p c H H' → rS H' p U = some (.tup [lv, tv]) → Dq (rS H' p) lv (pd rows) → Dq (rS H' p) tv (.tuple (ts.map wd)) → rows.length = 8 → GW rows → (∀ row ∈ rows, row.length ≤ 6) → FullT rows ts → okP rows ts = true → Q (.ref U) H'
abbrev sPrs : Stmt := top 58
abbrev nPrs : List Str := ["_law_pool_here", "_law_order_here", "_law_lists_here", "_law_taking", "_law_k", "_law_one", "_law_two", "_law_last"]
theorem scPrs : FnScope nPrs ["_law_pool_here"] (defScope sPrs) := ⟨rfl, rfl, rfl, by decide +kernel, rfl, by decide +kernel, by decide +kernel⟩
theorem ok_prs (B : Bl mg) (C : Cal P w K mg base "_law_draw" ["_law_pool_here", "_law_many"] 1 spDraw3) (CO : Cal P w K mg base "_law_order" ["_law_pool_here", "_law_size"] 2 spOrd3) (F : FnP K "_law_pairs" sPrs f fd) : FnOk P w K mg base CX0 3 f fd ["_law_pool_here"] spPrs := by
  refine F.ok scPrs (fun vs H Q E h => ?_) (fun cdv A outer s H vs Q E hr h => ?_)
  · obtain ⟨p, c, rfl, _⟩ := h
    rfl
  · obtain ⟨p, c, rfl, hP, k⟩ := h
    have r2 : Room 2 _ := hr
    have r1 : Room 1 _ := hr.mono (by decide)
    refine ⟨_, pss_cons (ps_set (i := 1) scPrs.nd rfl (Or.inl rfl) (pe_cal CO r2 (by rfl) (pa_cons (pv 0) (pa_cons pe_int pa_nil))))
      (pss_cons (ps_set (i := 2) scPrs.nd rfl (Or.inl rfl) (pe_op op_rep (pe_lst (pa_cons (pe_tup pa_nil) pa_nil)) pe_int))
      (pss_cons (ps_set (i := 3) scPrs.nd rfl (Or.inl rfl) (pe_op op_cat (pe_lst (pa_cons (pe_tup (pa_cons pe_int pa_nil)) pa_nil)) (pe_op op_rep (pe_lst (pa_cons (pe_tup pa_nil) pa_nil)) pe_int)))
      (pss_cons (ps_for (passes_of rfl) rfl (pi_range1 (by rfl) B.range (pa_cons pe_int pa_nil)) (pg_name (i := 4) scPrs.nd rfl (Or.inl rfl))
        (pss_cons (ps_set (i := 5) scPrs.nd rfl (Or.inl rfl) (pe_ix (ix_listK (K := K) rfl) (pv 1) (pe_op op_mul pe_int (pv 4)) (fun _ _ => rfl)))
        (pss_cons (ps_set (i := 6) scPrs.nd rfl (Or.inl rfl) (pe_ix (ix_listK (K := K) rfl) (pv 1) (pe_op op_add (pe_op op_mul pe_int (pv 4)) pe_int) (fun _ _ => rfl)))
        (pss_cons (ps_asg (pe_tup (pa_cons (pe_tup (pa_cons (pv 5) (pa_cons (pv 6) (pa_cons pe_int pa_nil)))) (pa_cons (pe_tup (pa_cons (pv 5) (pa_cons pe_int pa_nil))) pa_nil))) (pg_sub (pv 2) (pv 5) set_list))
        (pss_cons (ps_asg (pe_tup (pa_cons (pe_tup (pa_cons (pv 6) (pa_cons (pv 5) (pa_cons pe_int pa_nil)))) (pa_cons (pe_tup (pa_cons (pv 6) (pa_cons pe_int pa_nil))) pa_nil))) (pg_sub (pv 2) (pv 6) set_list))
        (pss_cons (ps_asg (pe_tup (pa_cons (pv 5) (pa_cons pe_int pa_nil))) (pg_sub (pv 3) (pv 5) set_list))
        (pss_one (ps_asg (pe_tup (pa_cons (pv 6) (pa_cons (pv 5) (pa_cons pe_int pa_nil)))) (pg_sub (pv 3) (pv 6) set_list)))))))))
      (pss_cut (ps_if (pt_cmpR op_eq (pe_cal C r1 (by rfl) (pa_cons (pv 0) (pa_cons pe_int pa_nil))) pe_int (nomark _))
        (pss_cons (ps_set (i := 7) scPrs.nd rfl (Or.inl rfl) (pe_ix (ix_listK (K := K) rfl) (pv 1) pe_int (fun _ _ => rfl)))
        (pss_cons (ps_asg (pe_tup (pa_cons (pe_tup (pa_cons (pv 7) (pa_cons (pe_ix (ix_listK (K := K) rfl) (pv 1) pe_int (fun _ _ => rfl)) (pa_cons pe_int pa_nil)))) (pa_cons (pe_tup (pa_cons (pv 7) (pa_cons (pe_ix (ix_listK (K := K) rfl) (pv 1) pe_int (fun _ _ => rfl)) (pa_cons (pe_ix (ix_listK (K := K) rfl) (pv 1) pe_int (fun _ _ => rfl)) (pa_cons pe_int pa_nil))))) pa_nil))) (pg_sub (pv 2) (pv 7) set_list))
        (pss_one (ps_asg (pe_tup (pa_cons (pv 7) (pa_cons (pe_ix (ix_listK (K := K) rfl) (pv 1) pe_int (fun _ _ => rfl)) (pa_cons pe_int pa_nil)))) (pg_sub (pv 3) (pv 7) set_list))))) pss_nil)
      (pss_one (ps_ret (pe_tup (pa_cons (pe_callTy (call_tupleK (K := K) rfl) (by rfl) B.tuple PyProof.Rows.boot_tuple (pa_cons (pv 2) pa_nil)) (pa_cons (pe_callTy (call_tupleK (K := K) rfl) (by rfl) B.tuple PyProof.Rows.boot_tuple (pa_cons (pv 3) pa_nil)) pa_nil))))))))), ?_⟩
    refine q_asgW ⟨.ref p, rfl, p, c, 8, rfl, hP, by decide, by decide, fun H1 O os d1 nO nOc hO hol hon hor => ?_⟩
    have ho : Od3 8 os := ⟨hol, hon, hor⟩
    change tSeq _ _ _ [some (.ref p), some (.ref O), none, none, none, none, none, none] H1
    refine q_asgW ⟨by show 0 ≤ sizeLine; decide, fun t nt => ⟨by show 1 ≤ sizeLine; decide, fun l nl => ⟨l, 8, [.ref t], rfl, rfl, upd_same, by omega, by omega, by rw [sizeLine_eq]; simp, fun L nL => ?_⟩⟩⟩
    rw [show ((8 : Int)).toNat = 8 from rfl, flat_repV]
    have e2 := Ex.new (o := .tup []) nt
    have ht : (upd H1 t (.tup [])) t = some (.tup []) := upd_same
    have e3 := Ex.new (o := .lst [V.ref t]) nl
    generalize upd H1 t (.tup []) = H2 at *
    generalize upd H2 l (.lst [V.ref t]) = H3 at *
    have e4 := Ex.new (o := .lst (List.replicate 8 (V.ref t))) nL
    have hL4 : (upd H3 L (.lst (List.replicate 8 (V.ref t)))) L = some (.lst (List.replicate 8 (.ref t))) := upd_same
    change tSeq _ _ _ [some (.ref p), some (.ref O), some (.ref L), none, none, none, none, none] _
    generalize upd H3 L (.lst (List.replicate 8 (V.ref t))) = H4 at *
    have nL1 : H1 L = none := fresh_back (e2.trans e3) nL
    refine q_asgW ⟨by show 1 ≤ sizeLine; decide, fun t0 nt0 => ⟨by show 1 ≤ sizeLine; decide, fun l2 nl2 => ?_⟩⟩
    have e5 := Ex.new (o := .tup [V.int 0]) nt0
    have ht0 : (upd H4 t0 (.tup [V.int 0])) t0 = some (.tup [.int 0]) := upd_same
    generalize upd H4 t0 (.tup [V.int 0]) = H5 at *
    have e6 := Ex.new (o := .lst [V.ref t0]) nl2
    have hl26 : (upd H5 l2 (.lst [V.ref t0])) l2 = some (.lst [.ref t0]) := upd_same
    generalize upd H5 l2 (.lst [V.ref t0]) = H6 at *
    refine ⟨by show 0 ≤ sizeLine; decide, fun t3 nt3 => ⟨by show 1 ≤ sizeLine; decide, fun l3 nl3 => ⟨l3, 7, [.ref t3], rfl, rfl, upd_same, by omega, by omega, by rw [sizeLine_eq]; simp, fun l4 nl4 => ?_⟩⟩⟩
    rw [show ((7 : Int)).toNat = 7 from rfl, flat_repV]
    have e7 := Ex.new (o := .tup []) nt3
    have ht3 : (upd H6 t3 (.tup [])) t3 = some (.tup []) := upd_same
    have e8 := Ex.new (o := .lst [V.ref t3]) nl3
    generalize upd H6 t3 (.tup []) = H7 at *
    generalize upd H7 l3 (.lst [V.ref t3]) = H8 at *
    have e9 := Ex.new (o := .lst (List.replicate 7 (V.ref t3))) nl4
    have hl49 : (upd H8 l4 (.lst (List.replicate 7 (V.ref t3)))) l4 = some (.lst (List.replicate 7 (.ref t3))) := upd_same
    generalize upd H8 l4 (.lst (List.replicate 7 (V.ref t3))) = H9 at *
    refine ⟨l2, l4, [.ref t0], List.replicate 7 (.ref t3), rfl, rfl, ((e7.trans e8).trans e9) _ _ hl26, hl49, by rw [sizeLine_eq]; simp, fun T nT => ?_⟩
    have e10 := Ex.new (o := .lst ([V.ref t0] ++ List.replicate 7 (.ref t3))) nT
    have hT10 : (upd H9 T (.lst ([V.ref t0] ++ List.replicate 7 (.ref t3)))) T = some (.lst ([V.ref t0] ++ List.replicate 7 (.ref t3))) := upd_same
    change tSeq _ _ _ [some (.ref p), some (.ref O), some (.ref L), some (.ref T), none, none, none, none] _
    generalize upd H9 T (.lst ([V.ref t0] ++ List.replicate 7 (.ref t3))) = H10 at *
    have e14 := (e2.trans e3).trans e4
    have e49 := (((e5.trans e6).trans e7).trans e8).trans e9
    have e110 := (e14.trans e49).trans e10
    have nT1 : H1 T = none := fresh_back (e14.trans e49) nT
    have d10 := Dr.of_ex d1.pl e110
    have hpw : PW p c L T O H1 os (List.replicate 8 []) ([0] :: List.replicate 7 []) H10 := by
      have rt : rS H10 p t = some (.tup []) := d10.pl.kt.t _ _ (e10 _ _ (e49 _ _ (e4 _ _ (e3 _ _ ht))))
      have rt3 : rS H10 p t3 = some (.tup []) := d10.pl.kt.t _ _ (e10 _ _ (e9 _ _ (e8 _ _ ht3)))
      have rt0 : rS H10 p t0 = some (.tup [.int 0]) := d10.pl.kt.t _ _ (e10 _ _ (e9 _ _ (e8 _ _ (e7 _ _ (e6 _ _ ht0)))))
      have rep : ∀ (n : Nat) (x : Addr) (d : PyData), Dq (rS H10 p) (.ref x) d → DqA (rS H10 p) (List.replicate n (.ref x)) (List.replicate n d) := fun n x d h => by
        induction n with
        | zero => exact .nil
        | succ n ih => exact .cons h ih
      refine ⟨d10, ⟨_, d1.pl.nr nL1 e110 (e10 _ _ (e49 _ _ hL4)), ?_⟩, ⟨_, d1.pl.nr nT1 e110 hT10, .cons (.tup rt0 (DqA.ints [0])) ?_⟩, d1.pl.rx e110 _ _ hO, ⟨nL1, (d1.pl.nw nL1).2.2⟩, ⟨nT1, (d1.pl.nw nT1).2.2⟩, fun z => ?_, fun z => ?_, fun z => ?_⟩
      · rw [List.map_replicate]
        exact rep 8 t _ (.tup rt .nil)
      · rw [List.map_replicate]
        exact rep 7 t3 _ (.tup rt3 .nil)
      · rw [← z, e49 _ _ hL4] at nT; cases nT
      · rw [← z, rS_sub _ _ hO] at nL1; cases nL1
      · rw [← z, rS_sub _ _ hO] at nT1; cases nT1
    clear d10 e110 nT1 e49 e14 hT10 hl49 ht3 hl26 ht0 nL1 hL4 ht e10 e9 e8 e7 e6 e5 e4 e3 e2
    have at7 : ∀ j, j < 7 → ∃ y : Nat, os[j]? = some (y : Int) ∧ 1 ≤ y ∧ y < 8 := fun j hj => by
      have hx := List.getElem?_eq_getElem (l := os) (i := j) (by omega)
      have := hor _ (List.mem_of_getElem? hx)
      exact ⟨os[j].toNat, by rw [hx]; congr 1; omega, by omega, by omega⟩
    have evO : ∀ {σ : L2.St} {Hx Hy : Hp} {te : TE} {j : Nat} {y : Nat}, σ[1]? = some (some (.ref O)) → rS Hx p O = some (.lst (os.map V.int)) → Ex Hx Hy → Ev te σ Hy (.int (j : Int)) → os[j]? = some (y : Int) → Ev (tOp (rIxL K) (tVar 1) te) σ Hy (.int (y : Int)) := fun h1 h2 e h3 h4 => ev_op (ev_var h1) h3 (rv_ixL (sq_of (e _ _ (rS_sub _ _ h2))) (atI_nat (by rw [List.getElem?_map, h4]; rfl)))
    obtain ⟨z0, g0, _, _⟩ := at7 0 (by decide)
    obtain ⟨z1, g1, _, _⟩ := at7 1 (by decide)
    obtain ⟨z6, g6, _, _⟩ := at7 6 (by decide)
    refine q_forR1 (n := 3) (ea_cons ev_c ea_nil) (by decide) (fun i σ' H' => ∃ rows ts o4 o5 o6, σ' = [some (.ref p), some (.ref O), some (.ref L), some (.ref T), o4, o5, o6, none] ∧ PW p c L T O H1 os rows ts H' ∧ PrI os (2 * i) rows ts ∧ (1 ≤ i → rows[z0]? = some [[(z0 : Int), z1, 0], [(z0 : Int), 0]] ∧ ts[z0]? = some [(z0 : Int), 0])) (fun H11 e11 => ⟨_, _, _, _, _, rfl, hpw.ext e11, pr_start ho, fun z => by omega⟩) (fun i σ' H11 hi hP11 => ?_) (fun σ' H11 hP11 => ?_)
    · obtain ⟨rows, ts, o4, o5, o6, rfl, hw, hI, hz⟩ := hP11
      obtain ⟨a, ga, ra1, ra8⟩ := at7 (2 * i) (by omega)
      obtain ⟨b, gb, rb1, rb8⟩ := at7 (2 * i + 1) (by omega)
      have hl := hI.rl
      have htl := hI.tl
      change tSeq _ _ _ [some (.ref p), some (.ref O), some (.ref L), some (.ref T), some (.int (i : Int)), o5, o6, none] H11
      have ev2 : ∀ {σ : L2.St} {Hy : Hp}, σ[4]? = some (some (.int (i : Int))) → Ev (tOp (rI CMul fun i j => .int (i * j)) (tC (.int 2)) (tVar 4)) σ Hy (.int ((2 * i : Nat) : Int)) := fun h => ev_is (ev_op (ev_c (v := .int 2)) (ev_var h) (rv_I (.inl ⟨by decide, by decide⟩))) (by push_cast; rfl)
      refine q_asg (evO rfl hw.oo (Ex.refl _) (ev2 rfl) ga) fun H12 e12 => ?_
      change tSeq _ _ _ [some (.ref p), some (.ref O), some (.ref L), some (.ref T), some (.int (i : Int)), some (.int (a : Int)), o6, none] H12
      refine q_asg (evO rfl hw.oo e12 (ev_is (ev_op (ev2 rfl) (ev_c (v := .int 1)) rv_I0) (show V.int (((2 * i : Nat) : Int) + 1) = V.int ((2 * i + 1 : Nat) : Int) by push_cast; rfl)) gb) fun H13 e13 => ?_
      change tSeq _ _ _ [some (.ref p), some (.ref O), some (.ref L), some (.ref T), some (.int (i : Int)), some (.int (a : Int)), some (.int (b : Int)), none] H13
      have w13 := hw.ext (e12.trans e13)
      have ev5 : ∀ {Hy : Hp}, Ev (tVar 5) [some (.ref p), some (.ref O), some (.ref L), some (.ref T), some (.int (i : Int)), some (.int (a : Int)), some (.int (b : Int)), none] Hy (.int (a : Int)) := ev_var rfl
      have ev6 : ∀ {Hy : Hp}, Ev (tVar 6) [some (.ref p), some (.ref O), some (.ref L), some (.ref T), some (.int (i : Int)), some (.int (a : Int)), some (.int (b : Int)), none] Hy (.int (b : Int)) := ev_var rfl
      refine q_setD (l := 2) (j := 5) (L := L) (i := a) (d_rd2 (d_wd3 ev5 ev6) (d_wd2 ev5)) rfl rfl fun u H14 e14 hu => ?_
      obtain ⟨vs, q1, q2, q3⟩ := (w13.ext e14).setL hu
      refine ⟨vs, q1, by omega, ?_⟩
      have w14 := q3 a
      generalize upd H14 L (.lst (vs.set a u)) = H15 at *
      refine q_setD (l := 2) (j := 6) (L := L) (i := b) (d_rd2 (d_wd3 ev6 ev5) (d_wd2 ev6)) rfl rfl fun u H16 e16 hu => ?_
      obtain ⟨vs, q1, q2, q3⟩ := (w14.ext e16).setL hu
      refine ⟨vs, q1, by rw [List.length_set] at q2; omega, ?_⟩
      have w16 := q3 b
      generalize upd H16 L (.lst (vs.set b u)) = H17 at *
      refine q_setD (l := 3) (j := 5) (L := T) (i := a) (d_wd2 ev5) rfl rfl fun u H18 e18 hu => ?_
      obtain ⟨vs, q1, q2, q3⟩ := (w16.ext e18).setT hu
      refine ⟨vs, q1, by omega, ?_⟩
      have w18 := q3 a
      generalize upd H18 T (.lst (vs.set a u)) = H19 at *
      refine s_setD (l := 3) (j := 6) (L := T) (i := b) (d_wd3 ev6 ev5) rfl rfl fun u H20 e20 hu => ?_
      obtain ⟨vs, q1, q2, q3⟩ := (w18.ext e20).setT hu
      refine ⟨vs, q1, by rw [List.length_set] at q2; omega, ?_⟩
      refine ⟨_, _, _, _, _, rfl, q3 b, pr_turn ho hI ga gb, fun _ => ?_⟩
      by_cases c0 : i = 0
      · subst c0
        have ea : a = z0 := by rw [show 2 * 0 = 0 from rfl, g0] at ga; have := Option.some.inj ga; omega
        have eb : b = z1 := by rw [show 2 * 0 + 1 = 1 from rfl, g1] at gb; have := Option.some.inj gb; omega
        subst ea eb
        have nab : b ≠ a := fun e => by have := ho.ne g1 (by rw [g0, e]); omega
        exact ⟨by rw [List.getElem?_set_ne nab, List.getElem?_set_self (by omega)], by rw [List.getElem?_set_ne nab, List.getElem?_set_self (by omega)]⟩
      · obtain ⟨h1, h2⟩ := hz (by omega)
        have na : a ≠ z0 := fun e => by have := ho.ne g0 (by rw [ga, e]); omega
        have nb : b ≠ z0 := fun e => by have := ho.ne g0 (by rw [gb, e]); omega
        exact ⟨by rw [List.getElem?_set_ne nb, List.getElem?_set_ne na]; exact h1, by rw [List.getElem?_set_ne nb, List.getElem?_set_ne na]; exact h2⟩
    · obtain ⟨rows, ts, o4, o5, o6, rfl, hw, hI, hz⟩ := hP11
      obtain ⟨hra, hta⟩ := hz (by decide)
      have hI6 : PrI os 6 rows ts := hI
      have hl := hI.rl
      have htl := hI.tl
      refine ⟨fun σ' H' => ∃ rows ts o7 i, σ' = [some (.ref p), some (.ref O), some (.ref L), some (.ref T), o4, o5, o6, o7] ∧ PW p c L T O H1 os rows ts H' ∧ PrI os i rows ts, ?_, ?_⟩
      · refine ⟨.ref p, rfl, p, c, 2, rfl, hw.dr.pl, by decide, by decide, fun H12 y d12 hy0 hy1 => ⟨rfl, _, rfl, ?_⟩⟩
        have w12 := hw.draw d12
        dsimp only
        by_cases cc : decide (V.int y = V.int 1) = true
        · rw [if_pos cc]
          refine q_asg (evO rfl w12.oo (Ex.refl _) (ev_is (ev_c (v := .int 6)) rfl) g6) fun H13 e13 => ?_
          change tSeq _ _ _ [some (.ref p), some (.ref O), some (.ref L), some (.ref T), o4, o5, o6, some (.int (z6 : Int))] H13
          have w13 := w12.ext e13
          have ev7 : ∀ {Hy : Hp}, Ev (tVar 7) [some (.ref p), some (.ref O), some (.ref L), some (.ref T), o4, o5, o6, some (.int (z6 : Int))] Hy (.int (z6 : Int)) := ev_var rfl
          refine q_setD (l := 2) (j := 7) (L := L) (i := z6) (d_rd2 (d_wd3 ev7 (evO rfl w13.oo (Ex.refl _) (ev_is (ev_c (v := .int 0)) rfl) g0)) (d_wd4 ev7 (evO rfl w13.oo (Ex.refl _) (ev_is (ev_c (v := .int 0)) rfl) g0) (evO rfl w13.oo (Ex.refl _) (ev_is (ev_c (v := .int 1)) rfl) g1))) rfl rfl fun u H14 e14 hu => ?_
          obtain ⟨vs, q1, q2, q3⟩ := (w13.ext e14).setL hu
          refine ⟨vs, q1, by omega, ?_⟩
          have w14 := q3 z6
          generalize upd H14 L (.lst (vs.set z6 u)) = H15 at *
          refine s_setD (l := 3) (j := 7) (L := T) (i := z6) (d_wd3 ev7 (evO rfl w14.oo (Ex.refl _) (ev_is (ev_c (v := .int 0)) rfl) g0)) rfl rfl fun u H16 e16 hu => ?_
          obtain ⟨vs, q1, q2, q3⟩ := (w14.ext e16).setT hu
          exact ⟨vs, q1, by omega, _, _, _, 7, rfl, q3 z6, pr_last ho hI6 g6 g0 g1 hra hta⟩
        · rw [if_neg cc]
          exact ⟨_, _, _, _, rfl, w12, hI6⟩
      · rintro σ' H12 ⟨rows, ts, o7, i, rfl, hw, hI⟩
        obtain ⟨hF, hok⟩ := pr_out hI
        obtain ⟨vs, hL, hvs⟩ := hw.ls
        obtain ⟨us, hT, hus⟩ := hw.tk
        refine ret_any ⟨.ref L, rfl, L, vs, rfl, .inl ⟨sq_of (rS_sub _ _ hL), fun U1 nU1 => ?_⟩⟩
        have e13 := Ex.new (o := .tup vs) nU1
        have h13 : (upd H12 U1 (.tup vs)) U1 = some (.tup vs) := upd_same
        have hT13 := hw.dr.pl.rx e13 _ _ hT
        generalize upd H12 U1 (.tup vs) = H13 at *
        refine ⟨.ref T, rfl, T, us, rfl, .inl ⟨sq_of (rS_sub _ _ hT13), fun U2 nU2 => ?_⟩⟩
        have e14 := Ex.new (o := .tup us) nU2
        have h14 : (upd H13 U2 (.tup us)) U2 = some (.tup us) := upd_same
        generalize upd H13 U2 (.tup us) = H14 at *
        refine ⟨by show 2 ≤ sizeLine; decide, fun U nU => ?_⟩
        have e15 := Ex.new (o := .tup [V.ref U1, V.ref U2]) nU
        have e1215 := (e13.trans e14).trans e15
        have d15 := (d1.trans hw.dr).ext e1215
        have x15 := hw.dr.pl.rx e1215
        exact k _ U (.ref U1) (.ref U2) rows ts d15 (d15.pl.kt.t _ _ upd_same) (.tup (d15.pl.kt.t _ _ (e15 _ _ (e14 _ _ h13))) (hvs.mono x15)) (.tup (d15.pl.kt.t _ _ (e15 _ _ h14)) (hus.mono x15)) hI.rl hI.g hI.l6 hF hok
end
end Wk

set_option Elab.async false
set_option linter.all false
set_option maxRecDepth 100000
set_option maxHeartbeats 2000000
namespace Wk
open L2 PySem PySem.Spec PyProof.Rows Evl
section
variable {P : Program} {w : World} {K : PySem.W.Frag} {mg : Str → Option Value} {base : Heap} {f : Addr} {fd : FuncData} {CW CN CB : Addr}
/-! _law_lines -/
abbrev nLns : List Str := ["_law_lists_here", "_law_lines_here", "_law_row", "_law_way"]
abbrev sLns : Stmt := top 44
theorem scLns : FnScope nLns ["_law_lists_here"] (defScope sLns) := ⟨rfl, rfl, rfl, by decide +kernel, rfl, by decide +kernel, by decide +kernel⟩
theorem ok_lns (B : Bl mg) (hs : mg "sorted" = none) (F : FnP K "_law_lines" sLns f fd) : FnOk P w K mg base CX0 1 f fd ["_law_lists_here"] spLLines := by
  refine F.ok scLns (fun vs H Q E h => ?_) (fun cdv A outer s H vs Q E hr h => ?_)
  · obtain ⟨v, rows, rfl, _⟩ := h
    rfl
  · obtain ⟨v, rows, rfl, hv, hG, h8, h6, k⟩ := h
    have hu : (A.deeper (envOfC "_law_lines" (defScope sLns) s.heap.objs.size f cdv)).units + 65 < cLine := by have := hr.un; omega
    refine ⟨_, pss_cons (ps_set (i := 1) scLns.nd rfl (Or.inl rfl) (pe_lst pa_nil))
      (pss_cons (ps_for (passes_of rfl) rfl (pi_tup (pv 0)) (pg_name (i := 2) scLns.nd rfl (Or.inl rfl))
        (pss_one (ps_for (passes_of rfl) rfl (pi_tup (pv 2)) (pg_name (i := 3) scLns.nd rfl (Or.inl rfl))
          (pss_one (ps_if (PW.pt (pw_and (pt_cmpR op_gt (pe_callB call_len_seq (by rfl) B.len PySem.boot_len (pa_cons (pv 3) pa_nil)) pe_int (nomark _))
              (pw_and1 (pt_cmpR (op_notInD hu) (pe_tup (pa_cons (pe_ix ix_tup (pv 3) pe_int (fun _ _ => rfl)) (pa_cons (pe_ix ix_tup (pv 3) pe_int (fun _ _ => rfl)) pa_nil))) (pv 1) rfl))))
            (pss_one (ps_expr (pe_bm PySem.F.plainAttrs_list PySem.F.slot_list_append PySem.F.type_list_append mt_append (pv 1) (pa_cons (pe_tup (pa_cons (pe_ix ix_tup (pv 3) pe_int (fun _ _ => rfl)) (pa_cons (pe_ix ix_tup (pv 3) pe_int (fun _ _ => rfl)) pa_nil))) pa_nil)))) pss_nil)))))
      (pss_one (ps_ret (pe_callB (L2.cr_sortT (d := 2) (B := 64) (by decide)) (by rfl) hs boot_sorted (pa_cons (pv 1) pa_nil))))), ?_⟩
    unfold pd at hv
    cases hv with
    | tup hla hlx =>
      rename_i la lxs
      have hll := hlx.length
      rw [List.length_map] at hll
      refine ⟨by show 0 ≤ sizeLine; decide, fun D hD => ?_⟩
      have eb := Ex.new (o := .lst ([] : List V)) hD
      refine g_name ?_
      refine ⟨.ref la, rfl, la, rfl, ⟨lxs, st_of (eb _ _ hla)⟩, for_tup (xs := lxs) (fun i σ' H' => ∃ (o p : Option V), σ' = [some (.ref la), some (.ref D), o, p] ∧ LW D H (fnd (rows.take i).flatten) H')
        ⟨none, none, rfl, hD, eb, [], upd_same, .nil⟩ (fun i σ' H' _ h => ?_) ?_ ?_⟩
      · obtain ⟨_, _, _, lw⟩ := h
        exact st_of (lw.2.1 _ _ hla)
      · rintro i x σ' H2 hx ⟨o, p, rfl, lw⟩
        obtain ⟨d, hd1, hd2⟩ := hlx.get hx
        have hil : i < rows.length := by
          have := (List.getElem?_eq_some_iff.mp hx).1
          omega
        have hrw : rows[i]? = some rows[i] := List.getElem?_eq_getElem hil
        have hr6 := h6 _ (List.getElem_mem hil)
        have hok := hG.ok i _ hrw
        rw [List.getElem?_map, hrw] at hd1
        have etk : (rows.take (i + 1)).flatten = (rows.take i).flatten ++ rows[i] := by
          rw [take_snoc hrw, List.flatten_append]
          simp
        have hl6 := len_flat (rows := rows.take i) fun row hm => h6 row (List.mem_of_mem_take hm)
        have htl := List.length_take_le i rows
        rw [etk]
        generalize rows[i] = row at *
        generalize (rows.take i).flatten = pre at *
        obtain rfl : rd row = d := Option.some.inj hd1
        unfold rd at hd2
        cases hd2 with
        | tup h1 h2 =>
          rename_i ua xs
          have hxl := h2.length
          rw [List.length_map] at hxl
          refine g_name ?_
          refine ⟨.ref ua, rfl, ua, rfl, ⟨xs, st_of (lw.2.1 _ _ h1)⟩, for_tup (xs := xs) (fun j σ' H' => ∃ (p : Option V), σ' = [some (.ref la), some (.ref D), some (.ref ua), p] ∧ LW D H (fnd (pre ++ row.take j)) H')
            ⟨p, rfl, by simpa using lw⟩ (fun j σ' H' _ h => ?_) ?_ ?_⟩
          · obtain ⟨_, _, lw⟩ := h
            exact st_of (lw.2.1 _ _ h1)
          · rintro j y σ' H3 hy ⟨p, rfl, lw3⟩
            obtain ⟨w, hw1, hw2⟩ := DqA.wds_inv h2 hy
            obtain ⟨b, rfl, hb⟩ := wd_ref hw2
            have wok := hok w (List.mem_of_getElem? hw1)
            have l2 := wok.l2
            have etj : fnd (pre ++ row.take (j + 1)) = stF (fnd (pre ++ row.take j)) w := by
              rw [take_snoc hw1, ← List.append_assoc, fnd_snoc]
            have hfl := fnd_len (pre ++ row.take j)
            rw [List.length_append, List.length_take] at hfl
            generalize fnd (pre ++ row.take j) = acc at *
            refine g_name ?_
            have e3 := lw3.2.1
            have at1 : atI (w.map V.int) 1 = some (.int (w.getD 1 0)) := atI_nat (j := 1) (by rw [List.getElem?_map, List.getD_eq_getElem?_getD, List.getElem?_eq_getElem (by omega)]; rfl)
            have at0 : atI (w.map V.int) 0 = some (.int (w.getD 0 0)) := atI_nat (j := 0) (by rw [List.getElem?_map, List.getD_eq_getElem?_getD, List.getElem?_eq_getElem (by omega)]; rfl)
            have i1 : ∀ {H4 : Hp}, Ex H3 H4 → Ev (tOp (rIxT K) (tVar 3) (tC (.int 1))) [some (.ref la), some (.ref D), some (.ref ua), some (.ref b)] H4 (.int (w.getD 1 0)) := fun e => ev_op (ev_var rfl) ev_c (rv_ixT (st_of ((e3.trans e) _ _ hb)) at1)
            have i0 : ∀ {H4 : Hp}, Ex H3 H4 → Ev (tOp (rIxT K) (tVar 3) (tC (.int 0))) [some (.ref la), some (.ref D), some (.ref ua), some (.ref b)] H4 (.int (w.getD 0 0)) := fun e => ev_op (ev_var rfl) ev_c (rv_ixT (st_of ((e3.trans e) _ _ hb)) at0)
            have c1 : EvT (tTest (tOp (rI0 fun a b => .bl (decide (a > b))) (tCB (rLenS K) (tCons (tVar 3) tNil)) (tC (.int 2)))) [some (.ref la), some (.ref D), some (.ref ua), some (.ref b)] H3 (lnB w) :=
              et_is (et_test (ev_op (ev_lenT (K := K) (ta := tVar 3) (ev_var rfl) (st_of (e3 _ _ hb))) ev_c rv_I0)) (by rw [List.length_map]; exact ln_len wok)
            have c2 : EvT (tTest (tOp (rNotInD K) (tTup (tCons (tOp (rIxT K) (tVar 3) (tC (.int 1))) (tCons (tOp (rIxT K) (tVar 3) (tC (.int 0))) tNil))) (tVar 1))) [some (.ref la), some (.ref D), some (.ref ua), some (.ref b)] H3 (!decide (prW w ∈ acc)) := by
              intro H4 e4 Q4 q4
              refine test_op (t_tupN ((ea_cons (i1 (Ex.refl _)) (ea_cons (i0 (Ex.refl _)) ea_nil)) H4 e4 _ fun H5 e5 => ⟨by show 2 ≤ sizeLine; decide, fun t ht => ?_⟩))
              have et := Ex.new (o := .tup [V.int (w.getD 1 0), V.int (w.getD 0 0)]) ht
              obtain ⟨_, _, us, hd, hus⟩ := lw3.ext ((e4.trans e5).trans et)
              refine ⟨.ref D, rfl, wd (prW w), acc.map wd, dp_of_wd (w := prW w) (st_of upd_same), .lst (sq_of hd) (DqA.dp (lay_wds acc) (hus.mono (off_in D _))), shaped_wd _, shaped_wds _, _, rfl, ?_⟩
              rw [any_wd]
              exact q4 _ (e5.trans et)
            rw [etj]
            refine s_when (b := lnB w && !decide (prW w ∈ acc)) (et_and c1 fun _ => c2) (fun hb4 H4 e4 => ?_) (fun hb4 H4 e4 => ?_)
            · have es : stF acc w = acc ++ [prW w] := by
                unfold stF
                rw [hb4]
                rfl
              have lw4 := lw3.ext e4
              obtain ⟨_, _, us, hd, hus⟩ := lw4
              refine ⟨.ref D, rfl, .inl ⟨rfl, _, sq_of hd⟩, ?_⟩
              refine tc1 (t_tupN ((ea_cons (i1 e4) (ea_cons (i0 e4) ea_nil)) H4 (Ex.refl _) _ fun H5 e5 => ⟨by show 2 ≤ sizeLine; decide, fun t ht => ?_⟩))
              have et := Ex.new (o := .tup [V.int (w.getD 1 0), V.int (w.getD 0 0)]) ht
              have lw5 := lw3.ext ((e4.trans e5).trans et)
              have hne : t ≠ D := by
                intro z
                rw [z, (e5 _ _ hd)] at ht
                cases ht
              obtain ⟨us5, p1, p2, p3⟩ := lw5.put (w := prW w) (u := .ref t) (by omega) (wd_of ((off_at hne).trans upd_same))
              refine ⟨D, us5, .ref t, rfl, rfl, p1, p2, some (.ref b), rfl, ?_⟩
              rw [es]
              exact p3
            · have es : stF acc w = acc := by
                unfold stF
                rw [hb4]
                rfl
              rw [es]
              exact ⟨some (.ref b), rfl, lw3.ext e4⟩
          · rintro σ' H3 ⟨p, rfl, lw3⟩
            rw [hxl, List.take_length] at lw3
            exact ⟨some (.ref ua), p, rfl, lw3⟩
      · rintro σ' H2 ⟨o, p, rfl, lw⟩
        rw [hll, List.take_length] at lw
        obtain ⟨_, e2, us, hd, hus⟩ := lw
        have hus2 := hus.mono (off_in D H2)
        have hful := fnd_len rows.flatten
        have hfl := len_flat h6
        obtain ⟨fn, fm⟩ := fnd_ok rows.flatten
        generalize fnd rows.flatten = acc at *
        have hpb := pairs_bd hG h8
        have hul := hus.length
        rw [List.length_map] at hul
        have ks : ∀ {ws : List Wy} {us : List V}, DqA H2 us (ws.map wd) → ∃ ks : List (Addr × List Int), us = (ks.map fun p => V.ref p.1) ∧ ks.map (·.2) = ws ∧ ∀ p ∈ ks, H2 p.1 = some (.tup (p.2.map V.int)) := by
          intro ws
          induction ws with
          | nil =>
            intro us h
            cases h
            exact ⟨[], rfl, rfl, fun p hp => by cases hp⟩
          | cons w ws ih =>
            intro us h
            cases h with
            | cons z1 z2 =>
              obtain ⟨a, rfl, ha⟩ := wd_ref z1
              obtain ⟨ks, k1, k2, k3⟩ := ih z2
              refine ⟨(a, w) :: ks, by rw [k1]; rfl, by rw [List.map_cons, k2], fun p hp => ?_⟩
              rcases List.mem_cons.mp hp with y | y
              · rw [y]
                exact ha
              · exact k3 p y
        obtain ⟨kk, k1, k2, k3⟩ := ks hus2
        have hmem : ∀ q, q ∈ acc ↔ q ∈ pairsW rows := fm
        dsimp only
        refine ret_cb ?_
        refine ⟨.ref D, rfl, D, us, rfl, sq_of hd, by omega, fun x hx => ?_, fun ys q perm pw hq => ?_⟩
        · rw [k1] at hx
          obtain ⟨r, hr1, rfl⟩ := List.mem_map.mp hx
          have hm : r.2 ∈ pairsW rows := by
            rw [← hmem, ← k2]
            exact List.mem_map.mpr ⟨r, hr1, rfl⟩
          obtain ⟨u, v', hu', hv', ep⟩ := hpb r.2 hm
          refine ⟨r.2, ⟨r.1, rfl, st_of (k3 r hr1)⟩, by rw [ep]; rfl, ?_⟩
          rw [ep]
          intro m hm2
          rcases List.mem_cons.mp hm2 with z | z
          · omega
          · rcases List.mem_cons.mp z with y | y
            · omega
            · cases y
        · obtain ⟨kk', kp, ek⟩ := perm_back perm k1
          have k3' : ∀ p ∈ kk', H2 p.1 = some (.tup (p.2.map V.int)) := fun p hp => k3 p (kp.mem_iff.mp hp)
          have eM : kk'.map (·.2) = linesW rows := by
            have pm := kp.map (·.2)
            rw [k2] at pm
            refine lines_unique hpb (fun r => ?_) (pm.nodup_iff.mpr fn) ?_
            · rw [pm.mem_iff]
              exact hmem r
            · rw [ek, List.pairwise_map] at pw
              rw [List.pairwise_map]
              exact pw.imp_of_mem fun {x y} hx hy hxy => hxy x.2 y.2 ⟨x.1, rfl, st_of (k3' x hx)⟩ ⟨y.1, rfl, st_of (k3' y hy)⟩
          have eq := Ex.new (o := .lst ys) hq
          refine k _ q ys (e2.trans eq) (fresh_back e2 hq) upd_same ?_
          rw [← eM]
          have z := ks_wds (H := upd H2 q (.lst ys)) (ks := kk') fun p hp => eq _ _ (k3' p hp)
          rw [← ek] at z
          exact z
/-! _law_steps -/
abbrev sSts22 : Stmt := top 45
abbrev nSts22 : List Str := ["_law_lists_here", "_law_tells", "_law_line", "_law_router"]
theorem scSts22 : FnScope nSts22 ["_law_lists_here"] (defScope sSts22) := ⟨rfl, rfl, rfl, by decide +kernel, rfl, by decide +kernel, by decide +kernel⟩
theorem ok_sts22 (B : Bl mg) (CL : Cal P w K mg base "_law_lines" ["_law_lists_here"] 1 spLLines) (F : FnP K "_law_steps" sSts22 f fd) : FnOk P w K mg base CX0 2 f fd ["_law_lists_here"] spLSteps := by
  refine F.ok scSts22 (fun vs H Q E h => ?_) (fun cdv A outer s H vs Q E hr h => ?_)
  · obtain ⟨lv, rows, rfl, _⟩ := h
    rfl
  · obtain ⟨lv, rows, rfl, hl, hG, h2, h8, h6, k⟩ := h
    refine ⟨_, pss_cons (ps_setLc (i := 1) (own := [("_law_line", 2)]) (g := gName 2) (tt := tYes) rfl scSts22.nd rfl rfl (sw_true rfl rfl rfl (by decide +kernel)) (pi_list (pe_cal CL hr (by rfl) (pa_cons (pv 0) pa_nil))) (blkOk_by (N := nSts22) (sc := defScope sSts22) (by decide +kernel))
        (fun _ _ _ _ _ => pg_name (i := 2) scSts22.nd rfl (Or.inl rfl)) (fun _ _ _ _ _ => pts_nil) (fun _ _ _ _ _ => pe_tup (pa_cons pe_str (pa_cons (pe_ix (ix_tupK (K := K) rfl) (pv 2) pe_int (fun _ _ => rfl)) (pa_cons (pe_ix (ix_tupK (K := K) rfl) (pv 2) pe_int (fun _ _ => rfl)) pa_nil)))))
      (pss_one (ps_ret (pe_op op_cat (pv 1)
      (pe_lc (own := [("_law_router", 3)]) (g := gName 3) (tt := tYes) rfl scSts22.nd (pi_range2 (by rfl) B.range (pa_cons pe_int (pa_cons (pe_callB call_len_seq (by rfl) B.len PySem.boot_len (pa_cons (pv 0) pa_nil)) pa_nil))) (blkOk_by (N := nSts22) (sc := defScope sSts22) (by decide +kernel))
        (fun _ _ _ _ _ => pg_name (i := 3) scSts22.nd rfl (Or.inl rfl)) (fun _ _ _ _ _ => pts_nil) (fun _ _ _ _ _ => pe_tup (pa_cons pe_str (pa_cons (pv 3) pa_nil))))))), ?_⟩
    have hll := lnw_len rows
    have hlw : ∃ la lxs, lv = .ref la ∧ H la = some (.tup lxs) ∧ lxs.length = rows.length := by
      have hl' := hl
      unfold pd at hl'
      cases hl' with
      | tup z1 z2 =>
        have := z2.length
        rw [List.length_map] at this
        exact ⟨_, _, rfl, z1, this⟩
    obtain ⟨la, lxs, rfl, l1, lxl⟩ := hlw
    have d1 := dl_LW (K := K) (t := tYes) (te := tTup (tCons (tC (.str "tell")) (tCons (tOp (rIxT K) (tVar 2) (tC (.int 0))) (tCons (tOp (rIxT K) (tVar 2) (tC (.int 1))) tNil)))) (j := 2) (vs := [2]) (σ := start nSts22 [V.ref la]) (row := linesW rows) (fun i => true) (fun i => tellD ((linesW rows).getD i [])) (evln_lines rfl hl hG h8 h6) (by omega) (fun x => rfl) (fun i a w H1 e hi ha => et_yes) (fun i a w H1 e hi ha _ => by
      have eg : (linesW rows).getD i [] = w := by rw [List.getD_eq_getElem?_getD, hi]; rfl
      show EvD _ _ _ (tellD ((linesW rows).getD i []))
      rw [eg]
      obtain ⟨u, v, rfl, _⟩ := ln_shape hG h8 (List.mem_of_getElem? hi)
      exact d_tup (d_cons (d_str _) (d_cons (d_ev (ev_at (K := K) (j := 0) (ev_var (i := 2) rfl) (st_of ha) (ev_is ev_c rfl) rfl) rfl fun _ _ => .int _) (d_cons (d_ev (ev_at (K := K) (j := 1) (ev_var (i := 2) rfl) (st_of ha) (ev_is ev_c rfl) rfl) rfl fun _ _ => .int _) d_nil))) (by simp))
    rw [upTo_map .none (linesW rows) [] tellD] at d1
    refine q_asgG (d1 H (Ex.refl _) _ fun L us H2 nL e2 hL hus => ?_)
    refine g_name ?_
    refine ret_any ?_
    refine ⟨.ref L, rfl, ?_⟩
    have d2 := dl_R2 (t := tYes) (te := tTup (tCons (tC (.str "choose")) (tCons (tVar 3) tNil))) (ta := tCons (tC (.int 1)) (tCons (tCB (rLenS K) (tCons (tVar 0) tNil)) tNil)) (j := 3) (vs := [3]) (σ := [some (.ref la), some (.ref L), none, none]) (H := H2) (lo := 1) (n := (rows.length : Int)) (fun _ => true) (fun i => .tuple [.str "choose", .int ((i + 1 : Nat) : Int)]) (ea_cons ev_c (ea_cons (by rw [← lxl]; exact ev_lenT (K := K) (ev_var (i := 0) rfl) (st_of (e2 _ _ l1))) ea_nil)) (by omega) (fun x => rfl) (fun i H7 e7 hi => et_yes) (fun i H7 e7 hi _ => by
      rw [show (1 : Int) + (i : Int) = ((i + 1 : Nat) : Int) by omega]
      exact d_tup (d_cons (d_str _) (d_cons (d_ev (ev_var (i := 3) rfl) rfl fun H _ => .int _) d_nil)) (by simp))
    rw [upTo_range, show ((rows.length : Int) - 1).toNat = rows.length - 1 by omega] at d2
    refine d2 H2 (Ex.refl _) _ fun r vs H3 nr e3 hr hvs => ?_
    have l1' := hus.length
    have l2' := hvs.length
    rw [List.length_map] at l1' l2'
    rw [List.length_range] at l2'
    refine ⟨L, r, us, vs, rfl, rfl, e3 _ _ hL, hr, by rw [sizeLine_eq]; omega, fun t ht => ?_⟩
    have e4 := Ex.new (o := .lst (us ++ vs)) ht
    refine k _ t _ ((e2.trans e3).trans e4) (fresh_back (e2.trans e3) ht) upd_same ?_
    refine DqA.append (hus.mono fun a o z => ?_) (hvs.mono fun a o z => ?_)
    · obtain ⟨z1, z2⟩ := fr_inv (off_in L _ _ _ z)
      rw [off_at (fun c => by rw [c] at z1; rw [e3 _ _ z1] at ht; cases ht), fr_at z2]
      exact e4 _ _ (e3 _ _ z1)
    · obtain ⟨z1, z2⟩ := fr_inv (off_in r _ _ _ z)
      rw [off_at (fun c => by rw [c, ht] at z1; cases z1), fr_at fun l c => z2 l (e2 _ _ c)]
      exact e4 _ _ z1
end
end Wk

set_option Elab.async false
set_option linter.all false
set_option maxRecDepth 100000
set_option maxHeartbeats 4000000
namespace Wk
open PySem PySem.Spec PyProof.Rows L2 Evl
section
variable {K : PySem.W.Frag} {σ : L2.St} {H : Hp}
/-- (v,) + t not in row -/
theorem ev_ninCat {tv tt tr : TE} {v : Int} {x : V} {w : Wy} {row : List Wy} {rv : V} (hv : Ev tv σ H (.int v)) (ht : Ev tt σ H x) (hx : Dq H x (wd w)) (hl : w.length ≤ 1000) (hr : Ev tr σ H rv) (hrow : Dq H rv (rd row)) :
    Ev (tOp (rNotInU K) (tOp (rCatA K) (tTup (tCons tv tNil)) tt) tr) σ H (.bl (!decide ((v :: w) ∈ row))) := fun H1 e Q q => by
  refine hv H1 e _ fun H2 e2 => ⟨by show 1 ≤ sizeLine; decide, fun t1 ht1 => ?_⟩
  have e3 := Ex.new (o := .tup [V.int v]) ht1
  have h1 : (upd H2 t1 (.tup [V.int v])) t1 = some (.tup [V.int v]) := upd_same
  have e03 := (e.trans e2).trans e3
  generalize upd H2 t1 (.tup [V.int v]) = H3 at *
  refine ht H3 e03 _ fun H4 e4 => ?_
  obtain ⟨a, rfl, ha⟩ := wd_ref (hx.mono (e03.trans e4))
  have fin : ∀ (H5 : Hp) (b : Addr), Ex H4 H5 → H5 b = some (.tup ((v :: w).map V.int)) → tr σ H5 fun y H6 => rNotInU K (.ref b) y H6 Q := fun H5 b e5 hb => by
    have e05 := (e03.trans e4).trans e5
    refine hr H5 e05 _ fun H6 e6 => ?_
    refine ⟨wd (v :: w), row.map wd, dp_of_wd (st_of (e6 _ _ hb)), ?_, shaped_wd _, lay_wds row, ?_⟩
    · exact Dq.dp (by simp only [PyData.canLay0]; exact lay_wds row) (hrow.mono (e05.trans e6))
    · rw [any_wd]
      exact q H6 (((e2.trans e3).trans e4).trans (e5.trans e6))
  refine ⟨t1, a, [.int v], w.map V.int, rfl, rfl, st_of (e4 _ _ h1), st_of ha, by rw [List.length_map, sizeLine_eq]; show 1 + w.length ≤ _; omega, (fun z => by cases z), fun _ z => ?_, fun _ _ r hr => ?_⟩
  · have : w = [] := List.map_eq_nil_iff.mp z
    subst this
    exact fin H4 t1 (Ex.refl _) (e4 _ _ h1)
  · exact fin _ r (Ex.new hr) upd_same
/-- t[:i] + (x,) + t[i + 1:] -/
theorem es_put {ta tx ti : TE} {a : Addr} {xs : List V} {x : V} {i : Nat} (ha : Ev ta σ H (.ref a)) (hs : H a = some (.tup xs)) (hx : Ev tx σ H x) (hi : Ev ti σ H (.int (i : Int))) (hl : i < xs.length) (h9 : xs.length ≤ 1000) :
    EvS (tOp (rCatA K) (tOp (rCatA K) (tSl (rSlA K) ta tNoPart (tPart ti)) (tTup (tCons tx tNil))) (tSl (rSlA K) ta (tPart (tOp (rI0 fun a b => .int (a + b)) ti (tC (.int 1)))) tNoPart)) σ H (xs.set i x) := by
  rw [← set_cut hl]
  refine es_cat (es_cat (es_sl (K := K) ha eo_none (eo_some hi) hs) (es_tup (ea_cons hx ea_nil) (by simp)) ?_) (es_sl (K := K) ha (eo_some (ev_op hi ev_c rv_I0)) eo_none hs) ?_
  · rw [cut_to xs i (by omega), List.length_take]; simp; omega
  · rw [cut_to xs i (by omega), show ((i : Int) + 1) = ((i + 1 : Nat) : Int) by omega, cut_from xs (i + 1) (by omega), List.length_append, List.length_take, List.length_drop]; simp; omega
end
section
variable {P : Program} {w : World} {K : PySem.W.Frag} {mg : Str → Option Value} {base : Heap} {f : Addr} {fd : FuncData}
/-! _law_is_open -/
def spOpn : Sp := fun vs H Q _ => ∃ (L tb wa : Addr) (lls vs0 : List V) (rows : List (List Wy)) (ks row : List Wy) (r : Nat) (wy : Wy), vs = [.ref L, .ref tb, .ref wa] ∧ H L = some (.lst lls) ∧ DqA H lls ((linesW rows).map wd) ∧ H tb = some (.tup vs0) ∧ DqA H vs0 (ks.map wd) ∧ H wa = some (.tup (wy.map V.int)) ∧
  GW rows ∧ rows.length ≤ 8 ∧ ks.length = (linesW rows).length ∧ rows[r]? = some row ∧ wy ∈ row ∧ ∀ H', Ex H H' → Q (.bl (hrB rows ks r wy)) H'
abbrev sOpn : Stmt := top 47
abbrev nOpn : List Str := ["_law_lines_here", "_law_told", "_law_way"]
theorem scOpn : FnScope nOpn ["_law_lines_here", "_law_told", "_law_way"] (defScope sOpn) := ⟨rfl, rfl, rfl, by decide +kernel, rfl, by decide +kernel, by decide +kernel⟩
theorem ok_opn (B : Bl mg) (F : FnP K "_law_is_open" sOpn f fd) : FnOk P w K mg base CX0 1 f fd ["_law_lines_here", "_law_told", "_law_way"] spOpn := by
  refine F.ok scOpn (fun vs H Q E h => ?_) (fun cdv A outer s H vs Q E hr h => ?_)
  · obtain ⟨L, tb, wa, lls, vs0, rows, ks, row, r, wy, rfl, _⟩ := h
    rfl
  · obtain ⟨L, tb, wa, lls, vs0, rows, ks, row, r, wy, rfl, hL, hlls, htb, hvs, hwa, hG, h8, hkl, hrw, hwm, k⟩ := h
    have hu : (A.deeper (envOfC "_law_is_open" (defScope sOpn) s.heap.objs.size f cdv)).units + 66 < cLine := by have := hr.un; omega
    have hu5 : (A.deeper (envOfC "_law_is_open" (defScope sOpn) s.heap.objs.size f cdv)).units + 65 < cLine := by omega
    have hu4 : (A.deeper (envOfC "_law_is_open" (defScope sOpn) s.heap.objs.size f cdv)).units + 64 < cLine := by omega
    refine ⟨_, pss_cons (ps_if (pt_cmpR op_eq (pe_callB call_len_seq (by rfl) B.len PySem.boot_len (pa_cons (pv 2) pa_nil)) pe_int (nomark _)) (pss_one (ps_ret pe_bl)) pss_nil)
      (pss_one (ps_ret (pe_cmpR (op_eqD hu4) (pe_ix ix_tup (pv 1) (pe_bm PySem.F.plainAttrs_list PySem.F.slot_list_index PySem.F.type_list_index (mt_indexD hu5) (pv 0) (pa_cons (pe_tup (pa_cons (pe_ix ix_tup (pv 2) pe_int (fun _ _ => rfl)) (pa_cons (pe_ix ix_tup (pv 2) pe_int (fun _ _ => rfl)) pa_nil))) pa_nil)) (fun _ _ => rfl)) (pe_slice sl_tupA (pv 2) (po_some pe_int) po_none) (nomark _)))), ?_⟩
    have hll := lnw_len rows
    have ok := hG.ok r row hrw wy hwm
    have wl2 := ok.l2
    have v2 : ∀ {H3 : Hp}, Ev (tVar 2) [some (.ref L), some (.ref tb), some (.ref wa)] H3 (.ref wa) := ev_var rfl
    have c1 : Ev (tOp rEq (tCB (rLenS K) (tCons (tVar 2) tNil)) (tC (.int 2))) [some (.ref L), some (.ref tb), some (.ref wa)] H (.bl (decide (wy.length = 2))) := by
      refine ev_is (ev_op (ev_lenT (K := K) v2 (st_of hwa)) ev_c (rv_eq rfl)) ?_
      rw [int_dec, List.length_map]
      congr 1
      rw [decide_eq_decide]
      constructor
      · intro z; omega
      · intro z; omega
    refine q_when (b := decide (wy.length = 2)) (et_test c1) (fun hb H1 e1 => ?_) (fun hb H1 e1 => ?_)
    · have eb : hrB rows ks r wy = true := by unfold hrB; rw [hb]; rfl
      rw [eb] at k
      exact ret_any (k H1 e1)
    · have hn2' := of_decide_eq_false hb
      have hln : [wy.getD 1 0, (r : Int)] ∈ linesW rows := ln_way hG h8 hrw hwm (wy_sec ok hn2')
      have hkx : (linesW rows).idxOf [wy.getD 1 0, (r : Int)] < ks.length := by rw [hkl]; exact List.idxOf_lt_length_iff.mpr hln
      have hkg := List.getElem?_eq_getElem hkx
      have egk : ks.getD ((linesW rows).idxOf [wy.getD 1 0, (r : Int)]) [] = ks[(linesW rows).idxOf [wy.getD 1 0, (r : Int)]] := by rw [List.getD_eq_getElem?_getD, hkg]; rfl
      obtain ⟨kv, hkv, hkd⟩ := (hvs.mono e1).at (d := wd ks[(linesW rows).idxOf [wy.getD 1 0, (r : Int)]]) (by rw [List.getElem?_map, hkg]; rfl)
      have eb : hrB rows ks r wy = decide (ks[(linesW rows).idxOf [wy.getD 1 0, (r : Int)]] = wy.drop 1) := by unfold hrB; rw [hb, egk]; rfl
      rw [eb] at k
      have hsec : (wy.map V.int)[1]? = some (.int (wy.getD 1 0)) := by
        rw [List.getElem?_map, List.getD_eq_getElem?_getD, List.getElem?_eq_getElem (show 1 < wy.length by omega)]
        rfl
      have hfst : (wy.map V.int)[0]? = some (.int (r : Int)) := by rw [List.getElem?_map, ok.hd]; rfl
      have hidx := ev_idxW (K := K) (tl := tVar 0) (ty := tTup (tCons (tOp (rIxT K) (tVar 2) (tC (.int 1))) (tCons (tOp (rIxT K) (tVar 2) (tC (.int 0))) tNil))) (p := [wy.getD 1 0, (r : Int)]) (σ := [some (.ref L), some (.ref tb), some (.ref wa)]) (H := H1) (ev_var rfl) (e1 _ _ hL) (hlls.mono e1) (eu_tup (ea_cons (ev_at (K := K) (j := 1) v2 (st_of (e1 _ _ hwa)) (ev_is ev_c rfl) hsec) (ea_cons (ev_at (K := K) (j := 0) v2 (st_of (e1 _ _ hwa)) (ev_is ev_c rfl) hfst) ea_nil)) (by simp)) hln
      generalize (linesW rows).idxOf [wy.getD 1 0, (r : Int)] = ji at *
      refine ret_any (ev_is (w := .bl (decide (ks[ji] = wy.drop 1))) (ev_eqTail (K := K) (o := some ks[ji]) (u := wy.drop 1) (ev_at (K := K) (ev_var (i := 1) rfl) (st_of (e1 _ _ htb)) hidx hkv) (Dq.dp (SeqAt.canLay_of_shaped (shaped_wd _)) hkd) (eq_tail (K := K) v2 (st_of (e1 _ _ hwa)))) ?_ H1 (Ex.refl _) _ fun H2 e2 => k H2 (e1.trans e2))
      congr 1
      rw [decide_eq_decide]
      exact ⟨fun z => by injection z, fun z => by rw [z]⟩
end
end Wk

set_option Elab.async false
set_option linter.all false
set_option maxRecDepth 100000
set_option maxHeartbeats 4000000
namespace Wk
open PySem PySem.Spec PyProof.Rows L2 Evl
section
variable {P : Program} {w : World} {K : PySem.W.Frag} {mg : Str → Option Value} {base : Heap} {f : Addr} {fd : FuncData}
/-! _law_moved -/
abbrev sMv2 : Stmt := top 48
abbrev nMv2 : List Str := ["_law_lists_here", "_law_lines_here", "_law_stand", "_law_step", "_law_takes", "_law_told", "_law_found", "_law_way", "_law_place"]
theorem scMv2 : FnScope nMv2 ["_law_lists_here", "_law_lines_here", "_law_stand", "_law_step"] (defScope sMv2) := ⟨rfl, rfl, rfl, by decide +kernel, rfl, by decide +kernel, by decide +kernel⟩
theorem ok_mv2 (B : Bl mg) (CO : Cal P w K mg base "_law_is_open" ["_law_lines_here", "_law_told", "_law_way"] 1 spOpn) (F : FnP K "_law_moved" sMv2 f fd) : FnOk P w K mg base CX0 2 f fd ["_law_lists_here", "_law_lines_here", "_law_stand", "_law_step"] spMoved := by
  refine F.ok scMv2 (fun vs H Q E h => ?_) (fun cdv A outer s H vs Q E hr h => ?_)
  · obtain ⟨lv, sv, stv, L, lls, rows, ts, ks, s, rfl, _⟩ := h
    rfl
  · obtain ⟨lv, sv, stv, L, lls, rows, ts, ks, st, rfl, hl, hG, h8, h6, hL, hlls, hsv, hsh, hst, hok, k⟩ := h
    have hu : (A.deeper (envOfC "_law_moved" (defScope sMv2) s.heap.objs.size f cdv)).units + 66 < cLine := by have := hr.un; omega
    have hu5 : (A.deeper (envOfC "_law_moved" (defScope sMv2) s.heap.objs.size f cdv)).units + 65 < cLine := by omega
    have hu4 : (A.deeper (envOfC "_law_moved" (defScope sMv2) s.heap.objs.size f cdv)).units + 64 < cLine := by omega
    refine ⟨_, pss_cons (ps_set (i := 4) scMv2.nd rfl (Or.inl rfl) (pe_ix ix_tup (pv 2) pe_int (fun _ _ => rfl)))
      (pss_cons (ps_set (i := 5) scMv2.nd rfl (Or.inl rfl) (pe_ix ix_tup (pv 2) pe_int (fun _ _ => rfl)))
      (pss_cons (ps_if (pt_cmpR op_eq (pe_ix ix_tup (pv 3) pe_int (fun _ _ => rfl)) pe_str (nomark _))
        (pss_cons (ps_set (i := 6) scMv2.nd rfl (Or.inl rfl) (pe_tup pa_nil))
        (pss_cons (ps_for (passes_of rfl) rfl (pi_tup (pe_ix ix_tup (pv 0) (pe_ix ix_tup (pv 3) pe_int (fun _ _ => rfl)) (fun _ _ => rfl))) (pg_name (i := 7) scMv2.nd rfl (Or.inl rfl))
          (pss_one (ps_if (PW.pt (pw_and (pt_cmpR (op_eqD hu4) (pv 6) (pe_tup pa_nil) (nomark _)) (pw_and1 (pt_val (pe_cal CO hr (by rfl) (pa_cons (pv 1) (pa_cons (pv 5) (pa_cons (pv 7) pa_nil))))))))
            (pss_one (ps_set (i := 6) scMv2.nd rfl (Or.inl rfl) (pv 7))) pss_nil)))
        (pss_one (ps_ret (pe_tup (pa_cons (pe_op (op_catAK (K := K) rfl) (pe_op (op_catAK (K := K) rfl) (pe_slice (sl_tupK (K := K) rfl) (pv 4) po_none (po_some (pe_ix ix_tup (pv 3) pe_int (fun _ _ => rfl)))) (pe_tup (pa_cons (pv 6) pa_nil)))
            (pe_slice (sl_tupK (K := K) rfl) (pv 4) (po_some (pe_op op_add (pe_ix ix_tup (pv 3) pe_int (fun _ _ => rfl)) pe_int)) po_none)) (pa_cons (pv 5) pa_nil))))))) pss_nil)
      (pss_cons (ps_set (i := 8) scMv2.nd rfl (Or.inl rfl) (pe_bm PySem.F.plainAttrs_list PySem.F.slot_list_index PySem.F.type_list_index (mt_indexD hu5) (pv 1) (pa_cons (pe_tup (pa_cons (pe_ix ix_tup (pv 3) pe_int (fun _ _ => rfl)) (pa_cons (pe_ix ix_tup (pv 3) pe_int (fun _ _ => rfl)) pa_nil))) pa_nil)))
      (pss_cons (ps_set (i := 7) scMv2.nd rfl (Or.inl rfl) (pe_ix ix_tup (pv 4) (pe_ix ix_tup (pv 3) pe_int (fun _ _ => rfl)) (fun _ _ => rfl)))
      (pss_cons (ps_if (pt_cmpR (op_notInU hu) (pe_op op_catA (pe_tup (pa_cons (pe_ix ix_tup (pv 3) pe_int (fun _ _ => rfl)) pa_nil)) (pv 7)) (pe_ix ix_tup (pv 0) (pe_ix ix_tup (pv 3) pe_int (fun _ _ => rfl)) (fun _ _ => rfl)) rfl)
          (pss_one (ps_set (i := 7) scMv2.nd rfl (Or.inl rfl) (pe_tup pa_nil))) pss_nil)
      (pss_one (ps_ret (pe_tup (pa_cons (pv 4) (pa_cons (pe_op (op_catAK (K := K) rfl) (pe_op (op_catAK (K := K) rfl) (pe_slice (sl_tupK (K := K) rfl) (pv 5) po_none (po_some (pv 8))) (pe_tup (pa_cons (pv 7) pa_nil)))
            (pe_slice (sl_tupK (K := K) rfl) (pv 5) (po_some (pe_op op_add (pv 8) pe_int)) po_none)) pa_nil)))))))))), ?_⟩
    have hlw : ∃ la lxs, lv = .ref la ∧ H la = some (.tup lxs) ∧ DqA H lxs (rows.map rd) := by
      unfold pd at hl
      cases hl with
      | tup z1 z2 => exact ⟨_, _, rfl, z1, z2⟩
    obtain ⟨la, lxs, rfl, l1, l2⟩ := hlw
    unfold standD at hsv
    cases hsv with
    | tup s1 s2 =>
    rename_i sa svs
    cases s2 with
    | cons q1 q2 =>
    cases q2 with
    | cons q3 q4 =>
    cases q4
    cases q1 with
    | tup a1 a2 =>
    cases q3 with
    | tup b1 b2 =>
    rename_i ta us0 tb vs0
    have hll := lnw_len rows
    have hkl := hsh.kl
    have htl := hsh.tl
    have hus0 := a2.length
    rw [List.length_map, hsh.tl] at hus0
    have hvs0 := b2.length
    rw [List.length_map, hsh.kl] at hvs0
    refine q_asg (ev_at (K := K) (j := 0) (ev_var (i := 2) rfl) (st_of s1) (ev_is ev_c rfl) rfl) fun H1 e1 => ?_
    refine q_asg (ev_at (K := K) (j := 1) (ev_var (i := 2) rfl) (st_of (e1 _ _ s1)) (ev_is ev_c rfl) rfl) fun H2 e2 => ?_
    have e02 := e1.trans e2
    change tSeq _ _ _ [some (.ref la), some (.ref L), some (.ref sa), some stv, some (.ref ta), some (.ref tb), none, none, none] H2
    cases st with
    | inl p =>
      obtain ⟨u, v, rfl, hu1, hun, hv1, hvn⟩ := ln_shape hG h8 hok
      cases hst with
      | tup t1 t2 =>
      rename_i sta stvs
      have estv : stvs = [.str "tell", .int (u : Int), .int (v : Int)] := by
        have t2' : DqA H stvs [.str "tell", .int (u : Int), .int (v : Int)] := t2
        cases t2' with
        | cons z1 z2 =>
        cases z1
        cases z2 with
        | cons z3 z4 =>
        cases z3
        cases z4 with
        | cons z5 z6 =>
        cases z5
        cases z6
        rfl
      subst estv
      have v3 : ∀ {H3 : Hp} {o6 o7 o8 : Option V}, Ev (tVar 3) [some (.ref la), some (.ref L), some (.ref sa), some (.ref sta), some (.ref ta), some (.ref tb), o6, o7, o8] H3 (.ref sta) := ev_var rfl
      have st1 : ∀ {H3 : Hp} {o6 o7 o8 : Option V}, Ex H H3 → Ev (tOp (rIxT K) (tVar 3) (tC (.int 1))) [some (.ref la), some (.ref L), some (.ref sa), some (.ref sta), some (.ref ta), some (.ref tb), o6, o7, o8] H3 (.int (u : Int)) := fun e => ev_at (K := K) (j := 1) v3 (st_of (e _ _ t1)) (ev_is ev_c rfl) rfl
      have st2 : ∀ {H3 : Hp} {o6 o7 o8 : Option V}, Ex H H3 → Ev (tOp (rIxT K) (tVar 3) (tC (.int 2))) [some (.ref la), some (.ref L), some (.ref sa), some (.ref sta), some (.ref ta), some (.ref tb), o6, o7, o8] H3 (.int (v : Int)) := fun e => ev_at (K := K) (j := 2) v3 (st_of (e _ _ t1)) (ev_is ev_c rfl) rfl
      refine q_when (b := decide (V.str (Str.ofString "tell") = V.str (Str.ofString "choose"))) (et_test (ev_op (ev_at (K := K) (j := 0) v3 (st_of (e02 _ _ t1)) (ev_is ev_c rfl) rfl) ev_c (rv_eq rfl))) (fun hb => absurd hb (by decide +kernel)) (fun _ H3 e3 => ?_)
      have e03 := e02.trans e3
      have hix : (linesW rows).idxOf [(u : Int), (v : Int)] < ks.length := by rw [hsh.kl]; exact List.idxOf_lt_length_iff.mpr hok
      refine q_asg (ev_idxW (K := K) (p := [(u : Int), (v : Int)]) (ev_var (i := 1) rfl) (e03 _ _ hL) (hlls.mono e03) (eu_tup (ea_cons (st1 e03) (ea_cons (st2 e03) ea_nil)) (by simp)) hok) fun H4 e4 => ?_
      generalize hji : (linesW rows).idxOf [(u : Int), (v : Int)] = ji at *
      have e04 := e03.trans e4
      change tSeq _ _ _ [some (.ref la), some (.ref L), some (.ref sa), some (.ref sta), some (.ref ta), some (.ref tb), none, none, some (.int (ji : Int))] H4
      have hut : u < ts.length := by rw [hsh.tl]; exact hun
      have htu : ts[u]? = some ts[u] := List.getElem?_eq_getElem hut
      have ht8 := (hsh.t8 _ (List.getElem_mem hut)).1
      obtain ⟨xu, hxu, hdu⟩ := a2.at (i := u) (d := wd ts[u]) (by rw [List.getElem?_map, htu]; rfl)
      have hrw : rows[v]? = some rows[v] := List.getElem?_eq_getElem hvn
      obtain ⟨rv, hrv, hdr⟩ := l2.at (i := v) (d := rd rows[v]) (by rw [List.getElem?_map, hrw]; rfl)
      have etw : tellW rows ts [(u : Int), (v : Int)] = if ((v : Int) :: ts[u]) ∈ rows[v] then ts[u] else [] := by
        unfold tellW
        show (if ((v : Int) :: ts.getD ((u : Int)).toNat []) ∈ rows.getD ((v : Int)).toNat [] then ts.getD ((u : Int)).toNat [] else []) = _
        have g1 : ts.getD u [] = ts[u] := by rw [List.getD_eq_getElem?_getD, htu]; rfl
        have g2 : rows.getD v [] = rows[v] := by rw [List.getD_eq_getElem?_getD, hrw]; rfl
        rw [Int.toNat_natCast, Int.toNat_natCast, g1, g2]
      have emv : mvW rows ts ks (.inl [(u : Int), (v : Int)]) = (ts, ks.set ji (tellW rows ts [(u : Int), (v : Int)])) := by
        show (ts, ks.set ((linesW rows).idxOf [(u : Int), (v : Int)]) _) = _
        rw [hji]
      rw [emv, etw] at k
      generalize ts[u] = tu at *
      generalize rows[v] = row at *
      refine q_asg (v := xu) (ev_at (K := K) (ev_var (i := 4) rfl) (st_of (e04 _ _ a1)) (st1 e04) hxu) fun H5 e5 => ?_
      have e05 := e04.trans e5
      change tSeq _ _ _ [some (.ref la), some (.ref L), some (.ref sa), some (.ref sta), some (.ref ta), some (.ref tb), none, some xu, some (.int (ji : Int))] H5
      have fin : ∀ (H6 : Hp) (x : V) (o : Wy), Ex H H6 → Dq H6 x (wd o) → (∀ H' u, Ex H H' → Dq H' u (standD ts (ks.set ji o)) → Q u H') → tTup (tCons (tVar 4) (tCons (tOp (rCatA K) (tOp (rCatA K) (tSl (rSlA K) (tVar 5) tNoPart (tPart (tVar 8))) (tTup (tCons (tVar 7) tNil))) (tSl (rSlA K) (tVar 5) (tPart (tOp (rI0 fun a b => .int (a + b)) (tVar 8) (tC (.int 1)))) tNoPart)) tNil)) [some (.ref la), some (.ref L), some (.ref sa), some (.ref sta), some (.ref ta), some (.ref tb), none, some x, some (.int (ji : Int))] H6 Q := fun H6 x o e6 hx kk => by
        refine ⟨.ref ta, rfl, ?_⟩
        refine es_put (K := K) (i := ji) (ev_var (i := 5) rfl) (e6 _ _ b1) (ev_var (i := 7) rfl) (ev_var (i := 8) rfl) (by omega) (by omega) H6 (Ex.refl _) _ fun p H7 e7 hp => ⟨by show 2 ≤ sizeLine; decide, fun T hT => ?_⟩
        have e8 := Ex.new (o := .tup [V.ref ta, .ref p]) hT
        have e68 := e6.trans (e7.trans e8)
        exact kk _ _ e68 (.tup upd_same (.cons (.tup (e68 _ _ a1) (a2.mono e68)) (.cons (.tup (e8 _ _ hp) (dqa_set (hx.mono (e7.trans e8)) ji (b2.mono e68))) .nil)))
      refine q_when (b := !decide (((v : Int) :: tu) ∈ row)) (et_test (ev_ninCat (K := K) (st2 e05) (ev_var (i := 7) rfl) (hdu.mono e05) (by omega) (ev_at (K := K) (ev_var (i := 0) rfl) (st_of (e05 _ _ l1)) (st2 e05) hrv) (hdr.mono e05))) (fun hb H6 e6 => ?_) (fun hb H6 e6 => ?_)
      · refine s_asgU (eu_tup ea_nil (by simp)) fun p H7 _ e7 hp => ?_
        dsimp only
        refine ret_any ?_
        refine fin H7 (.ref p) [] (e05.trans (e6.trans e7)) (wd_of (w := []) hp) ?_
        rw [if_neg (by simpa using hb)] at k
        exact k
      · refine ret_any ?_
        refine fin H6 xu tu (e05.trans e6) (hdu.mono (e05.trans e6)) ?_
        rw [if_pos (by simpa using hb)] at k
        exact k
    | inr r =>
      obtain ⟨hr1, hrn⟩ := hok
      cases hst with
      | tup t1 t2 =>
      rename_i sta stvs
      have estv : stvs = [.str "choose", .int (r : Int)] := by
        cases t2 with
        | cons z1 z2 =>
        cases z1
        cases z2 with
        | cons z3 z4 =>
        cases z3
        cases z4
        rfl
      subst estv
      have v3 : ∀ {H3 : Hp} {o6 o7 o8 : Option V}, Ev (tVar 3) [some (.ref la), some (.ref L), some (.ref sa), some (.ref sta), some (.ref ta), some (.ref tb), o6, o7, o8] H3 (.ref sta) := ev_var rfl
      have st1 : ∀ {H3 : Hp} {o6 o7 o8 : Option V}, Ex H H3 → Ev (tOp (rIxT K) (tVar 3) (tC (.int 1))) [some (.ref la), some (.ref L), some (.ref sa), some (.ref sta), some (.ref ta), some (.ref tb), o6, o7, o8] H3 (.int (r : Int)) := fun e => ev_at (K := K) (j := 1) v3 (st_of (e _ _ t1)) (ev_is ev_c rfl) rfl
      refine q_when (b := decide (V.str (Str.ofString "choose") = V.str (Str.ofString "choose"))) (et_test (ev_op (ev_at (K := K) (j := 0) v3 (st_of (e02 _ _ t1)) (ev_is ev_c rfl) rfl) ev_c (rv_eq rfl))) (fun _ H3 e3 => ?_) (fun hb => by simp at hb)
      have e03 := e02.trans e3
      refine q_asgU (eu_tup ea_nil (by simp)) fun pe H4 _ e4 hpe => ?_
      have e04 := e03.trans e4
      change tSeq _ _ _ [some (.ref la), some (.ref L), some (.ref sa), some (.ref sta), some (.ref ta), some (.ref tb), some (.ref pe), none, none] H4
      have hrw : rows[r]? = some rows[r] := List.getElem?_eq_getElem hrn
      have hwok : ∀ x ∈ rows[r], WyOk rows.length r x := hG.ok r _ hrw
      obtain ⟨rv, hrv, hdr⟩ := l2.at (i := r) (d := rd rows[r]) (by rw [List.getElem?_map, hrw]; rfl)
      have ech : chooseW rows ks r = fstW (hrB rows ks r) rows[r] := by
        unfold chooseW fstW
        rw [List.getD_eq_getElem?_getD, hrw]
        rfl
      have emv : mvW rows ts ks (.inr r) = (ts.set r (fstW (hrB rows ks r) rows[r]), ks) := by
        show (ts.set r (chooseW rows ks r), ks) = _
        rw [ech]
      rw [emv] at k
      have hwne : ∀ x ∈ rows[r], x ≠ [] := fun x hx z => by have := (hwok x hx).l2; rw [z] at this; simp at this
      generalize hrow : rows[r] = row at *
      have hrow6 := hdr.mono e04
      unfold rd at hrow6
      cases hrow6 with
      | tup w1 w2 =>
      rename_i ra rws
      have rwl := w2.length
      rw [List.length_map] at rwl
      refine q_forT (K := K) (ev_at (K := K) (ev_var (i := 0) rfl) (st_of (e04 _ _ l1)) (st1 e04) hrv) (st_of w1) (fun i σ' H' => ∃ (x : V) (o7 : Option V), σ' = [some (.ref la), some (.ref L), some (.ref sa), some (.ref sta), some (.ref ta), some (.ref tb), some x, o7, none] ∧ Ex H4 H' ∧ Dq H' x (wd (fstW (hrB rows ks r) (row.take i))))
        (fun H7 e7 => ⟨_, _, rfl, e7, by rw [List.take_zero]; exact wd_of (w := []) (e7 _ _ hpe)⟩) (fun i σ' H' _ h => by obtain ⟨_, _, _, h, _⟩ := h; exact st_of (h _ _ w1)) ?_ ?_
      · rintro i x σ' H7 hx ⟨x6, o7, rfl, e7, hx6⟩
        obtain ⟨wy, hw1, hw2⟩ := (w2.mono e7).wds_inv hx
        obtain ⟨wa, rfl, hwa⟩ := wd_ref hw2
        have hwm := List.mem_of_getElem? hw1
        have e07 := e04.trans e7
        refine g_name ?_
        change tIfS _ _ _ _ [some (.ref la), some (.ref L), some (.ref sa), some (.ref sta), some (.ref ta), some (.ref tb), some x6, some (.ref wa), none] H7
        have hstep := fst_step (f := hrB rows ks r) hw1 hwne
        refine s_when (b := decide (fstW (hrB rows ks r) (row.take i) = []) && hrB rows ks r wy) (et_and (et_test (rv_eqEm (K := K) (ev_var (i := 6) rfl) fun H9 e9 => Dp.up e9 (Dq.dp (SeqAt.canLay_of_shaped (shaped_wd _)) hx6))) fun _ => et_B fun H8 e8 Q8 q8 => ?_) (fun hb H9 e9 => ?_) (fun hb H9 e9 => ?_)
        · exact ⟨.ref L, rfl, .ref tb, rfl, .ref wa, rfl, L, tb, wa, lls, vs0, rows, ks, row, r, wy, rfl, (e07.trans e8) _ _ hL, hlls.mono (e07.trans e8), (e07.trans e8) _ _ b1, b2.mono (e07.trans e8), e8 _ _ hwa, hG, h8, hkl, hrw, hwm, fun H9 e9 => q8 H9 e9⟩
        · rw [Bool.and_comm] at hb
          rw [if_pos hb] at hstep
          refine s_asg (ev_var (i := 7) rfl) fun H10 e10 => ⟨.ref wa, _, rfl, e7.trans (e9.trans e10), ?_⟩
          rw [hstep]
          exact wd_of ((e9.trans e10) _ _ hwa)
        · rw [Bool.and_comm] at hb
          rw [if_neg (by rw [hb]; decide)] at hstep
          refine ⟨x6, _, rfl, e7.trans e9, ?_⟩
          rw [hstep]
          exact hx6.mono e9
      · rintro σ' H7 ⟨x6, o7, rfl, e7, hx6⟩
        rw [rwl, List.take_length] at hx6
        have e07 := e04.trans e7
        refine ret_any ?_
        refine es_put (K := K) (i := r) (ev_var (i := 4) rfl) (e07 _ _ a1) (ev_var (i := 6) rfl) (st1 e07) (by omega) (by omega) H7 (Ex.refl _) _ fun p H8 e8 hp => ⟨.ref tb, rfl, by show 2 ≤ sizeLine; decide, fun T hT => ?_⟩
        have e9 := Ex.new (o := .tup [V.ref p, .ref tb]) hT
        have e79 := e07.trans (e8.trans e9)
        exact k _ _ e79 (.tup upd_same (.cons (.tup (e9 _ _ hp) (dqa_set (hx6.mono (e8.trans e9)) r (a2.mono e79))) (.cons (.tup (e79 _ _ b1) (b2.mono e79)) .nil)))
end
end Wk

set_option Elab.async false
set_option linter.all false
set_option maxRecDepth 100000
set_option maxHeartbeats 4000000
namespace Wk
open PySem PySem.Spec PyProof.Rows L2 Evl
theorem dp_wd22 {K : PySem.W.Frag} {H : Hp} {v : V} {w : Wy} (h : Dq H v (wd w)) : Dp K H v (wd w) := Dq.dp (SeqAt.canLay_of_shaped (shaped_wd _)) h
/-- x != y, ways -/
theorem ev_neWd {K : PySem.W.Frag} {ta tb : TE} {σ : L2.St} {H : Hp} {u v : V} {x y : Wy} (ha : Ev ta σ H u) (hb : Ev tb σ H v) (hu : Dq H u (wd x)) (hv : Dq H v (wd y)) : Ev (tOp (rNeD K) ta tb) σ H (.bl (!decide (x = y))) :=
  ev_op ha hb fun H1 e1 Q q => ⟨wd x, wd y, dp_wd22 (hu.mono e1), dp_wd22 (hv.mono e1), shaped_wd _, shaped_wd _, by
    rw [eqv_wd]
    exact q H1 (Ex.refl _)⟩
theorem pss_wd {H : Hp} {us : List V} {ss : List Stp} {i : Nat} {y : V} (h : DqA H us (ss.map stepD)) (hy : us[i]? = some y) : ∃ s, ss[i]? = some s ∧ Dq H y (stepD s) := by
  obtain ⟨d, h1, h2⟩ := h.get hy
  rw [List.getElem?_map] at h1
  cases hs : ss[i]? with
  | none => rw [hs] at h1; cases h1
  | some s =>
    rw [hs] at h1
    obtain rfl : stepD s = d := Option.some.inj h1
    exact ⟨s, rfl, h2⟩
section
variable {P : Program} {w : World} {K : PySem.W.Frag} {mg : Str → Option Value} {base : Heap} {f : Addr} {fd : FuncData}
/-! _law_moves -/
def spMvs : Sp := fun vs H Q _ => ∃ (lv sv : V) (L M : Addr) (lls ms : List V) (rows : List (List Wy)) (ts ks : List Wy), vs = [lv, .ref L, .ref M, sv] ∧ Dq H lv (pd rows) ∧ GW rows ∧ 2 ≤ rows.length ∧ rows.length ≤ 8 ∧ (∀ row ∈ rows, row.length ≤ 6) ∧ H L = some (.lst lls) ∧ DqA H lls ((linesW rows).map wd) ∧ H M = some (.lst ms) ∧ DqA H ms (stepsD rows) ∧ Dq H sv (standD ts ks) ∧ ShS rows ts ks ∧ Rst rows ts ks ∧
  ∀ H' l, Ex H H' → H' l = some (.lst []) → Q (.ref l) H'
abbrev sMvs : Stmt := top 49
abbrev nMvs : List Str := ["_law_lists_here", "_law_lines_here", "_law_steps_here", "_law_stand", "_law_moves_here", "_law_step", "_law_after"]
theorem scMvs : FnScope nMvs ["_law_lists_here", "_law_lines_here", "_law_steps_here", "_law_stand"] (defScope sMvs) := ⟨rfl, rfl, rfl, by decide +kernel, rfl, by decide +kernel, by decide +kernel⟩
theorem ok_mvs (B : Bl mg) (CM : Cal P w K mg base "_law_moved" ["_law_lists_here", "_law_lines_here", "_law_stand", "_law_step"] 2 spMoved) (F : FnP K "_law_moves" sMvs f fd) : FnOk P w K mg base CX0 3 f fd ["_law_lists_here", "_law_lines_here", "_law_steps_here", "_law_stand"] spMvs := by
  refine F.ok scMvs (fun vs H Q E h => ?_) (fun cdv A outer s H vs Q E hr h => ?_)
  · obtain ⟨lv, sv, L, M, lls, ms, rows, ts, ks, rfl, _⟩ := h
    rfl
  · obtain ⟨lv, sv, L, M, lls, ms, rows, ts, ks, rfl, hl, hG, h2, h8, h6, hL, hlls, hM, hms, hsv, hsh, hR, k⟩ := h
    have hu4 : (A.deeper (envOfC "_law_moves" (defScope sMvs) s.heap.objs.size f cdv)).units + 64 < cLine := by have := hr.un; omega
    refine ⟨_, pss_cons (ps_set (i := 4) scMvs.nd rfl (Or.inl rfl) (pe_lst pa_nil))
      (pss_cons (ps_for (passes_of rfl) rfl (pi_list (pv 2)) (pg_name (i := 5) scMvs.nd rfl (Or.inl rfl))
        (pss_cons (ps_set (i := 6) scMvs.nd rfl (Or.inl rfl) (pe_cal CM hr (by rfl) (pa_cons (pv 0) (pa_cons (pv 1) (pa_cons (pv 3) (pa_cons (pv 5) pa_nil))))))
        (pss_one (ps_if (pt_cmpR (op_neD hu4) (pv 6) (pv 3) (nomark _))
          (pss_one (ps_expr (pe_bm PySem.F.plainAttrs_list PySem.F.slot_list_append PySem.F.type_list_append mt_append (pv 4) (pa_cons (pe_tup (pa_cons (pv 5) (pa_cons (pv 6) pa_nil))) pa_nil)))) pss_nil))))
      (pss_one (ps_ret (pv 4)))), ?_⟩
    have hst : ∀ s ∈ stepsW rows, mvW rows ts ks s = (ts, ks) := fun s hs => by
      have z := (due_rest h2 hsh.tl hsh.kl).mpr hR
      unfold dueW at z
      rw [List.filter_eq_nil_iff] at z
      simpa using z s hs
    rw [stepsD_W] at hms
    refine q_asgL (el_lst ea_nil (by simp)) fun D H1 gD e1 hD => ?_
    change tSeq _ _ _ [some lv, some (.ref L), some (.ref M), some sv, some (.ref D), none, none] H1
    refine q_forL (K := K) (ev_var (i := 2) rfl) (sq_of (e1 _ _ hM)) (fun i σ' H' => Ex H1 H' ∧ ∃ o5 o6, σ' = [some lv, some (.ref L), some (.ref M), some sv, some (.ref D), o5, o6]) (fun H2 e2 => ⟨e2, _, _, rfl⟩) (fun i σ' H' _ h => sq_of (h.1 _ _ (e1 _ _ hM))) ?_ ?_
    · rintro i y σ' H2 hy ⟨e2, o5, o6, rfl⟩
      obtain ⟨s', g1, g2⟩ := pss_wd hms hy
      have hm := List.mem_of_getElem? g1
      have hok := (stepsW_ok h2).mp hm
      have e02 := e1.trans e2
      refine g_name ?_
      change tSeq _ _ _ [some lv, some (.ref L), some (.ref M), some sv, some (.ref D), some y, o6] H2
      refine q_asgG ⟨lv, rfl, .ref L, rfl, sv, rfl, y, rfl, lv, sv, y, L, lls, rows, ts, ks, s', rfl, hl.mono e02, hG, h8, h6, e02 _ _ hL, hlls.mono e02, hsv.mono e02, hsh, g2.mono e02, hok, fun H3 u e3 hu3 => ?_⟩
      rw [hst s' hm] at hu3
      refine g_name ?_
      change tIfS _ _ _ _ [some lv, some (.ref L), some (.ref M), some sv, some (.ref D), some y, some u] H3
      have c1 : Ev (tOp (rNeD K) (tVar 6) (tVar 3)) [some lv, some (.ref L), some (.ref M), some sv, some (.ref D), some y, some u] H3 (.bl (!decide ((ts, ks) = (ts, ks)))) :=
        ev_op (ev_var rfl) (ev_var rfl) fun H4 e4 Q4 q4 => ⟨standD ts ks, standD ts ks, Dq.dp (lay_stand ts ks) (hu3.mono e4), Dq.dp (lay_stand ts ks) (hsv.mono ((e02.trans e3).trans e4)), shaped_stand _ _, shaped_stand _ _, by
          rw [eqv_stand]
          exact q4 H4 (Ex.refl _)⟩
      refine s_when (b := !decide ((ts, ks) = (ts, ks))) (et_test c1) (fun hb => by simp at hb) fun _ H4 e4 => ⟨(e2.trans e3).trans e4, _, _, rfl⟩
    · rintro σ' H2 ⟨e2, o5, o6, rfl⟩
      exact ret_any ⟨.ref D, rfl, k H2 D (e1.trans e2) (e2 _ _ hD)⟩
/-! _law_is_outcome -/
def spIso : Sp := fun vs H Q _ => ∃ (lv tv : V) (rows : List (List Wy)) (ts : List Wy), vs = [lv, tv] ∧ Dq H lv (pd rows) ∧ GW rows ∧ 2 ≤ rows.length ∧ rows.length ≤ 8 ∧ Dq H tv (.tuple (ts.map wd)) ∧ FullT rows ts ∧ ∀ H', Ex H H' → Q (.bl (okP rows ts)) H'
abbrev sIso : Stmt := top 52
abbrev nIso : List Str := ["_law_lists_here", "_law_taking", "_law_router", "_law_best", "_law_way"]
theorem scIso : FnScope nIso ["_law_lists_here", "_law_taking"] (defScope sIso) := ⟨rfl, rfl, rfl, by decide +kernel, rfl, by decide +kernel, by decide +kernel⟩
theorem ok_iso (B : Bl mg) (F : FnP K "_law_is_outcome" sIso f fd) : FnOk P w K mg base CX0 1 f fd ["_law_lists_here", "_law_taking"] spIso := by
  refine F.ok scIso (fun vs H Q E h => ?_) (fun cdv A outer s H vs Q E hr h => ?_)
  · obtain ⟨lv, tv, rows, ts, rfl, _⟩ := h
    rfl
  · obtain ⟨lv, tv, rows, ts, rfl, hl, hG, h2, h8, ht, hT, k⟩ := h
    have hu4 : (A.deeper (envOfC "_law_is_outcome" (defScope sIso) s.heap.objs.size f cdv)).units + 64 < cLine := by have := hr.un; omega
    refine ⟨_, pss_cons (ps_for (passes_of rfl) rfl (pi_range2 (by rfl) B.range (pa_cons pe_int (pa_cons (pe_callB call_len_seq (by rfl) B.len PySem.boot_len (pa_cons (pv 0) pa_nil)) pa_nil))) (pg_name (i := 2) scIso.nd rfl (Or.inl rfl))
        (pss_cons (ps_set (i := 3) scIso.nd rfl (Or.inl rfl) (pe_tup pa_nil))
        (pss_cons (ps_for (passes_of rfl) rfl (pi_tup (pe_ix ix_tup (pv 0) (pv 2) (fun _ _ => rfl))) (pg_name (i := 4) scIso.nd rfl (Or.inl rfl))
          (pss_one (ps_if (PW.pt (pw_and (pt_cmpR (op_eqD hu4) (pv 3) (pe_tup pa_nil) (nomark _)) (pw_and1 (PW.pt (pw_or (pt_cmpR op_eq (pe_callB call_len_seq (by rfl) B.len PySem.boot_len (pa_cons (pv 4) pa_nil)) pe_int (nomark _))
              (pw_or1 (pt_cmpR (op_eqD hu4) (pe_ix ix_tup (pv 1) (pe_ix ix_tup (pv 4) pe_int (fun _ _ => rfl)) (fun _ _ => rfl)) (pe_slice sl_tupA (pv 4) (po_some pe_int) po_none) (nomark _))))))))
            (pss_one (ps_set (i := 3) scIso.nd rfl (Or.inl rfl) (pv 4))) pss_nil)))
        (pss_one (ps_if (pt_cmpR (op_neD hu4) (pv 3) (pe_ix ix_tup (pv 1) (pv 2) (fun _ _ => rfl)) (nomark _)) (pss_one (ps_ret pe_bl)) pss_nil)))))
      (pss_one (ps_ret pe_bl)), ?_⟩
    have hlw : ∃ la lxs, lv = .ref la ∧ H la = some (.tup lxs) ∧ DqA H lxs (rows.map rd) := by
      unfold pd at hl
      cases hl with
      | tup z1 z2 => exact ⟨_, _, rfl, z1, z2⟩
    obtain ⟨la, lxs, rfl, l1, l2⟩ := hlw
    cases ht with
    | tup t1 t2 =>
    rename_i ta txs
    have lxl := l2.length
    rw [List.length_map] at lxl
    have hok := okP_ls hG h2 hT
    have htl := hT.len
    have fin : ∀ {r : Nat}, 1 ≤ r → r < rows.length → ∀ x, ts[r]? = some x → best (ts.map some) (rows.getD r []) ≠ x → okP rows ts = false := fun {r} h1 hr x hx hn => by
      rw [hok]
      cases hq : lsB rows (ts.map some) (rows.length - 1) 1 with
      | false => rfl
      | true =>
        have z := ls_iff.mp hq r h1 (by omega)
        rw [List.getD_eq_getElem?_getD, List.getElem?_map, hx] at z
        exact absurd (Option.some.inj z).symm hn
    refine q_forR2 (lo := 1) (n := (rows.length : Int)) (ea_cons ev_c (ea_cons (by rw [← lxl]; exact ev_lenT (K := K) (ev_var (i := 0) rfl) (st_of l1)) ea_nil)) ⟨by omega, by omega, by omega, by omega⟩ (fun i σ' H' => Ex H H' ∧ (∃ o2 o3 o4, σ' = [some (.ref la), some (.ref ta), o2, o3, o4]) ∧ ∀ r, 1 ≤ r → r < 1 + i → (ts.map some).getD r none = some (best (ts.map some) (rows.getD r [])))
      (fun H1 e1 => ⟨e1, ⟨_, _, _, rfl⟩, fun r h1 h2 => by omega⟩) ?_ ?_
    · rintro i σ' H1 hi ⟨e1, ⟨o2, o3, o4, rfl⟩, hall⟩
      have hrn : 1 + i < rows.length := by omega
      rw [show (1 : Int) + (i : Int) = ((1 + i : Nat) : Int) by omega]
      change tSeq _ _ _ [some (.ref la), some (.ref ta), some (.int ((1 + i : Nat) : Int)), o3, o4] H1
      generalize hr' : 1 + i = r at *
      refine q_asgU (eu_tup ea_nil (by simp)) fun pe H2 _ e2 hpe => ?_
      change tSeq _ _ _ [some (.ref la), some (.ref ta), some (.int (r : Int)), some (.ref pe), o4] H2
      have e02 := e1.trans e2
      have hrw : rows[r]? = some rows[r] := List.getElem?_eq_getElem hrn
      have hwok : ∀ x ∈ rows[r], WyOk rows.length r x := hG.ok r _ hrw
      obtain ⟨rv, hrv, hdr⟩ := l2.at (i := r) (d := rd rows[r]) (by rw [List.getElem?_map, hrw]; rfl)
      have hwne : ∀ x ∈ rows[r], x ≠ [] := fun x hx z => by have := (hwok x hx).l2; rw [z] at this; simp at this
      have egr : rows.getD r [] = rows[r] := by rw [List.getD_eq_getElem?_getD, hrw]; rfl
      have hfull0 := full0 h2 hT
      let hb' : Wy → Bool := fun w => decide (w.length = 2) || hit (ts.map some) w
      have hbh : ∀ x ∈ rows[r], hb' x = hit (ts.map some) x := fun x hx => by
        show (decide (x.length = 2) || hit (ts.map some) x) = _
        by_cases c : x.length = 2
        · have ok := hwok x hx
          have hx1 : x = [(r : Int), 0] := by
            match x, c, ok with
            | [a, b], _, ok =>
              have z1 := ok.hd
              have z2 := ok.lt
              simp at z1 z2
              rw [z1, z2]
          have ht0 : (ts.map some).getD 0 none = some [0] := by rw [List.getD_eq_getElem?_getD, List.getElem?_map, hfull0]; rfl
          rw [decide_eq_true c, hx1]
          unfold hit
          show (true || decide ((ts.map some).getD ((0 : Int)).toNat none = some [0])) = decide ((ts.map some).getD ((0 : Int)).toNat none = some [0])
          rw [show ((0 : Int)).toNat = 0 from rfl, ht0]
          rfl
        · rw [decide_eq_false c, Bool.false_or]
      have hbest : best (ts.map some) (rows.getD r []) = fstW hb' rows[r] := by
        rw [egr, best_find]
        unfold fstW
        congr 1
        clear hdr hrv hwok hwne egr hrw
        generalize rows[r] = row at hbh
        induction row with
        | nil => rfl
        | cons x xs ih =>
          rw [List.find?_cons, List.find?_cons, hbh x List.mem_cons_self]
          cases hit (ts.map some) x with
          | true => rfl
          | false => exact ih fun y hy => hbh y (List.mem_cons_of_mem _ hy)
      have htr : r < ts.length := by omega
      have htg : ts[r]? = some ts[r] := List.getElem?_eq_getElem htr
      obtain ⟨tx, htx, hdt⟩ := t2.at (i := r) (d := wd ts[r]) (by rw [List.getElem?_map, htg]; rfl)
      generalize hrow : rows[r] = row at *
      have hrow6 := hdr.mono e02
      unfold rd at hrow6
      cases hrow6 with
      | tup w1 w2 =>
      rename_i ra rws
      have rwl := w2.length
      rw [List.length_map] at rwl
      refine q_forT (K := K) (ev_at (K := K) (ev_var (i := 0) rfl) (st_of (e02 _ _ l1)) (ev_var (i := 2) rfl) hrv) (st_of w1) (fun j σ' H' => ∃ (x : V) (o : Option V), σ' = [some (.ref la), some (.ref ta), some (.int (r : Int)), some x, o] ∧ Ex H2 H' ∧ Dq H' x (wd (fstW hb' (row.take j))))
        (fun H3 e3 => ⟨_, _, rfl, e3, by rw [List.take_zero]; exact wd_of (w := []) (e3 _ _ hpe)⟩) (fun j σ' H' _ h => by obtain ⟨_, _, _, h, _⟩ := h; exact st_of (h _ _ w1)) ?_ ?_
      · rintro j x σ' H3 hx ⟨x3, o, rfl, e3, hx3⟩
        obtain ⟨wy, hw1, hw2⟩ := (w2.mono e3).wds_inv hx
        obtain ⟨wa, rfl, hwa⟩ := wd_ref hw2
        have hwm := List.mem_of_getElem? hw1
        have ok := hwok wy hwm
        have wl2 := ok.l2
        have e03 := e02.trans e3
        refine g_name ?_
        change tIfS _ _ _ _ [some (.ref la), some (.ref ta), some (.int (r : Int)), some x3, some (.ref wa)] H3
        have v4 : ∀ {H4 : Hp}, Ev (tVar 4) [some (.ref la), some (.ref ta), some (.int (r : Int)), some x3, some (.ref wa)] H4 (.ref wa) := ev_var rfl
        have hstep := fst_step (f := hb') hw1 hwne
        have hsec : (wy.map V.int)[1]? = some (.int (((wy.getD 1 0).toNat : Nat) : Int)) := by
          have hm : wy.getD 1 0 ∈ wy := by rw [List.getD_eq_getElem?_getD, List.getElem?_eq_getElem (show 1 < wy.length by omega)]; exact List.getElem_mem _
          have hr0 := (ok.rg _ hm).1
          rw [Int.toNat_of_nonneg hr0, List.getElem?_map, List.getD_eq_getElem?_getD, List.getElem?_eq_getElem (show 1 < wy.length by omega)]
          rfl
        have hsl : (wy.getD 1 0).toNat < ts.length := by
          have hm : wy.getD 1 0 ∈ wy := by rw [List.getD_eq_getElem?_getD, List.getElem?_eq_getElem (show 1 < wy.length by omega)]; exact List.getElem_mem _
          have hr0 := ok.rg _ hm
          omega
        have c2 : EvT (tTest (tOp rEq (tCB (rLenS K) (tCons (tVar 4) tNil)) (tC (.int 2)))) [some (.ref la), some (.ref ta), some (.int (r : Int)), some x3, some (.ref wa)] H3 (decide (wy.length = 2)) := by
          refine et_test (ev_is (ev_op (ev_lenT (K := K) v4 (st_of hwa)) ev_c (rv_eq rfl)) ?_)
          rw [int_dec, List.length_map]
          congr 1
          rw [decide_eq_decide]
          constructor
          · intro z; omega
          · intro z; omega
        have c3 : EvT (tTest (tOp (rEqD K) (tOp (rIxT K) (tVar 1) (tOp (rIxT K) (tVar 4) (tC (.int 1)))) (tSl (rSlA K) (tVar 4) (tPart (tC (.int 1))) tNoPart))) [some (.ref la), some (.ref ta), some (.int (r : Int)), some x3, some (.ref wa)] H3 (hit (ts.map some) wy) := by
          have htg2 : ts[(wy.getD 1 0).toNat]? = some ts[(wy.getD 1 0).toNat] := List.getElem?_eq_getElem hsl
          obtain ⟨sx, hsx, hds⟩ := (t2.mono e03).at (i := (wy.getD 1 0).toNat) (d := wd ts[(wy.getD 1 0).toNat]) (by rw [List.getElem?_map, htg2]; rfl)
          have eh : hit (ts.map some) wy = decide (some ts[(wy.getD 1 0).toNat] = some (wy.drop 1)) := by
            unfold hit
            rw [show (ts.map some).getD (wy.getD 1 0).toNat none = some ts[(wy.getD 1 0).toNat] by rw [List.getD_eq_getElem?_getD, List.getElem?_map, htg2]; rfl]
          rw [eh]
          exact et_test (ev_eqTail (K := K) (ev_at (K := K) (ev_var (i := 1) rfl) (st_of (e03 _ _ t1)) (ev_at (K := K) (j := 1) v4 (st_of hwa) (ev_is ev_c rfl) hsec) hsx) (dp_wd22 hds) (eq_tail (K := K) v4 (st_of hwa)))
        refine s_when (b := decide (fstW hb' (row.take j) = []) && hb' wy) (et_and (et_test (rv_eqEm (K := K) (ev_var (i := 3) rfl) fun H9 e9 => Dp.up e9 (dp_wd22 hx3))) fun _ => et_or c2 fun _ => c3) (fun hb H9 e9 => ?_) (fun hb H9 e9 => ?_)
        · rw [Bool.and_comm] at hb
          rw [if_pos hb] at hstep
          refine s_asg (ev_var (i := 4) rfl) fun H10 e10 => ⟨.ref wa, _, rfl, e3.trans (e9.trans e10), ?_⟩
          rw [hstep]
          exact wd_of ((e9.trans e10) _ _ hwa)
        · rw [Bool.and_comm] at hb
          rw [if_neg (by rw [hb]; decide)] at hstep
          refine ⟨x3, _, rfl, e3.trans e9, ?_⟩
          rw [hstep]
          exact hx3.mono e9
      · rintro σ' H3 ⟨x3, o, rfl, e3, hx3⟩
        rw [rwl, List.take_length] at hx3
        have e03 := e02.trans e3
        refine s_when (b := !decide (fstW hb' row = ts[r])) (et_test (ev_neWd (K := K) (ev_var (i := 3) rfl) (ev_at (K := K) (ev_var (i := 1) rfl) (st_of (e03 _ _ t1)) (ev_var (i := 2) rfl) htx) hx3 (hdt.mono e03))) (fun hb H4 e4 => ?_) (fun hb H4 e4 => ?_)
        · have z := fin (by omega) hrn ts[r] htg (by rw [hbest]; simpa using hb)
          rw [z] at k
          exact ret_any (k H4 (e03.trans e4))
        · refine ⟨e03.trans e4, ⟨_, _, _, rfl⟩, fun q q1 q2 => ?_⟩
          by_cases c : q = r
          · rw [c, hbest, List.getD_eq_getElem?_getD, List.getElem?_map, htg]
            have : fstW hb' row = ts[r] := by simpa using hb
            rw [this]
            rfl
          · exact hall q q1 (by omega)
    · rintro σ' H1 ⟨e1, _, hall⟩
      have z : okP rows ts = true := by
        rw [hok, ls_iff]
        intro r h1 hr
        exact hall r h1 (by omega)
      rw [z] at k
      exact ret_any (k H1 e1)
end
end Wk

set_option Elab.async false
set_option linter.all false
set_option maxRecDepth 100000
set_option maxHeartbeats 4000000
namespace Wk
open PySem PySem.Spec PyProof.Rows L2 Evl
theorem dqa_int_inv {H : Hp} : ∀ {ns : List Int} {vs : List V}, DqA H vs (ns.map PyData.int) → vs = ns.map V.int
  | [], _, h => by cases h; rfl
  | n :: ns, _, h => by
    cases h with
    | cons a t =>
      cases a
      rw [dqa_int_inv t]
      rfl
theorem stp_ref {H : Hp} {v : V} {s : Stp} (h : Dq H v (stepD s)) : ∃ a, v = .ref a ∧ H a = some (.tup (.str (wordS s) :: (restS s).map V.int)) := by
  rw [stepD_eq] at h
  cases h with
  | tup h1 h2 =>
    cases h2 with
    | cons z1 z2 =>
      cases z1
      rw [dqa_int_inv z2] at h1
      exact ⟨_, rfl, h1⟩
theorem eqv_step (s : Stp) : PyData.eqv (stepD s) (stepD s) = true := by
  rw [stepD_eq]
  have h := eqv_wd (restS s) (restS s)
  unfold wd at h
  simp only [PyData.eqv, decide_true] at h
  simp only [PyData.eqv, PyData.eqvAll, h]
  simp
section
variable {P : Program} {w : World} {K : PySem.W.Frag} {mg : Str → Option Value} {base : Heap} {f : Addr} {fd : FuncData}
/-! _law_is_step -/
def spIst : Sp := fun vs H Q _ => ∃ (M : Addr) (y : V) (ms : List V) (rows : List (List Wy)) (s : Stp), vs = [.ref M, y] ∧ H M = some (.lst ms) ∧ DqA H ms (stepsD rows) ∧ 2 ≤ rows.length ∧ Dq H y (stepD s) ∧ StpOk rows s ∧ ∀ H', Ex H H' → Q (.bl true) H'
abbrev sIst : Stmt := top 53
abbrev nIst : List Str := ["_law_steps_here", "_law_thing", "_law_part"]
theorem scIst : FnScope nIst ["_law_steps_here", "_law_thing"] (defScope sIst) := ⟨rfl, rfl, rfl, by decide +kernel, rfl, by decide +kernel, by decide +kernel⟩
theorem ok_ist (B : Bl mg) (F : FnP K "_law_is_step" sIst f fd) : FnOk P w K mg base CX0 1 f fd ["_law_steps_here", "_law_thing"] spIst := by
  refine F.ok scIst (fun vs H Q E h => ?_) (fun cdv A outer s H vs Q E hr h => ?_)
  · obtain ⟨M, y, ms, rows, s, rfl, _⟩ := h
    rfl
  · obtain ⟨M, y, ms, rows, st, rfl, hM, hms, h2, hy, hok, k⟩ := h
    have hu5 : (A.deeper (envOfC "_law_is_step" (defScope sIst) s.heap.objs.size f cdv)).units + 65 < cLine := by have := hr.un; omega
    refine ⟨_, pss_cons (ps_if (pt_not (pt_val (pe_callB call_isi (by rfl) B.isi boot_isinstance (pa_cons (pv 1) (pa_cons (pe_bltn (v := .ty "tuple") (by rfl) B.tuple PyProof.Rows.boot_tuple rfl) pa_nil))))) (pss_one (ps_ret pe_bl)) pss_nil)
      (pss_cons (ps_for (passes_of rfl) rfl (pi_tup (pe_slice sl_tupA (pv 1) (po_some pe_int) po_none)) (pg_name (i := 2) scIst.nd rfl (Or.inl rfl))
        (pss_one (ps_if (PW.pt (pw_or (pt_not (pt_val (pe_callB call_isi (by rfl) B.isi boot_isinstance (pa_cons (pv 2) (pa_cons (pe_bltn (v := .ty "int") (by rfl) B.int PyProof.Rows.boot_int rfl) pa_nil)))))
            (pw_or1 (pt_val (pe_callB call_isi (by rfl) B.isi boot_isinstance (pa_cons (pv 2) (pa_cons (pe_bltn (v := .ty "bool") (by rfl) B.bool PyProof.Rows.boot_bool rfl) pa_nil))))))) (pss_one (ps_ret pe_bl)) pss_nil)))
      (pss_one (ps_ret (pe_cmpR (op_inD hu5) (pv 1) (pv 0) rfl)))), ?_⟩
    have hyd : ∀ {H1 : Hp}, Ex H H1 → Dp K H1 y (stepD st) := fun e => Dq.dp (layAll.mp (layA_stp [st]) (stepD st) (by simp)) (hy.mono e)
    obtain ⟨a, ea, ha⟩ := stp_ref hy
    subst ea
    have htt : kitB (tyN (stepD st)) "tuple" = some true := by rw [stepD_eq]; exact k_tt
    refine q_when (b := !true) (et_not (et_B (ep_isi (K := K) (ev_var (i := 1) rfl) (hyd (Ex.refl _)) htt))) (fun hb => by cases hb) fun _ H1 e1 => ?_
    have hc := cut_from (V.str (wordS st) :: (restS st).map V.int) 1 (by simp)
    rw [show ((1 : Nat) : Int) = 1 from rfl, List.drop_succ_cons, List.drop_zero] at hc
    refine q_forCT (K := K) (fun l xs H2 => Ex H1 H2 ∧ H2 l = some (.tup xs) ∧ xs = (restS st).map V.int) (fun Q' q => (es_sl (K := K) (ev_var (i := 1) rfl) (eo_some ev_c) eo_none (e1 _ _ ha)) H1 (Ex.refl _) _ fun l H2 e2 hl => q l _ H2 ⟨e2, by rw [hc] at hl; exact hl, rfl⟩) ?_
    rintro l xs H2 ⟨e2, hl, rfl⟩
    refine ⟨st_of hl, fun i σ' H' => Ex H2 H' ∧ ∃ o, σ' = [some (.ref M), some (.ref a), o], ⟨Ex.refl _, _, rfl⟩, fun i σ' H' _ h => st_of (h.1 _ _ hl), ?_, ?_⟩
    · rintro i x σ' H3 hx ⟨e3, o, rfl⟩
      obtain ⟨n, hn, rfl⟩ : ∃ n, (restS st)[i]? = some n ∧ x = .int n := by
        rw [List.getElem?_map] at hx
        cases hq : (restS st)[i]? with
        | none => rw [hq] at hx; cases hx
        | some n => rw [hq] at hx; exact ⟨n, rfl, (Option.some.inj hx).symm⟩
      refine g_name ?_
      change tIfS _ _ _ _ [some (.ref M), some (.ref a), some (.int n)] H3
      have hd : Dp K H3 (.int n) (.int n) := Dq.dp rfl (.int n)
      refine s_when (b := !true || false) (et_or (et_not (et_B (ep_isi (K := K) (ev_var (i := 2) rfl) hd k_ii))) fun _ => et_B (ep_isi (K := K) (ev_var (i := 2) rfl) hd k_ib)) (fun hb => by cases hb) fun _ H4 e4 => ⟨e3.trans e4, _, rfl⟩
    · rintro σ' H3 ⟨e3, o, rfl⟩
      have e03 := (e1.trans e2).trans e3
      refine ret_any ⟨.ref a, rfl, .ref M, rfl, stepD st, stepsD rows, hyd e03, .lst (sq_of (e03 _ _ hM)) (DqA.dp (by rw [stepsD_W]; exact layA_stp _) (hms.mono e03)), shaped_stp st, shaped_steps rows, ?_⟩
      have ha : ((stepsD rows).any fun z => PyData.eqv z (stepD st)) = true := by
        rw [List.any_eq_true, stepsD_W]
        exact ⟨_, List.mem_map.mpr ⟨st, (stepsW_ok h2).mpr hok, rfl⟩, eqv_step st⟩
      rw [ha]
      exact k H3 e03
/-! _law_refused -/
structure EK2 (K : PySem.W.Frag) (C CWE : Addr) : Prop where
  ex : ExcC K C
  k1 : PySem.W.kitOne K (.ref C) (.ref CWE) = some true
  k2 : PySem.W.kitOne K (.ref C) (.type "ValueError") = some true
theorem pss_when22 {X : Cx} {l : List Stmt} {t : TS} {c : Prop} (h : c → PSs X l t) : PSs X l (fun D σ H => c ∧ t D σ H) := ⟨fun pins s σ H D I hh => (h hh.1).run pins s σ H D I hh.2⟩
theorem call_isE22 {X : Cx} {K : PySem.W.Frag} {a D : Addr} {oe : Obj} {pn : List (Addr × Obj)} (hK : X.K = K) (C : ExcC K D) (hz : Zc (.ref D) none oe) (hf : ∃ vs, oe.data = .fields vs) : CallR (X.suite a ((a, oe) :: pn)) (.builtin "isinstance") (rIsE K D a) := by
  subst hK
  exact call_isE C hz hf
def spRfd (CW : Addr) : Sp := fun vs H Q _ => ∃ (wv : Addr) (v : V) (d : PyData) (rows : List (List Wy)), vs = [.ref wv, v] ∧ WO CW H (.ref wv) rows ∧ Dq H v d ∧ Small (some d) ∧ outB rows (some d) = false ∧ ∀ H', Ex H H' → Q (.bl true) H'
abbrev sRfd : Stmt := top 54
abbrev nRfd : List Str := ["_law_wishes_here", "_law_thing", "_law_refused_here", "e"]
theorem scRfd : FnScope nRfd ["_law_wishes_here", "_law_thing"] (defScope sRfd) := ⟨rfl, rfl, rfl, by decide +kernel, rfl, by decide +kernel, by decide +kernel⟩
theorem ok_rfd {CW CB CWE : Addr} (B : Bl mg) (hVE : mg "ValueError" = none) (CD : CalX P w K mg base "comes" ["wishes", "taking"] 10 (spCo K CW CB)) (TB : ErrN K mg "BadTaking" CB) (gW : mg "WishError" = some (.ref CWE)) (xBB : PySem.W.exmOne K (.ref CB) (.ref CB) = some true) (EB : EK2 K CB CWE) (F : FnP K "_law_refused" sRfd f fd) : FnOk P w K mg base CX0 11 f fd ["_law_wishes_here", "_law_thing"] (spRfd CW) := by
  obtain ⟨fL, fdL, FL, gL, kL, bL⟩ := CD.ex
  refine F.ok scRfd (fun vs H Q E h => ?_) (fun cdv A outer s H vs Q E hr h => ?_)
  · obtain ⟨wv, v, d, rows, rfl, _⟩ := h
    rfl
  · obtain ⟨wv, v, d, rows, rfl, hw, hd, hsm, hob, k⟩ := h
    refine ⟨_, pss_cons (ps_set (i := 2) scRfd.nd rfl (Or.inl rfl) pe_non)
      (pss_cons (ps_try_as (i := 3) rfl rfl scRfd.nd rfl rfl ⟨rfl, by decide, .inl TB.g⟩ takes0
          (fun W pn xe tk _ => pss_one (ps_expr (pe_callS (E := WE W) FL hr (by rfl) gL kL bL (fun σ => passAt tk σ) (pa_cons (pv 0) (pa_cons (pv 1) pa_nil)))))
          (fun a oe cls d pn hz hf => pss_when22 (c := cls = .ref CB ∧ d = none) fun hc => pss_one (ps_set (i := 2) scRfd.nd rfl (Or.inl rfl) (pe_and
              (pe_callB (call_isE22 (K := K) rfl EB.ex (by rw [← hc.1, ← hc.2]; exact hz) hf) (by rfl) B.isi boot_isinstance (pa_cons (pv 3) (pa_cons (pe_glob (v := .ref CWE) (by rfl) gW rfl) pa_nil)))
              (pe_one (pe_callB (call_isE22 (K := K) rfl EB.ex (by rw [← hc.1, ← hc.2]; exact hz) hf) (by rfl) B.isi boot_isinstance (pa_cons (pv 3) (pa_cons (pe_bltn (v := .ty "ValueError") (by rfl) hVE boot_ValueError rfl) pa_nil))))))))
      (pss_one (ps_ret (pe_cmpR op_isBl (pv 2) pe_bl rfl)))), ?_⟩
    refine q_c ?_
    refine ⟨.ref wv, rfl, v, rfl, wv, v, rows, rfl, hw, .inr ⟨d, hd, hsm, hob, fun H1 e1 => ⟨true, xBB, fun _ a ha => ?_, fun z => Bool.noConfusion z⟩⟩⟩
    refine ⟨⟨rfl, rfl⟩, ?_⟩
    change tAsg _ _ _ [some (.ref wv), some v, some .non, some (.ref a)] H1
    have i1 : Ev (tCB (rIsE K CB a) (tCons (tVar 3) (tCons (tC (.ref CWE)) tNil))) [some (.ref wv), some v, some .non, some (.ref a)] H1 (.bl true) := fun H2 e2 Q2 q => ⟨.ref a, rfl, .ref CWE, _, true, rfl, fun u hu => hu, EB.k1, q H2 (Ex.refl _)⟩
    have i2 : ∀ {H2 : Hp}, Ex H1 H2 → Ev (tCB (rIsE K CB a) (tCons (tVar 3) (tCons (tC (.ty "ValueError")) tNil))) [some (.ref wv), some v, some .non, some (.ref a)] H2 (.bl true) := fun e H2 e2 Q2 q => ⟨.ref a, rfl, .ty "ValueError", _, true, rfl, fun u hu => hu, EB.k2, q H2 (Ex.refl _)⟩
    refine s_asg (v := .bl (true && true)) (ev_andV i1 fun _ => i2 (Ex.refl _)) fun H2 e2 => ?_
    exact ⟨.bl true, rfl, true, true, rfl, rfl, k H2 (e1.trans e2)⟩
end
end Wk

set_option Elab.async false
set_option linter.all false
set_option maxRecDepth 100000
set_option maxHeartbeats 2000000
namespace Wk
open PySem PySem.Spec PyProof.Rows L2 Evl
theorem errB_ok {K : PySem.W.Frag} {mg : Str → Option Value} {x : Str} {C : Addr} (h : errB K C = true) (g : mg x = some (.ref C)) : ErrN K mg x C := by
  obtain ⟨h1, h⟩ := He.ba h
  obtain ⟨h2, h⟩ := He.ba h
  obtain ⟨h3, h4⟩ := He.ba h
  exact ⟨g, h1, h2, of_decide_eq_true h3, of_decide_eq_true h4⟩
theorem excB_ok {K : PySem.W.Frag} {C : Addr} (h : excB K C = true) : ExcC K C := by
  obtain ⟨h1, h⟩ := He.ba h
  obtain ⟨h2, h⟩ := He.ba h
  obtain ⟨h3, h⟩ := He.ba h
  obtain ⟨h4, h⟩ := He.ba h
  obtain ⟨h5, h⟩ := He.ba h
  obtain ⟨h6, h⟩ := He.ba h
  obtain ⟨h7, h8⟩ := He.ba h
  exact ⟨He.eqO_ok h1, He.eqO_ok h2, of_decide_eq_true h3, h4, He.eqO_ok h5, He.eqO_ok h6, of_decide_eq_true h7, of_decide_eq_true h8⟩
theorem ek2B_ok {K : PySem.W.Frag} {C CW : Addr} (h : ek2B K C CW = true) : EK2 K C CW := by
  obtain ⟨h1, h⟩ := He.ba h
  obtain ⟨h2, h3⟩ := He.ba h
  exact ⟨excB_ok h1, of_decide_eq_true h2, of_decide_eq_true h3⟩
end Wk

set_option Elab.async false
set_option linter.all false
set_option maxRecDepth 100000
set_option maxHeartbeats 4000000
namespace Wk
open PySem PySem.Spec PyProof.Rows L2 Evl
theorem eqv_stps : ∀ ss : List Stp, PyData.eqvAll (ss.map stepD) (ss.map stepD) = true
  | [] => by simp [PyData.eqvAll]
  | s :: ss => by
    have h := eqv_step s
    have ih := eqv_stps ss
    simp only [List.map_cons, PyData.eqvAll, h, ih, Bool.and_true]
theorem shaped_stps (ss : List Stp) : SeqAt.shaped (.tuple (ss.map stepD)) = true := by
  unfold SeqAt.shaped
  have h1 : PyData.depthAll (ss.map stepD) ≤ 2 := depAll.mpr fun d hd => by
    obtain ⟨s, _, rfl⟩ := List.mem_map.mp hd
    rw [stepD_eq]
    simp only [PyData.depth, dep_str1]
    omega
  have h2 : decide ((PyData.tuple (ss.map stepD)).depth ≤ 64) = true := decide_eq_true (by simp only [PyData.depth]; omega)
  have h3 : (PyData.tuple (ss.map stepD)).canLay0 = true := by simp only [PyData.canLay0]; exact layA_stp ss
  rw [h2, h3]
  rfl
theorem t_opc {r : R2} {sp : Sp} {dvs : List V} {E : XK} {te tb : TE} {ta : TA} {σ : L2.St} {H : Hp} {Q : VK} (h : te σ H fun x H1 => ta σ H1 fun ys H2 => sp (x :: ys ++ dvs) H2 (fun z H3 => tb σ H3 fun y H4 => r z y H4 Q) E) : tOp r (tCall sp dvs E (tCons te ta)) tb σ H Q := h
section
variable {P : Program} {w : World} {K : PySem.W.Frag} {mg : Str → Option Value} {base : Heap} {f : Addr} {fd : FuncData}
/-! _law_comes -/
def spCms (CW : Addr) : Sp := fun vs H Q _ => ∃ (lv : V) (wv ta : Addr) (txs : List V) (rows : List (List Wy)) (ts : List Wy), vs = [lv, .ref wv, .ref ta] ∧ Dq H lv (pd rows) ∧ WO CW H (.ref wv) rows ∧ H ta = some (.tup txs) ∧ DqA H txs (ts.map wd) ∧ FullT rows ts ∧ okP rows ts = true ∧ ∀ H', Ex H H' → Q (.bl true) H'
abbrev sCms : Stmt := top 55
abbrev nCms : List Str := ["_law_lists_here", "_law_wishes_here", "_law_taking", "_law_lines_here", "_law_steps_here", "_law_row", "_law_stand", "_law_step"]
theorem scCms : FnScope nCms ["_law_lists_here", "_law_wishes_here", "_law_taking"] (defScope sCms) := ⟨rfl, rfl, rfl, by decide +kernel, rfl, by decide +kernel, by decide +kernel⟩
theorem ok_cms {CW CB CBW : Addr} (B : Bl mg) (MW : Mkr P w K mg base CW CBW) (CD : CalX P w K mg base "comes" ["wishes", "taking"] 10 (spCo K CW CB)) (CL : Cal P w K mg base "_law_lines" ["_law_lists_here"] 1 spLLines) (CS : Cal P w K mg base "_law_steps" ["_law_lists_here"] 2 spLSteps) (CBg : Cal P w K mg base "_law_begin" ["_law_lists_here"] 2 spLBegin)
    (CI : Cal P w K mg base "_law_is_step" ["_law_steps_here", "_law_thing"] 1 spIst) (CM : Cal P w K mg base "_law_moved" ["_law_lists_here", "_law_lines_here", "_law_stand", "_law_step"] 2 spMoved) (CMs : Cal P w K mg base "_law_moves" ["_law_lists_here", "_law_lines_here", "_law_steps_here", "_law_stand"] 3 spMvs) (F : FnP K "_law_comes" sCms f fd) : FnOk P w K mg base CX0 11 f fd ["_law_lists_here", "_law_wishes_here", "_law_taking"] (spCms CW) := by
  obtain ⟨fL, fdL, FL, gL, kL, bL⟩ := CD.ex
  obtain ⟨fI, fdI, mk, FI, bI⟩ := MW.ex
  refine F.ok scCms (fun vs H Q E h => ?_) (fun cdv A outer s H vs Q E hr h => ?_)
  · obtain ⟨lv, wv, ta, txs, rows, ts, rfl, _⟩ := h
    rfl
  · obtain ⟨lv, wv, ta, txs, rows, ts, rfl, hl, hw, hta, htx, hT, ho, k⟩ := h
    have r1 : Room 1 _ := hr.mono (by decide)
    have r2 : Room 2 _ := hr.mono (by decide)
    have r3 : Room 3 _ := hr.mono (by decide)
    have r9 : Room 9 _ := hr.mono (by decide)
    have hu4 : (A.deeper (envOfC "_law_comes" (defScope sCms) s.heap.objs.size f cdv)).units + 64 < cLine := by have := hr.un; omega
    refine ⟨_, pss_cons (ps_set (i := 3) scCms.nd rfl (Or.inl rfl) (pe_cal CL r1 (by rfl) (pa_cons (pv 0) pa_nil)))
      (pss_cons (ps_set (i := 4) scCms.nd rfl (Or.inl rfl) (pe_cal CS r2 (by rfl) (pa_cons (pv 0) pa_nil)))
      (pss_cons (ps_set (i := 5) scCms.nd rfl (Or.inl rfl) (pe_callS FL hr (by rfl) gL kL bL (fun σ => passAt takes0 σ) (pa_cons (pv 1) (pa_cons (pv 2) pa_nil))))
      (pss_cons (ps_if (pt_not (pt_val (pe_callB call_isi (by rfl) B.isi boot_isinstance (pa_cons (pv 5) (pa_cons (pe_bltn (v := .ty "tuple") (by rfl) B.tuple PyProof.Rows.boot_tuple rfl) pa_nil))))) (pss_one (ps_ret pe_bl)) pss_nil)
      (pss_cons (ps_set (i := 6) scCms.nd rfl (Or.inl rfl) (pe_cal CBg r2 (by rfl) (pa_cons (pv 0) pa_nil)))
      (pss_cons (ps_for (passes_of rfl) rfl (pi_tup (pv 5)) (pg_name (i := 7) scCms.nd rfl (Or.inl rfl))
        (pss_cons (ps_if (pt_not (pt_val (pe_cal CI r1 (by rfl) (pa_cons (pv 4) (pa_cons (pv 7) pa_nil))))) (pss_one (ps_ret pe_bl)) pss_nil)
        (pss_one (ps_set (i := 6) scCms.nd rfl (Or.inl rfl) (pe_cal CM r2 (by rfl) (pa_cons (pv 0) (pa_cons (pv 3) (pa_cons (pv 6) (pa_cons (pv 7) pa_nil)))))))))
      (pss_cons (ps_if (pt_cmpR (op_neD hu4) (pe_callS FL hr (by rfl) gL kL bL (fun σ => passAt takes0 σ) (pa_cons (pe_mkAt mk FI r9 (by rfl) MW.tx.g bI (fun σ => passAt takes0 σ) (pa_cons (pv 0) pa_nil)) (pa_cons (pv 2) pa_nil))) (pv 5) (nomark _)) (pss_one (ps_ret pe_bl)) pss_nil)
      (pss_one (ps_ret (pe_and (pe_cmpR (op_eqD hu4) (pe_ix ix_tup (pv 6) pe_int (fun _ _ => rfl)) (pv 2) (nomark _))
          (pe_one (pe_cmpR (op_eqD hu4) (pe_cal CMs r3 (by rfl) (pa_cons (pv 0) (pa_cons (pv 3) (pa_cons (pv 4) (pa_cons (pv 6) pa_nil))))) (pe_lst pa_nil) (nomark _)))))))))))), ?_⟩
    have hG := hw.g
    have h2 := hw.n2
    have h8 := hw.n8
    have h6 := hw.r6
    have hll := lnw_len rows
    refine q_asgW ⟨lv, rfl, lv, rows, rfl, hl, hG, h8, h6, fun H1 L lls e1 nL hL1 hlls1 => ?_⟩
    change tSeq _ _ _ [some lv, some (.ref wv), some (.ref ta), some (.ref L), none, none, none, none] H1
    refine q_asgW ⟨lv, rfl, lv, rows, rfl, hl.mono e1, hG, h2, h8, h6, fun H2 M ms e2 nM hM2 hms2' => ?_⟩
    have hms2 : DqA H2 ms (stepsD rows) := hms2'.mono ((off_in _ _).trans fr_sub)
    have e02 := e1.trans e2
    change tSeq _ _ _ [some lv, some (.ref wv), some (.ref ta), some (.ref L), some (.ref M), none, none, none] H2
    have hdt : ∀ {H3 : Hp}, Ex H H3 → DpAll K H3 txs (ts.map wd) := fun e => DqA.dp (lay_wds ts) (htx.mono e)
    refine q_asgW ⟨.ref wv, rfl, .ref ta, rfl, wv, .ref ta, rows, rfl, hw.up e02, .inl ⟨ta, txs, ts, rfl, e02 _ _ hta, hdt e02, hT, ho, fun H3 T us ws e3 hsr hT3 hus3 => ?_⟩⟩
    have e03 := e02.trans e3
    change tSeq _ _ _ [some lv, some (.ref wv), some (.ref ta), some (.ref L), some (.ref M), some (.ref T), none, none] H3
    have hwl : ws.length ≤ 8 := by
      rw [hsr.perm.length_eq]
      refine Nat.le_trans (List.length_filter_le _ _) ?_
      rw [List.length_drop]
      have := hT.len
      omega
    have hsl := com_len (rows := rows) hwl
    obtain ⟨hrun, hss⟩ := com_run hG h2 h8 hT ho hsr
    have hsr' := hsr.srt
    generalize hcw : comW rows ws = ss at *
    have hdp : ∀ {H5 : Hp}, Ex H3 H5 → Dp K H5 (.ref T) (.tuple (ss.map stepD)) := fun e => .tup (st_of (e _ _ hT3)) (DqA.dp (layA_stp ss) (hus3.mono e))
    refine q_when (b := !true) (et_not (et_B (ep_isi (K := K) (ev_var (i := 5) rfl) (hdp (Ex.refl _)) k_tt))) (fun hb => by cases hb) fun _ H4 e4 => ?_
    have e04 := e03.trans e4
    refine q_asgW ⟨lv, rfl, lv, rows, rfl, hl.mono e04, hG, h2, h8, h6, fun H5 sv e5 hsv5 => ?_⟩
    have e05 := e04.trans e5
    change tSeq _ _ _ [some lv, some (.ref wv), some (.ref ta), some (.ref L), some (.ref M), some (.ref T), some sv, none] H5
    have e15 := e2.trans (e3.trans (e4.trans e5))
    have e25 := e3.trans (e4.trans e5)
    have e35 := e4.trans e5
    have hL5 := e15 _ _ hL1
    have hlls5 := hlls1.mono e15
    have hM5 := e25 _ _ hM2
    have hms5 := hms2.mono e25
    have hT5 := e35 _ _ hT3
    have hus5 := hus3.mono e35
    have hl5 := hl.mono e05
    have hul := hus5.length
    rw [List.length_map] at hul
    refine q_forT (K := K) (ev_var (i := 5) rfl) (st_of hT5) (fun i σ' H' => Ex H5 H' ∧ ∃ u o5, σ' = [some lv, some (.ref wv), some (.ref ta), some (.ref L), some (.ref M), some (.ref T), some u, o5] ∧ Dq H' u (standD (runW rows (begT rows, begK rows) (ss.take i)).1 (runW rows (begT rows, begK rows) (ss.take i)).2)) (fun H6 e6 => ⟨e6, sv, _, rfl, hsv5.mono e6⟩) (fun i σ' H' _ h => st_of (h.1 _ _ hT5)) ?_ ?_
    · rintro i y σ' H6 hy ⟨e6, u, o5, rfl, hu6⟩
      obtain ⟨s', g1, g2⟩ := pss_wd hus5 hy
      have hok := hss s' (List.mem_of_getElem? g1)
      refine g_name ?_
      change tSeq _ _ _ [some lv, some (.ref wv), some (.ref ta), some (.ref L), some (.ref M), some (.ref T), some u, some y] H6
      refine q_when (b := !true) (et_not (et_B fun H7 e7 Q7 q7 => ⟨.ref M, rfl, y, rfl, M, y, ms, rows, s', rfl, (e6.trans e7) _ _ hM5, hms5.mono (e6.trans e7), h2, g2.mono (e6.trans e7), hok, fun H8 e8 => q7 H8 e8⟩)) (fun hb => by cases hb) fun _ H7 e7 => ?_
      have e57 := e6.trans e7
      have hS := run_ok (st := (begT rows, begK rows)) hG h8 (stOk_beg h2) (fun s hs => hss s (List.mem_of_mem_take (i := i) hs))
      have er := runW_snoc rows (begT rows, begK rows) (ss.take i) s'
      rw [← take_snoc g1] at er
      generalize runW rows (begT rows, begK rows) (ss.take i) = st at *
      refine q_asgW_last ⟨lv, rfl, .ref L, rfl, u, rfl, y, rfl, lv, u, y, L, lls, rows, st.1, st.2, s', rfl, hl5.mono e57, hG, h8, h6, e57 _ _ hL5, hlls5.mono e57, hu6.mono e7, hS.sh hG h2, g2.mono e57, hok, fun H8 u' e8 hu8 => ?_⟩
      exact ⟨e57.trans e8, u', _, rfl, by rw [er]; exact hu8⟩
    · rintro σ' H6 ⟨e6, u, o5, rfl, hu6⟩
      rw [hul, List.take_length, hrun] at hu6
      have e06 := e05.trans e6
      have e36 := e35.trans e6
      have c1 : Ev (tOp (rNeD K) (tCall (spCo K CW CB) [] E0 (tCons (tMkAt CW (spWI CW CBW) (fun _ => E0) (tCons (tVar 0) tNil)) (tCons (tVar 2) tNil))) (tVar 5)) [some lv, some (.ref wv), some (.ref ta), some (.ref L), some (.ref M), some (.ref T), some u, o5] H6 (.bl (!true)) := fun H7 e7 Q7 q7 => by
        refine t_opc (t_makeH (CB := CBW) (fun R hR => ⟨lv, rfl, hR lv H7 (Ex.refl _) (hl5.mono (e6.trans e7))⟩) hG h2 h8 h6 fun H8 wv2 e8 hW8 => ?_)
        have e08 := (e06.trans e7).trans e8
        refine ⟨.ref ta, rfl, wv2, .ref ta, rows, rfl, hW8, .inl ⟨ta, txs, ts, rfl, e08 _ _ hta, hdt e08, hT, ho, fun H9 T2 us2 ws2 e9 hsr2 hT9 hus9 => ?_⟩⟩
        have ews : ws2 = ws := hsr2.srt.trans hsr'.symm
        rw [ews, hcw] at hus9
        refine ⟨.ref T, rfl, .tuple (ss.map stepD), .tuple (ss.map stepD), .tup (st_of hT9) (DqA.dp (layA_stp ss) hus9), hdp ((e36.trans e7).trans (e8.trans e9)), shaped_stps ss, shaped_stps ss, ?_⟩
        simp only [PyData.eqv, eqv_stps]
        exact q7 H9 (e8.trans e9)
      refine q_when (b := !true) (et_test c1) (fun hb => by cases hb) fun _ H7 e7 => ?_
      have e57 := e6.trans e7
      have e07 := e06.trans e7
      have hu7 := hu6.mono e7
      unfold standD at hu7
      have hu7' : Dq H7 u (standD ts (keptW rows ts)) := hu6.mono e7
      cases hu7 with
      | tup s1 s2 =>
      rename_i sa svs
      cases s2 with
      | cons q1 q2 =>
      rename_i u0 us0
      have i1 : Ev (tOp (rEqD K) (tOp (rIxT K) (tVar 6) (tC (.int 0))) (tVar 2)) [some lv, some (.ref wv), some (.ref ta), some (.ref L), some (.ref M), some (.ref T), some (.ref sa), o5] H7 (.bl true) := by
        refine ev_op (ev_at (K := K) (j := 0) (ev_var (i := 6) rfl) (st_of s1) (ev_is ev_c rfl) rfl) (ev_var (i := 2) rfl) fun H8 e8 Q8 q8 => ⟨.tuple (ts.map wd), .tuple (ts.map wd), Dq.dp (by simp only [PyData.canLay0]; exact lay_wds ts) (q1.mono e8), .tup (st_of ((e07.trans e8) _ _ hta)) (hdt (e07.trans e8)), shaped_tk ts, shaped_tk ts, ?_⟩
        simp only [PyData.eqv, eqv_wds, decide_true]
        exact q8 H8 (Ex.refl _)
      have i2 : ∀ {H8 : Hp}, Ex H7 H8 → Ev (tOp (rEqD K) (tCall spMvs [] E0 (tCons (tVar 0) (tCons (tVar 3) (tCons (tVar 4) (tCons (tVar 6) tNil))))) (tLst tNil)) [some lv, some (.ref wv), some (.ref ta), some (.ref L), some (.ref M), some (.ref T), some (.ref sa), o5] H8 (.bl true) := fun e8 H9 e9 Q9 q9 => by
        have e79 := e8.trans e9
        have e59 := e57.trans e79
        have hrst := kept_rst hG h2 h8 hT ho
        have hsh := (kept_ok hG h8 hT).sh hG h2
        refine ⟨lv, rfl, .ref L, rfl, .ref M, rfl, .ref sa, rfl, lv, .ref sa, L, M, lls, ms, rows, ts, keptW rows ts, rfl, hl5.mono e59, hG, h2, h8, h6, e59 _ _ hL5, hlls5.mono e59, e59 _ _ hM5, hms5.mono e59, hu7'.mono e79, hsh, hrst, fun H10 l e10 hl10 => ⟨by show 0 ≤ sizeLine; decide, fun D hD => ?_⟩⟩
        have e11 := Ex.new (o := .lst ([] : List V)) hD
        refine ⟨.list [], .list [], .lst (sq_of (e11 _ _ hl10)) .nil, .lst (sq_of upd_same) .nil, rfl, rfl, ?_⟩
        exact q9 _ (e10.trans e11)
      exact s_ret (v := .bl (true && true)) (ev_andV i1 fun _ => i2 (Ex.refl _)) fun H8 e8 => k H8 (e07.trans e8)
end
end Wk

set_option Elab.async false
set_option linter.all false
set_option maxRecDepth 100000
set_option maxHeartbeats 4000000
namespace Wk
open PySem PySem.Spec PyProof.Rows L2 Evl
/-- rows whose items are among the first lists of C -/
def RowOf (C : List (List Wy)) (i : Nat) (t : List Wy) : Prop := t.length = i ∧ ∀ (j : Nat) (x : Wy), t[j]? = some x → x ∈ C.getD j []
theorem RowOf.snoc {C : List (List Wy)} {i : Nat} {t : List Wy} {x : Wy} (h : RowOf C i t) (hx : x ∈ C.getD i []) : RowOf C (i + 1) (t ++ [x]) := by
  refine ⟨by rw [List.length_append, h.1]; rfl, fun j y hy => ?_⟩
  rw [List.getElem?_append] at hy
  split at hy
  · exact h.2 j y hy
  · rename_i hn
    have h1 := h.1
    have hj := (List.getElem?_eq_some_iff.mp hy).1
    simp at hj
    have ej : j = i := by omega
    subst ej
    rw [show j - t.length = 0 by omega] at hy
    simp at hy
    rw [← hy]
    exact hx
section
variable {P : Program} {w : World} {K : PySem.W.Frag} {mg : Str → Option Value} {base : Heap} {f : Addr} {fd : FuncData}
/-! _law_rows -/
def spRws : Sp := fun vs H Q _ => ∃ (A : Addr) (avs : List V) (C : List (List Wy)), vs = [.ref A, .int 400] ∧ H A = some (.lst avs) ∧ avs.length = C.length ∧ C.length ≤ 8 ∧ (∀ (i : Nat) (y : V) (row : List Wy), avs[i]? = some y → C[i]? = some row → ∃ a us, y = .ref a ∧ H a = some (.lst us) ∧ DqA H us (row.map wd)) ∧ (∀ row ∈ C, row.length ≤ 7) ∧
  ∀ H' l us (L : List (List Wy)), Ex H H' → H l = none → H' l = some (.lst us) → DqA H' us (L.map tkd) → L.length ≤ 400 → (∀ t ∈ L, RowOf C C.length t) → Q (.ref l) H'
abbrev sRws : Stmt := top 51
abbrev nRws : List Str := ["_law_lists_of_items", "_law_most", "_law_rows_here", "_law_items", "_law_wider", "_law_row", "_law_item"]
theorem scRws : FnScope nRws ["_law_lists_of_items", "_law_most"] (defScope sRws) := ⟨rfl, rfl, rfl, by decide +kernel, rfl, by decide +kernel, by decide +kernel⟩
theorem ok_rws (B : Bl mg) (F : FnP K "_law_rows" sRws f fd) : FnOk P w K mg base CX0 1 f fd ["_law_lists_of_items", "_law_most"] spRws := by
  refine F.ok scRws (fun vs H Q E h => ?_) (fun cdv A outer s H vs Q E hr h => ?_)
  · obtain ⟨A, avs, C, rfl, _⟩ := h
    rfl
  · obtain ⟨A0, avs, C, rfl, hA, hal, hc8, hit, hr7, k⟩ := h
    refine ⟨_, pss_cons (ps_set (i := 2) scRws.nd rfl (Or.inl rfl) (pe_lst (pa_cons (pe_tup pa_nil) pa_nil)))
      (pss_cons (ps_for (passes_of rfl) rfl (pi_list (pv 0)) (pg_name (i := 3) scRws.nd rfl (Or.inl rfl))
        (pss_cons (ps_set (i := 4) scRws.nd rfl (Or.inl rfl) (pe_lst pa_nil))
        (pss_cons (ps_for (passes_of rfl) rfl (pi_list (pv 2)) (pg_name (i := 5) scRws.nd rfl (Or.inl rfl))
          (pss_one (ps_for (passes_of rfl) rfl (pi_list (pv 3)) (pg_name (i := 6) scRws.nd rfl (Or.inl rfl))
            (pss_one (ps_expr (pe_bm PySem.F.plainAttrs_list PySem.F.slot_list_append PySem.F.type_list_append mt_append (pv 4) (pa_cons (pe_op (op_catAK (K := K) rfl) (pv 5) (pe_tup (pa_cons (pv 6) pa_nil))) pa_nil)))))))
        (pss_cons (ps_set (i := 2) scRws.nd rfl (Or.inl rfl) (pv 4))
        (pss_one (ps_if (pt_cmpR op_gt (pe_callB call_len_seq (by rfl) B.len PySem.boot_len (pa_cons (pv 2) pa_nil)) (pv 1) (nomark _)) (pss_one (ps_ret (pe_lst pa_nil))) pss_nil))))))
      (pss_one (ps_ret (pv 2)))), ?_⟩
    refine q_asgG ⟨by show 0 ≤ sizeLine; decide, fun pe hpe => ⟨by show 1 ≤ sizeLine; decide, fun R0 hR0 => ?_⟩⟩
    have e1 := Ex.new (o := .tup ([] : List V)) hpe
    have e2 := Ex.new (o := .lst [V.ref pe]) hR0
    have hpe2 := e2 _ _ (show (upd H pe (.tup [])) pe = some (.tup []) from upd_same)
    have hR2 : (upd (upd H pe (.tup [])) R0 (.lst [V.ref pe])) R0 = some (.lst [V.ref pe]) := upd_same
    have nR0 : H R0 = none := fresh_back e1 hR0
    have e02 := e1.trans e2
    generalize upd (upd H pe (.tup [])) R0 (.lst [V.ref pe]) = H2 at *
    refine g_name ?_
    change tSeq _ _ _ [some (.ref A0), some (.int 400), some (.ref R0), none, none, none, none] H2
    refine q_forL (K := K) (ev_var (i := 0) rfl) (sq_of (e02 _ _ hA)) (fun i σ' H' => Ex H H' ∧ ∃ (R : Addr) (o3 o4 o5 o6 : Option V) (us : List V) (L : List (List Wy)), σ' = [some (.ref A0), some (.int 400), some (.ref R), o3, o4, o5, o6] ∧ H R = none ∧ H' R = some (.lst us) ∧ DqA H' us (L.map tkd) ∧ L.length ≤ 400 ∧ ∀ t ∈ L, RowOf C i t)
      (fun H3 e3 => ⟨e02.trans e3, R0, _, _, _, _, [.ref pe], [[]], rfl, nR0, e3 _ _ hR2, .cons (.tup (e3 _ _ hpe2) .nil) .nil, by decide, fun t ht => by rw [List.mem_singleton.mp ht]; exact ⟨rfl, fun j x h => by cases h⟩⟩) (fun i σ' H' _ h => sq_of (h.1 _ _ hA)) ?_ ?_
    · rintro i y σ' H3 hy ⟨e3, R, o3, o4, o5, o6, us, L, rfl, nR, hR, hus, hLl, hLr⟩
      have hil : i < C.length := by have := (List.getElem?_eq_some_iff.mp hy).1; omega
      have hrw : C[i]? = some C[i] := List.getElem?_eq_getElem hil
      obtain ⟨ia, ius, rfl, hia, hius⟩ := hit i y _ hy hrw
      have hm7 := hr7 _ (List.getElem_mem hil)
      have ecr : C.getD i [] = C[i] := by rw [List.getD_eq_getElem?_getD, hrw]; rfl
      rw [← ecr] at hius hm7
      have hul := hus.length
      rw [List.length_map] at hul
      have hil7 := hius.length
      rw [List.length_map] at hil7
      refine g_name ?_
      change tSeq _ _ _ [some (.ref A0), some (.int 400), some (.ref R), some (.ref ia), o4, o5, o6] H3
      refine q_asgL (el_lst ea_nil (by simp)) fun D H4 gD e4 hD => ?_
      change tSeq _ _ _ [some (.ref A0), some (.int 400), some (.ref R), some (.ref ia), some (.ref D), o5, o6] H4
      have nD : H D = none := fresh_back e3 gD
      have up : ∀ {a : Addr} {o : HO}, H3 a = some o → off D H4 a = some o := fun {a o} h => by rw [off_at (fun z => by rw [z, gD] at h; cases h)]; exact e4 _ _ h
      have uE : Ex H3 (off D H4) := fun a o h => up h
      have hRo := up hR
      have hiao := up (e3 _ _ hia)
      have huso : DqA (off D H4) us (L.map tkd) := hus.mono uE
      have hiuso : DqA (off D H4) ius ((C.getD i []).map wd) := (hius.mono e3).mono uE
      -- what holds while D grows
      let J : Nat → Hp → Prop := fun n H' => Ex (off D H4) (off D H') ∧ ∃ (vs : List V) (W : List (List Wy)), H' D = some (.lst vs) ∧ DqA (off D H') vs (W.map tkd) ∧ W.length ≤ n ∧ ∀ t ∈ W, RowOf C (i + 1) t
      refine q_forL (K := K) (ev_var (i := 2) rfl) (sq_of (e4 _ _ hR)) (fun j σ' H' => J (7 * j) H' ∧ ∃ o5 o6, σ' = [some (.ref A0), some (.int 400), some (.ref R), some (.ref ia), some (.ref D), o5, o6])
        (fun H5 e5 => ⟨⟨off_ex e5, [], [], e5 _ _ hD, .nil, Nat.zero_le _, fun t ht => by cases ht⟩, _, _, rfl⟩) (fun j σ' H' _ h => sq_of (off_in D _ _ _ (h.1.1 _ _ hRo))) ?_ ?_
      · rintro j x σ' H5 hx ⟨hJ, o5, o6, rfl⟩
        obtain ⟨t, ht, hxt⟩ : ∃ t, L[j]? = some t ∧ Dq (off D H4) x (tkd t) := by
          obtain ⟨d, z1, z2⟩ := huso.get hx
          rw [List.getElem?_map] at z1
          cases hq : L[j]? with
          | none => rw [hq] at z1; cases z1
          | some t => rw [hq] at z1; obtain rfl : tkd t = d := Option.some.inj z1; exact ⟨t, rfl, z2⟩
        have hRt := hLr t (List.mem_of_getElem? ht)
        unfold tkd at hxt
        cases hxt with
        | tup t1 t2 =>
        rename_i xa xs
        have hxl := t2.length
        rw [List.length_map] at hxl
        have hj4 := (List.getElem?_eq_some_iff.mp ht).1
        refine g_name ?_
        dsimp only
        change tFor _ _ _ _ [some (.ref A0), some (.int 400), some (.ref R), some (.ref ia), some (.ref D), some (.ref xa), o6] H5
        refine s_forL (K := K) (ev_var (i := 3) rfl) (sq_of (off_in D _ _ _ (hJ.1 _ _ hiao))) (fun m σ' H' => J (7 * j + m) H' ∧ ∃ o6, σ' = [some (.ref A0), some (.int 400), some (.ref R), some (.ref ia), some (.ref D), some (.ref xa), o6])
          (fun H6 e6 => ⟨?_, _, rfl⟩) (fun m σ' H' _ h => sq_of (off_in D _ _ _ (h.1.1 _ _ hiao))) ?_ ?_
        · obtain ⟨j1, vs, W, j2, j3, j4, j5⟩ := hJ
          exact ⟨j1.trans (off_ex e6), vs, W, e6 _ _ j2, j3.mono (off_ex e6), by omega, j5⟩
        · rintro m z σ' H6 hz ⟨⟨j1, vs, W, j2, j3, j4, j5⟩, o6', rfl⟩
          obtain ⟨wy, hw1, hw2⟩ := hiuso.wds_inv hz
          have hm := (List.getElem?_eq_some_iff.mp hw1).1
          refine g_name ?_
          change tDrop _ _ [some (.ref A0), some (.int 400), some (.ref R), some (.ref ia), some (.ref D), some (.ref xa), some z] H6
          have hvl := j3.length
          rw [List.length_map] at hvl
          refine ⟨.ref D, rfl, .inl ⟨rfl, _, sq_of j2⟩, ?_⟩
          have hxa6 := off_in D _ _ _ (j1 _ _ t1)
          refine tc1 (es_cat (K := K) (xs := xs) (ys := [z]) (es_var (ev_var (i := 5) rfl) hxa6) (es_tup (ea_cons (ev_var (i := 6) rfl) ea_nil) (by simp)) (by rw [hxl, hRt.1]; simp; omega) H6 (Ex.refl _) _ fun q H7 e7 hq => ?_)
          have j27 := e7 _ _ j2
          have hqD : q ≠ D := fun c => by rw [c, j27] at hq; cases hq
          refine ⟨D, vs, .ref q, rfl, rfl, j27, by rw [sizeLine_eq]; omega, ?_⟩
          have e67 := off_ex (D := D) e7
          have hq' : off D H7 q = some (.tup (xs ++ [z])) := by rw [off_at hqD]; exact hq
          refine ⟨⟨by rw [off_upd]; exact j1.trans e67, vs ++ [.ref q], W ++ [t ++ [wy]], upd_same, ?_, by rw [List.length_append]; show W.length + 1 ≤ _; omega, fun t' ht' => ?_⟩, _, rfl⟩
          · rw [off_upd, List.map_append]
            refine DqA.append (j3.mono e67) (.cons (.tup hq' ?_) .nil)
            rw [List.map_append]
            exact DqA.append (t2.mono (j1.trans e67)) (.cons (hw2.mono (j1.trans e67)) .nil)
          · rcases List.mem_append.mp ht' with c | c
            · exact j5 t' c
            · rw [List.mem_singleton.mp c]
              exact hRt.snoc (List.mem_of_getElem? hw1)
        · rintro σ' H6 ⟨⟨j1, vs, W, j2, j3, j4, j5⟩, o6', rfl⟩
          exact ⟨⟨j1, vs, W, j2, j3, by omega, j5⟩, _, _, rfl⟩
      · rintro σ' H5 ⟨⟨j1, vs, W, j2, j3, j4, j5⟩, o5', o6', rfl⟩
        refine q_asg (ev_var (i := 4) rfl) fun H6 e6 => ?_
        change tIfS _ _ _ _ [some (.ref A0), some (.int 400), some (.ref D), some (.ref ia), some (.ref D), o5', o6'] H6
        have hvl := j3.length
        rw [List.length_map] at hvl
        have eH6 : Ex H H6 := ((e3.trans uE).trans j1).trans ((off_in D _).trans e6)
        have jd := e6 _ _ j2
        have c1 : Ev (tOp (rI0 fun a b => .bl (decide (a > b))) (tCB (rLenS K) (tCons (tVar 2) tNil)) (tVar 1)) [some (.ref A0), some (.int 400), some (.ref D), some (.ref ia), some (.ref D), o5', o6'] H6 (.bl (decide ((W.length : Int) > 400))) := by
          rw [← hvl]
          exact ev_op (ev_lenS (K := K) (ev_var (i := 2) rfl) fun e => .inl (sq_of (e _ _ jd))) (ev_var (i := 1) rfl) rv_I0
        refine s_when (et_test c1) (fun hb H7 e7 => ?_) (fun hb H7 e7 => ?_)
        · refine ret_any ⟨by show 0 ≤ sizeLine; decide, fun l hl => ?_⟩
          have e8 := Ex.new (o := .lst ([] : List V)) hl
          exact k _ l [] [] ((eH6.trans e7).trans e8) (fresh_back (eH6.trans e7) hl) upd_same .nil (by decide) (fun t ht => by cases ht)
        · refine ⟨eH6.trans e7, D, _, _, _, _, vs, W, rfl, nD, e7 _ _ jd, ((j3.mono (off_in D _)).mono e6).mono e7, ?_, j5⟩
          have := of_decide_eq_false hb
          omega
    · rintro σ' H3 ⟨e3, R, o3, o4, o5, o6, us, L, rfl, nR, hR, hus, hLl, hLr⟩
      rw [hal] at hLr
      exact ret_any ⟨.ref R, rfl, k H3 R us L e3 nR hR hus hLl hLr⟩
end
end Wk

set_option Elab.async false
set_option linter.all false
set_option maxRecDepth 100000
set_option maxHeartbeats 4000000
namespace Wk
open PySem PySem.Spec PyProof.Rows L2 Evl
/-! what is no outcome -/
theorem out_tk {rows : List (List Wy)} {d : PyData} (h : tkB rows (some d) = false) : outB rows (some d) = false := by
  unfold outB
  rw [h]
  rfl
theorem tk_nt {rows : List (List Wy)} {d : PyData} (h : isTu d = false) : outB rows (some d) = false := out_tk (by
  unfold tkB tgN
  simp only [h, Bool.false_and])
theorem tk_len {rows : List (List Wy)} {ds : List PyData} (h : ds.length ≠ rows.length) : outB rows (some (.tuple ds)) = false := out_tk (by
  cases hq : tkB rows (some (.tuple ds)) with
  | false => rfl
  | true => exact absurd (tk_ok hq).2.2.1 h)
theorem tk_item {rows : List (List Wy)} {ds : List PyData} {i : Nat} {x : PyData} (hx : ds[i]? = some x) (h : chB rows i x = false) : outB rows (some (.tuple ds)) = false := out_tk (by
  cases hq : tkB rows (some (.tuple ds)) with
  | false => rfl
  | true =>
    have := (tk_ok hq).2.2.2 i x hx
    rw [h] at this
    cases this)
theorem sm_no22 {d : PyData} (h : itemsT d = []) : Small (some d) := fun d' e x hx => by
  cases e
  rw [h] at hx
  cases hx
theorem sm_tup22 {ds : List PyData} (h : ∀ x ∈ ds, (itemsT x).length ≤ 1000) : Small (some (.tuple ds)) := fun d e x hx => by
  cases e
  exact h x hx
def OddK (rows : List (List Wy)) (d : PyData) : Prop := Small (some d) ∧ outB rows (some d) = false
/-- a way with a flag for 1 -/
def flD (x : Int) : PyData := if x = 1 then .bool true else .int x
def flV (x : Int) : V := if x = 1 then .bl true else .int x
def flgD (w : Wy) : PyData := .tuple (w.map flD)
def oddL (ts : List Wy) : List PyData := [.none, .int 0, .str "", .tuple [], .list (ts.map wd), .tuple ((ts.drop 1).map wd), .tuple (ts.map wd ++ [.tuple []]), .tuple ((ts.take (ts.length - 1)).map wd)] ++ [.tuple [tkd ts], .list [tkd ts]] ++
  [.tuple ([.tuple [.bool false]] ++ (ts.drop 1).map wd), .tuple ([.tuple []] ++ (ts.drop 1).map wd), .tuple ((ts.take (ts.length - 1)).map wd ++ [.none])] ++ [.tuple ((ts.take (ts.length - 1)).map wd ++ [.int 0]), .tuple ((ts.take (ts.length - 1)).map wd ++ [.list []])]
theorem odd_all {rows : List (List Wy)} {ts : List Wy} (h2 : 2 ≤ rows.length) (h8 : rows.length ≤ 8) (hl : ts.length = rows.length) (hs : ∀ x ∈ ts, x.length ≤ 8) : ∀ d ∈ oddL ts, OddK rows d := by
  have wl : ∀ us : List Wy, (∀ x ∈ us, x ∈ ts) → ∀ x ∈ us.map wd, (itemsT x).length ≤ 1000 := fun us hu x hx => by
    obtain ⟨w, hw, rfl⟩ := List.mem_map.mp hx
    show (w.map PyData.int).length ≤ 1000
    rw [List.length_map]
    have := hs w (hu w hw)
    omega
  have w1 := wl (ts.drop 1) fun x hx => List.mem_of_mem_drop hx
  have w2 := wl (ts.take (ts.length - 1)) fun x hx => List.mem_of_mem_take hx
  have w0 := wl ts fun x hx => hx
  have c00 : chB rows 0 (.tuple [.bool false]) = false := by simp [chB, intsB, itemsT, isI]
  have c01 : chB rows 0 (.tuple []) = false := by
    unfold chB
    rw [show rts (.tuple []) = [] from rfl, show decide (([] : List Int) ∈ chW rows 0) = false by unfold chW; simp, Bool.and_false]
  have cn : ∀ {k x}, isTu x = false → chB rows k x = false := fun {k x} h => by
    unfold chB intsB
    simp only [h, Bool.false_and]
  have hlt : ((ts.take (ts.length - 1)).map wd).length = ts.length - 1 := by rw [List.length_map, List.length_take]; omega
  have hsn : ∀ {x : PyData}, ((ts.take (ts.length - 1)).map wd ++ [x])[ts.length - 1]? = some x := fun {x} => by
    rw [List.getElem?_append_right (by omega), hlt]
    simp
  have cat : ∀ {us vs : List PyData}, (∀ x ∈ us, (itemsT x).length ≤ 1000) → (∀ x ∈ vs, (itemsT x).length ≤ 1000) → Small (some (.tuple (us ++ vs))) := fun {us vs} h1 h2 => sm_tup22 fun x hx => (List.mem_append.mp hx).elim (h1 x) (h2 x)
  have one : ∀ {y : PyData}, (itemsT y).length ≤ 1000 → ∀ x ∈ [y], (itemsT x).length ≤ 1000 := fun {y} h x hx => by rw [List.mem_singleton.mp hx]; exact h
  intro d hd
  unfold oddL at hd
  simp only [List.mem_append, List.mem_cons, List.not_mem_nil, or_false] at hd
  rcases hd with (((rfl | rfl | rfl | rfl | rfl | rfl | rfl | rfl) | (rfl | rfl)) | (rfl | rfl | rfl)) | (rfl | rfl)
  · exact ⟨sm_no22 rfl, tk_nt rfl⟩
  · exact ⟨sm_no22 rfl, tk_nt rfl⟩
  · exact ⟨sm_no22 rfl, tk_nt rfl⟩
  · exact ⟨sm_no22 rfl, tk_len (by simp; omega)⟩
  · exact ⟨sm_no22 rfl, tk_nt rfl⟩
  · exact ⟨sm_tup22 w1, tk_len (by rw [List.length_map, List.length_drop]; omega)⟩
  · exact ⟨cat w0 (one (by decide)), tk_len (by rw [List.length_append, List.length_map]; simp; omega)⟩
  · exact ⟨sm_tup22 w2, tk_len (by rw [hlt]; omega)⟩
  · exact ⟨sm_tup22 (one (by show (ts.map wd).length ≤ 1000; rw [List.length_map]; omega)), tk_len (by simp; omega)⟩
  · exact ⟨sm_no22 rfl, tk_nt rfl⟩
  · exact ⟨cat (one (by decide)) w1, tk_item (i := 0) rfl c00⟩
  · exact ⟨cat (one (by decide)) w1, tk_item (i := 0) rfl c01⟩
  · exact ⟨cat w2 (one (by decide)), tk_item hsn (cn rfl)⟩
  · exact ⟨cat w2 (one (by decide)), tk_item hsn (cn rfl)⟩
  · exact ⟨cat w2 (one (by decide)), tk_item hsn (cn rfl)⟩
theorem odd_flg {rows : List (List Wy)} {ts : List Wy} {w : Wy} (hs : ∀ x ∈ ts, x.length ≤ 8) (hw : ts[1]? = some w) (h1 : (1 : Int) ∈ w) : OddK rows (.tuple (ts.map flgD)) := by
  refine ⟨sm_tup22 fun x hx => ?_, tk_item (i := 1) (x := flgD w) (by rw [List.getElem?_map, hw]; rfl) ?_⟩
  · obtain ⟨u, hu, rfl⟩ := List.mem_map.mp hx
    show (u.map flD).length ≤ 1000
    rw [List.length_map]
    have := hs u hu
    omega
  · have : intsB (flgD w) = false := by
      unfold intsB
      show (true && (w.map flD).all isI) = false
      rw [Bool.true_and]
      cases hq : (w.map flD).all isI with
      | false => rfl
      | true =>
        have := List.all_eq_true.mp hq (flD 1) (List.mem_map.mpr ⟨1, h1, rfl⟩)
        cases this
    unfold chB
    rw [this, Bool.false_and]
end Wk

set_option Elab.async false
set_option linter.all false
set_option maxRecDepth 100000
set_option maxHeartbeats 4000000
namespace Wk
open PySem PySem.Spec PyProof.Rows L2 Evl
theorem cut_init22 {xs : List V} (h : 1 ≤ xs.length) : cutV xs none (some (-1)) = xs.take (xs.length - 1) := by
  unfold cutV
  rw [HT.sIx_none]
  have : HT.sIx xs.length xs.length (some (-1)) = xs.length - 1 := by
    show (if (-1 : Int) < 0 then ((-1 : Int) + (xs.length : Int)).toNat else min (-1 : Int).toNat xs.length) = _
    rw [if_pos (by decide)]
    omega
  rw [this]
  simp
theorem ev_neg22 {σ : L2.St} {H : Hp} {i : Int} : Ev (tUn (rU fun i => .int (-i)) (tC (.int i))) σ H (.int (-i)) := fun H1 e Q q => ⟨i, rfl, q H1 (Ex.refl _)⟩
section
variable {K : PySem.W.Frag} {te tb ta : TE} {σ : L2.St} {H H0 H1 H' : Hp} {ds es : List PyData} {xs : List V} {l : Addr}
theorem d_es (h : EvS te σ H xs) (hd : DqA H xs ds) (hn : noLA ds = true) : EvD te σ H (.tuple ds) := fun H1 e Q q => h H1 e _ fun p H2 e2 hp =>
  q _ H2 e2 (.tup (by rw [fr_at fun l z => by rw [e2 _ _ z] at hp; cases hp]; exact hp) (dqa_fr e2 hn ((hd.mono e).mono e2)))
theorem d_catT (ha : EvD ta σ H (.tuple ds)) (hb : EvD tb σ H (.tuple es)) (hl : ds.length + es.length ≤ 1000) : EvD (tOp (rCatA K) ta tb) σ H (.tuple (ds ++ es)) := fun H1 e Q q =>
  ha H1 e _ fun u H2 e2 hu => hb H2 (e.trans e2) _ fun v H3 e3 hv => by
    cases hu with
    | @tup ca xs _ a1 a2 =>
      cases hv with
      | @tup cb ys _ b1 b2 =>
        have l1 := a2.length
        have l2 := b2.length
        have a1' := (fr_up e3) _ _ a1
        have a2' := a2.mono (fr_up (H1 := H1) e3)
        have b1' := (fr_dn (H2 := H3) e2) _ _ b1
        have b2' := b2.mono (fr_dn (H2 := H3) e2)
        refine ⟨_, _, _, _, rfl, rfl, st_of (fr_sub _ _ a1'), st_of (fr_sub _ _ b1'), by rw [sizeLine_eq]; omega, fun z => ?_, fun _ z => ?_, fun _ _ t ht => ?_⟩
        · subst z
          cases a2
          exact q _ H3 (e2.trans e3) (.tup b1' b2')
        · subst z
          cases b2
          rw [List.append_nil] at q
          exact q _ H3 (e2.trans e3) (.tup a1' a2')
        · have en := Ex.new (o := .tup (xs ++ ys)) ht
          refine q _ _ ((e2.trans e3).trans en) (.tup (fr_new (fresh_back (e2.trans e3) ht) upd_same) (DqA.append (a2'.mono (fr_up en)) (b2'.mono (fr_up en))))
/-- a list of things that were made since H0 -/
structure Thg (H0 H : Hp) (l : Addr) (ds : List PyData) : Prop where
  n : H0 l = none
  e : Ex H0 H
  ex : ∃ us, H l = some (.lst us) ∧ DqA (off l (Fr H0 H)) us ds
theorem Thg.ext (h : Thg H0 H l ds) (e : Ex H H') : Thg H0 H' l ds := by
  obtain ⟨us, h1, h2⟩ := h.ex
  exact ⟨h.n, h.e.trans e, us, e _ _ h1, h2.mono (off_ex (fr_up e))⟩
theorem q_thg {i : Nat} {tz : TS} {D : Ends} (h : Thg H0 H l ds) (hv : σ[i]? = some (some (.ref l))) (hd : EvLD te σ H es) (hl : ds.length + es.length ≤ 1000) (k : ∀ l' H', Ex H H' → Thg H0 H' l' (ds ++ es) → tz D (σ.set i (some (.ref l'))) H') : tSeq (tAsg (tOp rCat (tVar i) te) (gName i)) tz D σ H := by
  obtain ⟨us, h1, h2⟩ := h.ex
  refine q_asgG ⟨.ref l, hv, hd H (Ex.refl _) _ fun r vs H3 nr e3 hr hvs => ⟨l, r, us, vs, rfl, rfl, e3 _ _ h1, hr, by have := h2.length; have := hvs.length; rw [sizeLine_eq]; omega, fun t ht => ?_⟩⟩
  have e4 := Ex.new (o := .lst (us ++ vs)) ht
  have e34 := e3.trans e4
  refine g_name (k t _ e34 ⟨fresh_back (h.e.trans e3) ht, h.e.trans e34, us ++ vs, upd_same, DqA.append (h2.mono fun a o z => ?_) (hvs.mono fun a o z => ?_)⟩)
  · obtain ⟨z1, z2⟩ := fr_inv (off_in l _ _ _ z)
    rw [off_at (fun c => by rw [c] at z1; rw [e3 _ _ z1] at ht; cases ht), fr_at z2]
    exact e34 _ _ z1
  · obtain ⟨z1, z2⟩ := fr_inv (off_in r _ _ _ z)
    rw [off_at (fun c => by rw [c, ht] at z1; cases z1), fr_at fun l c => z2 l (h.e _ _ c)]
    exact e4 _ _ z1
theorem Thg.add (h : Thg H0 H l ds) {v : V} {d : PyData} (hv : Dq (off l (Fr H0 H)) v d) : ∃ us, H l = some (.lst us) ∧ us.length = ds.length ∧ Thg H0 (upd H l (.lst (us ++ [v]))) l (ds ++ [d]) := by
  obtain ⟨us, h1, h2⟩ := h.ex
  have eo : off l (Fr H0 (upd H l (.lst (us ++ [v])))) = off l (Fr H0 H) := by
    funext a
    unfold off Fr
    split
    · rfl
    · rename_i c
      rw [upd_ne c]
  exact ⟨us, h1, h2.length, h.n, Ex.mut h.e h.n, us ++ [v], upd_same, by rw [eo]; exact DqA.append h2 (.cons hv .nil)⟩
end
section
variable {P : Program} {w : World} {K : PySem.W.Frag} {mg : Str → Option Value} {base : Heap} {f : Addr} {fd : FuncData}
/-! _law_flagged -/
def spFlg : Sp := fun vs H Q _ => ∃ (wa : Addr) (wy : Wy), vs = [.ref wa] ∧ H wa = some (.tup (wy.map V.int)) ∧ wy.length ≤ 1000 ∧ ∀ H' q, Ex H H' → H q = none → H' q = some (.tup (wy.map flV)) → Q (.ref q) H'
abbrev sFlg : Stmt := top 56
abbrev nFlg : List Str := ["_law_way", "_law_router"]
theorem scFlg : FnScope nFlg ["_law_way"] (defScope sFlg) := ⟨rfl, rfl, rfl, by decide +kernel, rfl, by decide +kernel, by decide +kernel⟩
theorem ok_flg (B : Bl mg) (F : FnP K "_law_flagged" sFlg f fd) : FnOk P w K mg base CX0 1 f fd ["_law_way"] spFlg := by
  refine F.ok scFlg (fun vs H Q E h => ?_) (fun cdv A outer s H vs Q E hr h => ?_)
  · obtain ⟨wa, wy, rfl, _⟩ := h
    rfl
  · obtain ⟨wa, wy, rfl, hwa, hl, k⟩ := h
    refine ⟨_, pss_one (ps_ret (pe_callTy (call_tupleK (K := K) rfl) (by rfl) B.tuple PyProof.Rows.boot_tuple (pa_cons (pe_lc (own := [("_law_router", 1)]) (g := gName 1) (tt := tYes) rfl scFlg.nd (pi_tup (pv 0)) (blkOk_by (N := nFlg) (sc := defScope sFlg) (by decide +kernel))
        (fun _ _ _ _ _ => pg_name (i := 1) scFlg.nd rfl (Or.inl rfl)) (fun _ _ _ _ _ => pts_nil) (fun _ _ _ _ _ => pe_ifExp (pt_cmpR op_eq (pv 1) pe_int (nomark _)) pe_bl (pv 1))) pa_nil))), ?_⟩
    refine ret_any ?_
    have z := el_lcT (K := K) (a := wa) (xs := wy.map V.int) (tl := tVar 0) (t := tYes) (te := tIf (tTest (tOp rEq (tVar 1) (tC (.int 1)))) (tC (.bl true)) (tVar 1)) (σ := start nFlg [.ref wa]) (H := H) (j := 1) (vs := [1]) (fun _ => true) (fun i => flV (wy.getD i 0)) (ev_var rfl) (st_of hwa) (by rw [List.length_map]; omega) (fun x => rfl) (fun _ _ _ _ _ => et_yes) (fun i y H3 e3 hy _ => by
        obtain ⟨n, hn, rfl⟩ : ∃ n, wy[i]? = some n ∧ y = .int n := by
          rw [List.getElem?_map] at hy
          cases hq : wy[i]? with
          | none => rw [hq] at hy; cases hy
          | some n => rw [hq] at hy; exact ⟨n, rfl, (Option.some.inj hy).symm⟩
        have eg : wy.getD i 0 = n := by rw [List.getD_eq_getElem?_getD, hn]; rfl
        show Ev _ _ _ (flV (wy.getD i 0))
        rw [eg]
        refine ev_if (b := decide (V.int n = V.int 1)) (et_test (ev_op (ev_var (i := 1) rfl) ev_c (rv_eq rfl))) (fun hb => ?_) (fun hb => ?_)
        · have : n = 1 := by have := of_decide_eq_true hb; injection this
          unfold flV
          rw [if_pos this]
          exact ev_c
        · have : ¬ n = 1 := fun c => of_decide_eq_false hb (by rw [c])
          unfold flV
          rw [if_neg this]
          exact ev_var rfl)
    have eg : given (wy.map V.int).length (fun _ => true) (fun i => flV (wy.getD i 0)) = wy.map flV := by
      rw [given_all, List.length_map]
      apply List.ext_getElem (by simp)
      intro i h1 h2
      have h3 : i < wy.length := by simpa using h2
      simp [List.getD_eq_getElem?_getD, List.getElem?_eq_getElem h3]
    rw [eg] at z
    refine cb1 (z H (Ex.refl _) _ fun N H3 nN e3 hN3 => ⟨N, _, rfl, .inl ⟨sq_of hN3, fun q hq => ?_⟩⟩)
    exact k _ q (e3.trans (Ex.new hq)) (fresh_back e3 hq) upd_same
theorem dqa_flg {H : Hp} : ∀ w : Wy, DqA H (w.map flV) (w.map flD)
  | [] => .nil
  | x :: w => by
    refine .cons ?_ (dqa_flg w)
    unfold flV flD
    by_cases c : x = 1
    · rw [if_pos c, if_pos c]; exact .bl true
    · rw [if_neg c, if_neg c]; exact .int x
end
end Wk

set_option Elab.async false
set_option linter.all false
set_option maxRecDepth 100000
set_option maxHeartbeats 8000000
namespace Wk
open PySem PySem.Spec PyProof.Rows L2 Evl
theorem any_one (w : Wy) : ((w.map PyData.int).any fun z => PyData.eqv z (.int 1)) = decide ((1 : Int) ∈ w) := by
  induction w with
  | nil => rfl
  | cons x w ih =>
    rw [List.map_cons, List.any_cons, ih]
    have : PyData.eqv (.int x) (.int 1) = decide (x = 1) := by
      rw [Bool.eq_iff_iff]
      simp [PyData.eqv]
    rw [this]
    by_cases c : x = 1
    · rw [decide_eq_true c, c]
      simp
    · rw [decide_eq_false c, Bool.false_or, decide_eq_decide]
      simp [Ne.symm c]
theorem d_listT {K : PySem.W.Frag} {te : TE} {σ : L2.St} {H : Hp} {ds : List PyData} (h : EvD te σ H (.tuple ds)) : EvLD (tCB (rListS K) (tCons te tNil)) σ H ds := fun H1 e Q q => h H1 e _ fun u H2 e2 hu => by
  cases hu with
  | @tup a xs _ a1 a2 =>
    refine ⟨a, xs, rfl, .inr (st_of (fr_sub _ _ a1)), fun t ht => ?_⟩
    have e3 := Ex.new (o := .lst xs) ht
    refine q t xs _ (fresh_back e2 ht) (e2.trans e3) upd_same (a2.mono fun a o z => ?_)
    obtain ⟨z1, z2⟩ := fr_inv z
    rw [off_at (fun c => by rw [c, ht] at z1; cases z1), fr_at z2]
    exact e3 _ _ z1
theorem fr_rS {H H' : Hp} {p c : Addr} (h : Pol H p c) (e : Ex H H') : Ex (Fr H H') (rS H' p) := fun a o z => by
  obtain ⟨z1, z2⟩ := fr_inv z
  obtain ⟨g, hg, _, _, ⟨og, hog⟩, r, hr⟩ := h.gg
  rw [rS_at (fun q => by rw [q] at z2; exact z2 _ hr) (fun q => by rw [h.gx e, hg] at q; cases q; exact z2 _ hog)]
  exact z1
theorem noL_tkd22 (t : List Wy) : noL (tkd t) = true := noLA_wds t
section
variable {P : Program} {w : World} {K : PySem.W.Frag} {mg : Str → Option Value} {base : Heap} {f : Addr} {fd : FuncData}
/-! _law_odd -/
def spOdd3 : Sp := fun vs H Q _ => ∃ (p c ta : Addr) (txs : List V) (rows : List (List Wy)) (ts : List Wy), vs = [.ref p, .ref ta] ∧ Pol H p c ∧ H ta = some (.tup txs) ∧ DqA H txs (ts.map wd) ∧ 2 ≤ rows.length ∧ rows.length ≤ 8 ∧ ts.length = rows.length ∧ (∀ x ∈ ts, x.length ≤ 8) ∧
  ∀ H' v d, Dr p c H H' → Dq H' v d → OddK rows d → Q v H'
abbrev sOdd3 : Stmt := top 57
abbrev nOdd3 : List Str := ["_law_pool_here", "_law_taking", "_law_things", "_law_flagged_here", "_law_way"]
theorem scOdd3 : FnScope nOdd3 ["_law_pool_here", "_law_taking"] (defScope sOdd3) := ⟨rfl, rfl, rfl, by decide +kernel, rfl, by decide +kernel, by decide +kernel⟩
theorem ok_odd3 (B : Bl mg) (C : Cal P w K mg base "_law_draw" ["_law_pool_here", "_law_many"] 1 spDraw3) (CF : Cal P w K mg base "_law_flagged" ["_law_way"] 1 spFlg) (F : FnP K "_law_odd" sOdd3 f fd) : FnOk P w K mg base CX0 2 f fd ["_law_pool_here", "_law_taking"] spOdd3 := by
  refine F.ok scOdd3 (fun vs H Q E h => ?_) (fun cdv A outer s H vs Q E hr h => ?_)
  · obtain ⟨p, c, ta, txs, rows, ts, rfl, _⟩ := h
    rfl
  · obtain ⟨p, c, ta, txs, rows, ts, rfl, hP, hta, htx, h2, h8, hlen, hs8, k⟩ := h
    have r1 : Room 1 _ := hr
    have hu : (A.deeper (envOfC "_law_odd" (defScope sOdd3) s.heap.objs.size f cdv)).units + 66 < cLine := by have := hr.un; omega
    refine ⟨_, pss_cons (ps_set (i := 2) scOdd3.nd rfl (Or.inl rfl) (pe_lst (pa_cons pe_non (pa_cons pe_int (pa_cons pe_str (pa_cons (pe_tup pa_nil) (pa_cons (pe_callTy (call_listK2 (K := K) rfl) (by rfl) B.list PyProof.Rows.boot_list (pa_cons (pv 1) pa_nil)) (pa_cons (pe_slice sl_tupA (pv 1) (po_some pe_int) po_none)
          (pa_cons (pe_op (op_catAK (K := K) rfl) (pv 1) (pe_tup (pa_cons (pe_tup pa_nil) pa_nil))) (pa_cons (pe_slice sl_tupA (pv 1) po_none (po_some (pe_un un_neg pe_int))) pa_nil))))))))))
      (pss_cons (ps_set (i := 2) scOdd3.nd rfl (Or.inl rfl) (pe_op op_cat (pv 2) (pe_lst (pa_cons (pe_tup (pa_cons (pv 1) pa_nil)) (pa_cons (pe_lst (pa_cons (pv 1) pa_nil)) pa_nil)))))
      (pss_cons (ps_set (i := 2) scOdd3.nd rfl (Or.inl rfl) (pe_op op_cat (pv 2) (pe_lst (pa_cons (pe_op (op_catAK (K := K) rfl) (pe_tup (pa_cons (pe_tup (pa_cons pe_bl pa_nil)) pa_nil)) (pe_slice sl_tupA (pv 1) (po_some pe_int) po_none))
          (pa_cons (pe_op (op_catAK (K := K) rfl) (pe_tup (pa_cons (pe_tup pa_nil) pa_nil)) (pe_slice sl_tupA (pv 1) (po_some pe_int) po_none)) (pa_cons (pe_op (op_catAK (K := K) rfl) (pe_slice sl_tupA (pv 1) po_none (po_some (pe_un un_neg pe_int))) (pe_tup (pa_cons pe_non pa_nil))) pa_nil))))))
      (pss_cons (ps_set (i := 2) scOdd3.nd rfl (Or.inl rfl) (pe_op op_cat (pv 2) (pe_lst (pa_cons (pe_op (op_catAK (K := K) rfl) (pe_slice sl_tupA (pv 1) po_none (po_some (pe_un un_neg pe_int))) (pe_tup (pa_cons pe_int pa_nil)))
          (pa_cons (pe_op (op_catAK (K := K) rfl) (pe_slice sl_tupA (pv 1) po_none (po_some (pe_un un_neg pe_int))) (pe_tup (pa_cons (pe_lst pa_nil) pa_nil))) pa_nil)))))
      (pss_cons (ps_set (i := 3) scOdd3.nd rfl (Or.inl rfl) (pe_callTy (call_tupleK (K := K) rfl) (by rfl) B.tuple PyProof.Rows.boot_tuple (pa_cons (pe_lc (own := [("_law_way", 4)]) (g := gName 4) (tt := tYes) rfl scOdd3.nd (pi_tup (pv 1)) (blkOk_by (N := nOdd3) (sc := defScope sOdd3) (by decide +kernel))
          (fun _ _ _ _ _ => pg_name (i := 4) scOdd3.nd rfl (Or.inl rfl)) (fun _ _ _ _ _ => pts_nil) (fun _ _ _ _ _ => pe_cal CF r1 (by rfl) (pa_cons (pv 4) pa_nil))) pa_nil)))
      (pss_cons (ps_if (pt_cmpR (op_inU hu) pe_int (pe_ix ix_tup (pv 1) pe_int (fun _ _ => rfl)) rfl) (pss_one (ps_expr (pe_bm PySem.F.plainAttrs_list PySem.F.slot_list_append PySem.F.type_list_append mt_append (pv 2) (pa_cons (pv 3) pa_nil)))) pss_nil)
      (pss_one (ps_ret (pe_ix (ix_listK (K := K) rfl) (pv 2) (pe_cal C r1 (by rfl) (pa_cons (pv 0) (pa_cons (pe_callB call_len_seq (by rfl) B.len PySem.boot_len (pa_cons (pv 2) pa_nil)) pa_nil))) (fun _ _ => rfl))))))))), ?_⟩
    have htl := htx.length
    rw [List.length_map] at htl
    -- what is read of the taking
    have hv1 : ∀ {o2 o3 o4 : Option V} {H1 : Hp}, Ev (tVar 1) [some (.ref p), some (.ref ta), o2, o3, o4] H1 (.ref ta) := ev_var rfl
    have dT : ∀ {o2 o3 o4 : Option V} {H1 : Hp}, Ex H H1 → EvD (tVar 1) [some (.ref p), some (.ref ta), o2, o3, o4] H1 (.tuple (ts.map wd)) := fun e => d_ev hv1 (noLA_wds ts) fun H2 e2 => .tup ((e.trans e2) _ _ hta) (htx.mono (e.trans e2))
    have dTail : ∀ {o2 o3 o4 : Option V} {H1 : Hp}, Ex H H1 → EvD (tSl (rSlA K) (tVar 1) (tPart (tC (.int 1))) tNoPart) [some (.ref p), some (.ref ta), o2, o3, o4] H1 (.tuple ((ts.drop 1).map wd)) := fun {o2 o3 o4 H1} e => by
      have z := es_sl (K := K) (te := tVar 1) (σ := [some (.ref p), some (.ref ta), o2, o3, o4]) (H := H1) (lo := some ((1 : Nat) : Int)) hv1 (eo_some ev_c) eo_none (e _ _ hta)
      rw [cut_from txs 1 (by omega)] at z
      have hd := (htx.mono e).drop 1
      rw [← List.map_drop] at hd
      exact d_es z hd (noLA_wds _)
    have dInit : ∀ {o2 o3 o4 : Option V} {H1 : Hp}, Ex H H1 → EvD (tSl (rSlA K) (tVar 1) tNoPart (tPart (tUn (rU fun i => .int (-i)) (tC (.int 1))))) [some (.ref p), some (.ref ta), o2, o3, o4] H1 (.tuple ((ts.take (ts.length - 1)).map wd)) := fun {o2 o3 o4 H1} e => by
      have z := es_sl (K := K) (te := tVar 1) (σ := [some (.ref p), some (.ref ta), o2, o3, o4]) (H := H1) hv1 eo_none (eo_some (ev_neg22 (i := 1))) (e _ _ hta)
      rw [cut_init22 (xs := txs) (by omega), htl] at z
      have hd := (htx.mono e).take (ts.length - 1)
      rw [← List.map_take] at hd
      exact d_es z hd (noLA_wds _)
    have dList : ∀ {o2 o3 o4 : Option V} {H1 : Hp}, Ex H H1 → EvLD (tCB (rListS K) (tCons (tVar 1) tNil)) [some (.ref p), some (.ref ta), o2, o3, o4] H1 (ts.map wd) := fun e => d_listT (dT e)
    have hlt : ((ts.take (ts.length - 1)).map wd).length ≤ 8 := by rw [List.length_map, List.length_take]; omega
    have hld : ((ts.drop 1).map wd).length ≤ 8 := by rw [List.length_map, List.length_drop]; omega
    have hlm : (ts.map wd).length ≤ 8 := by rw [List.length_map]; omega
    have cz : ∀ {us vs : List PyData}, us.length ≤ 8 → vs.length ≤ 8 → us.length + vs.length ≤ 1000 := fun h1 h2 => by omega
    -- the last step
    have fin : ∀ (H7 : Hp) (l : Addr) (ds : List PyData) (o3 o4 : Option V), Thg H H7 l ds → (∀ d ∈ ds, OddK rows d) → 0 < ds.length → ds.length ≤ 1000 → (tOp (rIxL K) (tVar 2) (tCall spDraw3 [] E0 (tCons (tVar 0) (tCons (tCB (rLenS K) (tCons (tVar 2) tNil)) tNil)))) [some (.ref p), some (.ref ta), some (.ref l), o3, o4] H7 Q := fun H7 l ds o3 o4 T hds h0 h9 => by
      obtain ⟨us, hl, hus⟩ := T.ex
      have hul := hus.length
      refine ⟨.ref l, rfl, .ref p, rfl, .ref l, rfl, l, us, rfl, .inl (sq_of hl), p, c, (us.length : Int), rfl, hP.ext T.e, by omega, by omega, fun H8 z d8 hz0 hz1 => ?_⟩
      have hl8 := rS_sub _ _ (d8.ex _ _ (hP.nr T.n T.e hl))
      obtain ⟨n, rfl⟩ := Int.eq_ofNat_of_zero_le hz0
      have hn : n < us.length := by omega
      have hun : us[n]? = some us[n] := List.getElem?_eq_getElem hn
      obtain ⟨d, hd1, hd2⟩ := hus.get hun
      refine ⟨l, us, (n : Int), us[n], rfl, rfl, sq_of hl8, atI_nat hun, k H8 us[n] d ((Dr.of_ex hP T.e).trans d8) ?_ (hds d (List.mem_of_getElem? hd1))⟩
      exact ((((hd2.mono (off_in l _)).mono (fr_rS hP T.e)).mono d8.ex).mono rS_sub)
    have D1 : EvLD (tLst (tCons (tC .non) (tCons (tC (.int 0)) (tCons (tC (.str "")) (tCons (tTup tNil) (tCons (tCB (rListS K) (tCons (tVar 1) tNil)) (tCons (tSl (rSlA K) (tVar 1) (tPart (tC (.int 1))) tNoPart) (tCons (tOp (rCatA K) (tVar 1) (tTup (tCons (tTup tNil) tNil))) (tCons (tSl (rSlA K) (tVar 1) tNoPart (tPart (tUn (rU fun i => .int (-i)) (tC (.int 1))))) tNil))))))))) [some (.ref p), some (.ref ta), none, none, none] H
        [.none, .int 0, .str "", .tuple [], .list (ts.map wd), .tuple ((ts.drop 1).map wd), .tuple (ts.map wd ++ [.tuple []]), .tuple ((ts.take (ts.length - 1)).map wd)] :=
      d_lst (d_cons (d_ev ev_c rfl fun _ _ => .non) (d_cons (d_ev ev_c rfl fun _ _ => .int _) (d_cons (d_str _) (d_cons (d_tup d_nil (by decide)) (d_cons (d_L (dList (Ex.refl _))) (d_cons (dTail (Ex.refl _)) (d_cons (d_catT (dT (Ex.refl _)) (d_tup (d_cons (d_tup d_nil (by decide)) d_nil) (by decide)) (cz hlm (by decide))) (d_cons (dInit (Ex.refl _)) d_nil)))))))) (by simp)
    refine q_asgG (D1 H (Ex.refl _) _ fun l1 us1 H1 nl1 e1 hl1 hus1 => ?_)
    have T1 : Thg H H1 l1 _ := ⟨nl1, e1, us1, hl1, hus1⟩
    clear D1 hus1
    refine g_name ?_
    change tSeq _ _ _ [some (.ref p), some (.ref ta), some (.ref l1), none, none] H1
    refine q_thg T1 rfl (d_lst (d_cons (d_tup (d_cons (dT T1.e) d_nil) (by simp)) (d_cons (d_L (d_lst (d_cons (dT T1.e) d_nil) (by simp))) d_nil)) (by simp)) (by simp) fun l2 H2 _ T2 => ?_
    change tSeq _ _ _ [some (.ref p), some (.ref ta), some (.ref l2), none, none] H2
    refine q_thg T2 rfl (d_lst (d_cons (d_catT (ds := [.tuple [.bool false]]) (d_tup (d_cons (d_tup (d_cons (d_ev ev_c rfl fun _ _ => .bl false) d_nil) (by decide)) d_nil) (by simp)) (dTail T2.e) (cz (by simp) hld)) (d_cons (d_catT (ds := [.tuple []]) (d_tup (d_cons (d_tup d_nil (by decide)) d_nil) (by simp)) (dTail T2.e) (cz (by simp) hld)) (d_cons (d_catT (dInit T2.e) (d_tup (d_cons (d_ev ev_c rfl fun _ _ => .non) d_nil) (by simp)) (cz hlt (by simp))) d_nil))) (by simp)) (by simp) fun l3 H3 _ T3 => ?_
    change tSeq _ _ _ [some (.ref p), some (.ref ta), some (.ref l3), none, none] H3
    refine q_thg T3 rfl (d_lst (d_cons (d_catT (dInit T3.e) (d_tup (d_cons (d_ev ev_c rfl fun _ _ => .int 0) d_nil) (by simp)) (cz hlt (by simp))) (d_cons (d_catT (dInit T3.e) (d_tup (d_cons (d_L (d_lst d_nil (by decide))) d_nil) (by simp)) (cz hlt (by simp))) d_nil)) (by simp)) (by simp) fun l4 H4 _ T4 => ?_
    change tSeq _ _ _ [some (.ref p), some (.ref ta), some (.ref l4), none, none] H4
    have T4' : Thg H H4 l4 (oddL ts) := T4
    clear T1 T2 T3 T4
    have hodd := odd_all h2 h8 hlen hs8
    have hol : (oddL ts).length = 15 := rfl
    generalize oddL ts = os at *
    have Z := dl_T (K := K) (a := ta) (xs := txs) (tl := tVar 1) (t := tYes) (te := tCall spFlg [] E0 (tCons (tVar 4) tNil)) (σ := [some (.ref p), some (.ref ta), some (.ref l4), none, none]) (H := H4) (j := 4) (vs := [4]) (fun _ => true) (fun i => flgD (ts.getD i [])) hv1 (st_of (T4'.e _ _ hta)) (by omega) (fun x => rfl) (fun _ _ _ _ _ => et_yes) (fun i y H5 e5 hy _ => by
      obtain ⟨wy, hw1, hw2⟩ := (htx.mono (T4'.e.trans e5)).wds_inv hy
      obtain ⟨b, rfl, hb⟩ := wd_ref hw2
      have eg : ts.getD i [] = wy := by rw [List.getD_eq_getElem?_getD, hw1]; rfl
      have := hs8 wy (List.mem_of_getElem? hw1)
      show EvD _ _ _ (flgD (ts.getD i []))
      rw [eg]
      exact fun H6 e6 Q6 q6 => ⟨.ref b, rfl, b, wy, rfl, e6 _ _ hb, by omega, fun H7 q e7 nq hq => q6 (.ref q) H7 e7 (.tup (fr_new nq hq) (dqa_flg wy))⟩)
    rw [htl, upTo_map .none ts [] flgD] at Z
    refine q_asgG (cb1 (Z H4 (Ex.refl _) _ fun N us5 H5 nN e5 hN5 hus5 => ⟨N, us5, rfl, .inl ⟨sq_of hN5, fun T hT => ?_⟩⟩))
    clear Z
    have e6 := Ex.new (o := .tup us5) hT
    have hTT : (upd H5 T (.tup us5)) T = some (.tup us5) := upd_same
    have hT4 : H4 T = none := fresh_back e5 hT
    have e46 := e5.trans e6
    have hus6 : DqA (Fr H4 (upd H5 T (.tup us5))) us5 (ts.map flgD) := (hus5.mono (off_in N _)).mono (fr_up e6)
    generalize upd H5 T (.tup us5) = H6 at *
    have T6 := T4'.ext e46
    have hTd : Dq (Fr H4 H6) (.ref T) (.tuple (ts.map flgD)) := .tup (fr_new hT4 hTT) hus6
    obtain ⟨us4, hl4, _⟩ := T4'.ex
    have hTo : Dq (off l4 (Fr H H6)) (.ref T) (.tuple (ts.map flgD)) := hTd.mono fun a o z => by
      obtain ⟨z1, z2⟩ := fr_inv z
      rw [off_at (fun c => by rw [c] at z2; exact z2 _ hl4), fr_at fun l c => z2 l (T4'.e _ _ c)]
      exact z1
    refine g_name ?_
    change tSeq _ _ _ [some (.ref p), some (.ref ta), some (.ref l4), some (.ref T), none] H6
    have h1l : 1 < ts.length := by omega
    have ht1 : ts[1]? = some ts[1] := List.getElem?_eq_getElem h1l
    obtain ⟨x1, hx1, hd1⟩ := (htx.mono T6.e).at (i := 1) (d := wd ts[1]) (by rw [List.getElem?_map, ht1]; rfl)
    have c1 : Ev (tOp (rInU K) (tC (.int 1)) (tOp (rIxT K) (tVar 1) (tC (.int 1)))) [some (.ref p), some (.ref ta), some (.ref l4), some (.ref T), none] H6 (.bl (decide ((1 : Int) ∈ ts[1]))) :=
      ev_op ev_c (ev_at (K := K) (j := 1) hv1 (st_of (T6.e _ _ hta)) (ev_is ev_c rfl) hx1) fun H7 e7 Q7 q7 => ⟨.int 1, (ts[1]).map PyData.int, Dq.dp rfl (.int 1), dp_wd22 (hd1.mono e7), rfl, layAll.mpr fun d hd => by obtain ⟨i, _, rfl⟩ := List.mem_map.mp hd; simp [PyData.canLay0], by
        rw [any_one]
        exact q7 H7 (Ex.refl _)⟩
    refine q_when (et_test c1) (fun hb H7 e7 => ?_) (fun hb H7 e7 => ?_)
    · have T7 := T6.ext e7
      obtain ⟨us7, hl7, hul7, T8⟩ := T7.add (hTo.mono (off_ex (fr_up e7)))
      refine ⟨.ref l4, rfl, .inl ⟨rfl, _, sq_of hl7⟩, tc1 ⟨.ref T, rfl, l4, us7, .ref T, rfl, rfl, hl7, by rw [sizeLine_eq]; omega, ?_⟩⟩
      dsimp only
      refine ret_any ?_
      refine fin _ l4 _ (some (.ref T)) none T8 (fun d hd => ?_) (by simp) (by rw [List.length_append, hol]; simp)
      rcases List.mem_append.mp hd with z | z
      · exact hodd d z
      · rw [List.mem_singleton.mp z]
        exact odd_flg hs8 ht1 (of_decide_eq_true hb)
    · refine ret_any ?_
      exact fin H7 l4 _ (some (.ref T)) none (T6.ext e7) hodd (by omega) (by omega)
end
end Wk

set_option Elab.async false
set_option linter.all false
set_option maxRecDepth 100000
set_option maxHeartbeats 8000000
namespace Wk
open PySem PySem.Spec PyProof.Rows L2 Evl
theorem rts_wd22 (w : Wy) : rts (wd w) = w := by
  show (w.map PyData.int).map valI = w
  rw [List.map_map]
  induction w with
  | nil => rfl
  | cons x l ih => rw [List.map_cons, ih]; rfl
theorem noLA_tks22 (L : List (List Wy)) : noLA (L.map tkd) = true := noLA_all fun d hd => by
  obtain ⟨t, _, rfl⟩ := List.mem_map.mp hd
  exact noL_tkd22 t
theorem noL_pd22 (rows : List (List Wy)) : noL (pd rows) = true := by
  show noLA (rows.map rd) = true
  exact noLA_all fun d hd => by
    obtain ⟨row, _, rfl⟩ := List.mem_map.mp hd
    show noLA (row.map wd) = true
    exact noLA_wds row
theorem out_no {rows : List (List Wy)} {t : List Wy} (hT : FullT rows t) (h : okP rows t = false) : outB rows (some (tkd t)) = false := by
  have e : tkOf (tkd t) = t.map some := by
    show (t.map wd).map (fun x => some (rts x)) = _
    rw [List.map_map]
    apply List.map_congr_left
    intro x _
    show some (rts (wd x)) = some x
    rw [rts_wd22]
  unfold okP at h
  rw [hT.ptk] at h
  unfold outB
  show (tkB rows (some (tkd t)) && decide (fcs rows (tkOf (tkd t)) (rows.length - 1) 1 = none)) = false
  rw [e, h, Bool.and_false]
theorem full_row {rows : List (List Wy)} {t : List Wy} (h2 : 2 ≤ rows.length) (h : RowOf ([[0]] :: (rows.drop 1).map fun row => [] :: row) ([[0]] :: (rows.drop 1).map fun row => ([] : Wy) :: row).length t) : FullT rows t := by
  refine ⟨by rw [h.1, List.length_cons, List.length_map, List.length_drop]; omega, fun i x hx => ?_⟩
  have z := h.2 i x hx
  unfold chW
  cases i with
  | zero =>
    rw [if_pos rfl]
    exact z
  | succ i =>
    rw [if_neg (by omega)]
    rw [List.getD_cons_succ, List.getD_eq_getElem?_getD, List.getElem?_map, List.getElem?_drop] at z
    rw [List.getD_eq_getElem?_getD, show i + 1 = 1 + i by omega]
    cases hq : rows[1 + i]? with
    | none => rw [hq] at z; cases z
    | some row =>
      rw [hq] at z
      have z' : x ∈ [] :: row := z
      show x ∈ row ++ [[]]
      rcases List.mem_cons.mp z' with c | c
      · rw [c]; simp
      · exact List.mem_append_left _ c
/-- Wishes stand behind the pool -/
theorem wo_rS {CW : Addr} {H : Hp} {p c : Addr} {v : V} {rows : List (List Wy)} (hP : Pol H p c) (h : WO CW H v rows) : WO CW (rS H p) v rows := by
  obtain ⟨x, dx, lv, h1, h2, h3⟩ := h.ex
  obtain ⟨g, hg, _, _, ⟨og, hog⟩, r, hr⟩ := hP.gg
  refine ⟨⟨x, dx, lv, h1, ?_, dq_kt hP.kt (noL_pd22 rows) h3⟩, h.g, h.n2, h.n8, h.r6⟩
  rw [rS_at (fun q => by rw [q, hr] at h2; cases h2) (fun q => by rw [hg] at q; cases q; rw [hog] at h2; cases h2)]
  exact h2
/-- what stands while the takings are gone through -/
structure LawI (p c D l : Addr) (Hb H' : Hp) (us : List V) (L : List (List Wy)) (rows : List (List Wy)) (n : Nat) : Prop where
  dr : Dr p c Hb H'
  l : rS H' p l = some (.lst us)
  us : DqA (rS H' p) us (L.map tkd)
  ex : ∃ (vs : List V) (O : List (List Wy)), rS H' p D = some (.lst vs) ∧ DqA (rS H' p) vs (O.map tkd) ∧ O.length ≤ n ∧ ∀ t ∈ O, FullT rows t ∧ okP rows t = false
section
variable {p c D l : Addr} {Hb H' H2 : Hp} {us : List V} {L : List (List Wy)} {rows : List (List Wy)} {n : Nat}
theorem LawI.draw (h : LawI p c D l Hb H' us L rows n) (d : Dr p c H' H2) : LawI p c D l Hb H2 us L rows n := by
  obtain ⟨vs, O, h1, h2, h3, h4⟩ := h.ex
  exact ⟨h.dr.trans d, d.ex _ _ h.l, h.us.mono d.ex, vs, O, d.ex _ _ h1, h2.mono d.ex, h3, h4⟩
theorem LawI.ext (h : LawI p c D l Hb H' us L rows n) (e : Ex H' H2) : LawI p c D l Hb H2 us L rows n := h.draw (Dr.of_ex h.dr.pl e)
theorem LawI.le (h : LawI p c D l Hb H' us L rows n) {m : Nat} (hm : n ≤ m) : LawI p c D l Hb H' us L rows m := by
  obtain ⟨vs, O, h1, h2, h3, h4⟩ := h.ex
  exact ⟨h.dr, h.l, h.us, vs, O, h1, h2, by omega, h4⟩
theorem LawI.add (h : LawI p c D l Hb H' us L rows n) (nD : Hb D = none) (nc : D ≠ c) (nl : l ≠ D) {v : V} {t : List Wy} (hv : Dq (rS H' p) v (tkd t)) (hT : FullT rows t) (ho : okP rows t = false) : ∃ vs, H' D = some (.lst vs) ∧ vs.length ≤ n ∧ LawI p c D l Hb (upd H' D (.lst (vs ++ [v]))) us L rows (n + 1) := by
  obtain ⟨vs, O, h1, h2, h3, h4⟩ := h.ex
  have m := h.dr.mutR (o := .lst (vs ++ [v])) h1 nD nc
  have kt := kt_updL (l' := vs ++ [v]) h1
  have hvl := h2.length
  rw [List.length_map] at hvl
  refine ⟨vs, rS_sub _ _ h1, by omega, m.1, ?_, ?_, vs ++ [v], O ++ [t], ?_, ?_, ?_, ?_⟩
  · rw [m.2, upd_ne nl]; exact h.l
  · rw [m.2]; exact dqa_kt kt (noLA_tks22 L) h.us
  · rw [m.2]; exact upd_same
  · rw [m.2, List.map_append]
    exact (dqa_kt kt (noLA_tks22 O) h2).append (.cons (dq_kt kt (noL_tkd22 t) hv) .nil)
  · rw [List.length_append]
    show O.length + 1 ≤ n + 1
    omega
  · intro t' ht'
    rcases List.mem_append.mp ht' with z | z
    · exact h4 t' z
    · rw [List.mem_singleton.mp z]; exact ⟨hT, ho⟩
end
section
variable {te : TE} {ta : TA} {tl : TE} {t u : TT} {tu tz : TS} {D : Ends} {σ : L2.St} {H : Hp} {Q : VK}
theorem t_c3 {sp : Sp} {dvs : List V} {E : XK} (h : te σ H fun x H1 => ta σ H1 fun ys H2 => sp (x :: ys ++ dvs) H2 Q E) : tCall sp dvs E (tCons te ta) σ H Q := h
theorem ta_c {R : List V → Hp → Prop} (h : te σ H fun x H1 => ta σ H1 fun ys H2 => R (x :: ys) H2) : tCons te ta σ H R := h
theorem s_ifN (h : te σ H fun x H1 => ∃ b, x = .bl b ∧ (if (!b) = true then tu D σ H1 else D.nx σ H1)) : tIfS (tNot (tB te)) tu tNext D σ H := h
theorem t_andB {b : Bool} {k : Bool → Hp → Prop} (h : EvT t σ H b) (h1 : b = true → ∀ H1, Ex H H1 → u σ H1 k) (h2 : b = false → ∀ H1, Ex H H1 → k false H1) : tAnd t u σ H k := h H (Ex.refl _) _ fun H1 e1 => by
  cases b with
  | true => exact h1 rfl H1 e1
  | false => exact h2 rfl H1 e1
theorem dl_S {K : PySem.W.Frag} {xs : List V} {j : Nat} {vs : List Nat} (f : Nat → Bool) (d : Nat → PyData) (h : EvS tl σ H xs) (hz : xs.length ≤ 40000) (hw : ∀ x, wipe ((wipe σ vs).set j (some x)) vs = wipe σ vs)
    (ht : ∀ (i : Nat) (x : V) H1, Ex H H1 → xs[i]? = some x → EvT t ((wipe σ vs).set j (some x)) H1 (f i)) (he : ∀ (i : Nat) (x : V) H1, Ex H H1 → xs[i]? = some x → f i = true → EvD te ((wipe σ vs).set j (some x)) H1 (d i)) :
    EvLD (tLc (iTup K tl) (gName j) t te vs) σ H ((upTo f xs.length).map d) := fun H1 e Q q => h H1 e _ fun a H2 e2 ha => ⟨a, rfl, ⟨xs, st_of ha⟩, fun D hD =>
  lc_new (Yx := fun i x => xs[i]? = some x) (fun i x => (wipe σ vs).set j (some x)) (walk_tup (K := K) (a := a) (xs := xs)) hD hz (fun H' e' => ex_t e' (st_of ha)) (fun i x H' R _ _ _ r => r) (fun i x => hw x) (fun i x H' e' _ hi => ht i x H' ((e.trans e2).trans e') hi) (fun i x H' e' _ hi => he i x H' ((e.trans e2).trans e') hi)
    (fun us H' e' hD' g => q D us H' (fresh_back e2 hD) (e2.trans e') hD' (g.mono (off_ex (fr_dn e2))))⟩
end
end Wk

set_option Elab.async false
set_option linter.all false
set_option maxRecDepth 100000
set_option maxHeartbeats 16000000
namespace Wk
open PySem PySem.Spec PyProof.Rows L2 Evl
theorem s_ife {b : Bool} {t : TT} {ta tb : TS} {D : Ends} {σ : L2.St} {H : Hp} (h : EvT t σ H b) (h1 : b = true → ∀ H1, Ex H H1 → ta D σ H1) (h2 : b = false → ∀ H1, Ex H H1 → tb D σ H1) : tIfS t ta tb D σ H := h H (Ex.refl _) _ fun H1 e1 => by
  cases b with
  | true => exact h1 rfl H1 e1
  | false => exact h2 rfl H1 e1
section
variable {P : Program} {w : World} {K : PySem.W.Frag} {mg : Str → Option Value} {base : Heap} {f : Addr} {fd : FuncData}
def spLaw (K : PySem.W.Frag) : Sp := fun vs H Q _ => ∃ (a : Addr) (ns : List Int), vs = [.ref a] ∧ SqL K H a (ns.map V.int) ∧ ns.length ≤ 63 ∧ ∀ H', Q (.bl true) H'
abbrev sLaw : Stmt := top 59
abbrev nLaw : List Str := ["_law_script", "_law_pool_here", "_law_pairs_here", "_law_lists_here", "_law_wishes_here", "_law_others", "_law_taking", "_law_k", "_law_row"]
theorem scLaw : FnScope nLaw ["_law_script"] (defScope sLaw) := ⟨rfl, rfl, rfl, by decide +kernel, rfl, by decide +kernel, by decide +kernel⟩
structure Ms (P : Program) (w : World) (K : PySem.W.Frag) (mg : Str → Option Value) (base : Heap) (CW CB : Addr) : Prop where
  pool : Cal P w K mg base "_law_pool" ["_law_script"] 1 (spPoolT K)
  draw : Cal P w K mg base "_law_draw" ["_law_pool_here", "_law_many"] 1 spDraw3
  pairs : Cal P w K mg base "_law_pairs" ["_law_pool_here"] 3 spPrs
  forest : Cal P w K mg base "_law_forest" ["_law_pool_here"] 3 spFor
  wishes : Cal P w K mg base "_law_wishes" ["_law_pool_here"] 4 spWsh
  rows : Cal P w K mg base "_law_rows" ["_law_lists_of_items", "_law_most"] 1 spRws
  isout : Cal P w K mg base "_law_is_outcome" ["_law_lists_here", "_law_taking"] 1 spIso
  comes : Cal P w K mg base "_law_comes" ["_law_lists_here", "_law_wishes_here", "_law_taking"] 11 (spCms CW)
  refused : Cal P w K mg base "_law_refused" ["_law_wishes_here", "_law_thing"] 11 (spRfd CW)
  odd : Cal P w K mg base "_law_odd" ["_law_pool_here", "_law_taking"] 2 spOdd3
  mkW : Mkr P w K mg base CW CB
theorem ok_law {CW CB : Addr} (B : Bl mg) (S : Ms P w K mg base CW CB) (F : FnP K "law" sLaw f fd) : FnOk P w K mg base CX0 12 f fd ["_law_script"] (spLaw K) := by
  obtain ⟨fI, fdI, mk, FI, bI⟩ := S.mkW.ex
  refine F.ok scLaw (fun vs H Q E h => ?_) (fun cdv A outer s H vs Q E hr h => ?_)
  · obtain ⟨a, ns, rfl, _⟩ := h
    rfl
  · obtain ⟨a0, ns, rfl, hS, hns, k⟩ := h
    have r1 : Room 1 _ := hr.mono (by decide)
    have r2 : Room 2 _ := hr.mono (by decide)
    have r3 : Room 3 _ := hr.mono (by decide)
    have r4 : Room 4 _ := hr.mono (by decide)
    have r9 : Room 9 _ := hr.mono (by decide)
    have hu4 : (A.deeper (envOfC "law" (defScope sLaw) s.heap.objs.size f cdv)).units + 64 < cLine := by have := hr.un; omega
    refine ⟨_, pss_cons (ps_set (i := 1) scLaw.nd rfl (Or.inl rfl) (pe_cal S.pool r1 (by rfl) (pa_cons (pv 0) pa_nil)))
      (pss_cons (ps_if (pt_cmpR op_eq (pe_cal S.draw r1 (by rfl) (pa_cons (pv 1) (pa_cons pe_int pa_nil))) pe_int (nomark _))
        (pss_cons (ps_set (i := 2) scLaw.nd rfl (Or.inl rfl) (pe_cal S.pairs r3 (by rfl) (pa_cons (pv 1) pa_nil)))
        (pss_one (ps_ret (pe_cal S.comes hr (by rfl) (pa_cons (pe_ix ix_tup (pv 2) pe_int (fun _ _ => rfl)) (pa_cons (pe_mkAt mk FI r9 (by rfl) S.mkW.tx.g bI (fun σ => passAt takes0 σ) (pa_cons (pe_ix ix_tup (pv 2) pe_int (fun _ _ => rfl)) pa_nil)) (pa_cons (pe_ix ix_tup (pv 2) pe_int (fun _ _ => rfl)) pa_nil))))))) pss_nil)
      (pss_cut (ps_if (pt_cmpR op_eq (pe_cal S.draw r1 (by rfl) (pa_cons (pv 1) (pa_cons pe_int pa_nil))) pe_int (nomark _))
        (pss_one (ps_set (i := 3) scLaw.nd rfl (Or.inl rfl) (pe_cal S.forest r3 (by rfl) (pa_cons (pv 1) pa_nil))))
        (pss_one (ps_set (i := 3) scLaw.nd rfl (Or.inl rfl) (pe_cal S.wishes r4 (by rfl) (pa_cons (pv 1) pa_nil)))))
      (pss_cons (ps_set (i := 4) scLaw.nd rfl (Or.inl rfl) (pe_mkAt mk FI r9 (by rfl) S.mkW.tx.g bI (fun σ => passAt takes0 σ) (pa_cons (pv 3) pa_nil)))
      (pss_cons (ps_set (i := 5) scLaw.nd rfl (Or.inl rfl) (pe_lst pa_nil))
      (pss_cons (ps_for (passes_of rfl) rfl (pi_list (pe_cal S.rows r1 (by rfl) (pa_cons (pe_op op_cat (pe_lst (pa_cons (pe_lst (pa_cons (pe_tup (pa_cons pe_int pa_nil)) pa_nil)) pa_nil))
          (pe_lc (own := [("_law_row", 8)]) (g := gName 8) (tt := tYes) rfl scLaw.nd (pi_tup (pe_slice sl_tupA (pv 3) (po_some pe_int) po_none)) (blkOk_by (N := nLaw) (sc := defScope sLaw) (by decide +kernel))
            (fun _ _ _ _ _ => pg_name (i := 8) scLaw.nd rfl (Or.inl rfl)) (fun _ _ _ _ _ => pts_nil) (fun _ _ _ _ _ => pe_op op_cat (pe_lst (pa_cons (pe_tup pa_nil) pa_nil)) (pe_callTy (call_listK2 (K := K) rfl) (by rfl) B.list PyProof.Rows.boot_list (pa_cons (pv 8) pa_nil))))) (pa_cons pe_int pa_nil)))) (pg_name (i := 6) scLaw.nd rfl (Or.inl rfl))
        (pss_one (ps_if (pt_val (pe_cal S.isout r1 (by rfl) (pa_cons (pv 3) (pa_cons (pv 6) pa_nil))))
          (pss_cons (ps_if (pt_not (pt_val (pe_cal S.comes hr (by rfl) (pa_cons (pv 3) (pa_cons (pv 4) (pa_cons (pv 6) pa_nil)))))) (pss_one (ps_ret pe_bl)) pss_nil)
          (pss_one (ps_if (pt_not (pt_val (pe_cal S.refused hr (by rfl) (pa_cons (pv 4) (pa_cons (pe_cal S.odd r2 (by rfl) (pa_cons (pv 1) (pa_cons (pv 6) pa_nil))) pa_nil))))) (pss_one (ps_ret pe_bl)) pss_nil)))
          (pss_one (ps_expr (pe_bm PySem.F.plainAttrs_list PySem.F.slot_list_append PySem.F.type_list_append mt_append (pv 5) (pa_cons (pv 6) pa_nil)))))))
      (pss_cons (ps_for (passes_of rfl) rfl (pi_range1 (by rfl) B.range (pa_cons pe_int pa_nil)) (pg_name (i := 7) scLaw.nd rfl (Or.inl rfl))
        (pss_one (ps_if (PW.pt (pw_and (pt_cmpR (op_neD hu4) (pv 5) (pe_lst pa_nil) (nomark _)) (pw_and1 (pt_not (pt_val (pe_cal S.refused hr (by rfl) (pa_cons (pv 4) (pa_cons (pe_ix (ix_listK (K := K) rfl) (pv 5) (pe_cal S.draw r1 (by rfl) (pa_cons (pv 1) (pa_cons (pe_callB call_len_seq (by rfl) B.len PySem.boot_len (pa_cons (pv 5) pa_nil)) pa_nil))) (fun _ _ => rfl)) pa_nil)))))))) (pss_one (ps_ret pe_bl)) pss_nil)))
      (pss_one (ps_ret pe_bl)))))))), ?_⟩
    refine q_asgW ⟨.ref a0, rfl, a0, ns, rfl, hS, hns, fun H1 p c hP1 => ?_⟩
    change tSeq _ _ _ [some (.ref a0), some (.ref p), none, none, none, none, none, none, none] H1
    refine ⟨.ref p, rfl, p, c, 8, rfl, hP1, by decide, by decide, fun H2 y d2 hy0 hy1 => ⟨rfl, _, rfl, ?_⟩⟩
    dsimp only
    by_cases cc : decide (V.int y = V.int 7) = true
    · rw [if_pos cc]
      refine q_asgW ⟨.ref p, rfl, p, c, rfl, d2.pl, fun H3 U lv tv rows ts d3 hU hlv htv h8 hG h6 hT ho => ?_⟩
      refine ret_any ?_
      change tCall _ _ _ _ [some (.ref a0), some (.ref p), some (.ref U), none, none, none, none, none, none] H3 _
      have hU3 := rS_sub _ _ hU
      cases htv with
      | tup t1 t2 =>
      rename_i ta txs
      have ev0 : ∀ {H4 : Hp}, Ex H3 H4 → Ev (tOp (rIxT K) (tVar 2) (tC (.int 0))) [some (.ref a0), some (.ref p), some (.ref U), none, none, none, none, none, none] H4 lv := fun e => ev_at (K := K) (j := 0) (ev_var (i := 2) rfl) (st_of (e _ _ hU3)) (ev_is ev_c rfl) rfl
      have ev1 : ∀ {H4 : Hp}, Ex H3 H4 → Ev (tOp (rIxT K) (tVar 2) (tC (.int 1))) [some (.ref a0), some (.ref p), some (.ref U), none, none, none, none, none, none] H4 (.ref ta) := fun e => ev_at (K := K) (j := 1) (ev_var (i := 2) rfl) (st_of (e _ _ hU3)) (ev_is ev_c rfl) rfl
      refine t_c3 (ev0 (Ex.refl _) H3 (Ex.refl _) _ fun H4 e4 => ta_c (t_makeH (CB := CB) (fun R hR => ev0 e4 H4 (Ex.refl _) _ fun H5 e5 => hR lv H5 e5 ((hlv.mono rS_sub).mono (e4.trans e5))) hG (by omega) (by omega) h6 fun H5 wv e5 hW => ta_c (ev1 (e4.trans e5) H5 (Ex.refl _) _ fun H6 e6 => ?_)))
      have e36 := (e4.trans e5).trans e6
      exact ⟨lv, wv, ta, txs, rows, ts, rfl, (hlv.mono rS_sub).mono e36, hW.up e6, e36 _ _ (rS_sub _ _ t1), (t2.mono rS_sub).mono e36, hT, ho, fun H7 e7 => k H7⟩
    rw [if_neg cc]
    change tCut _ _ _ [some (.ref a0), some (.ref p), none, none, none, none, none, none, none] H2
    refine ⟨fun σ' H' => ∃ lv rows, σ' = [some (.ref a0), some (.ref p), none, some lv, none, none, none, none, none] ∧ Pol H' p c ∧ Dq (rS H' p) lv (pd rows) ∧ 2 ≤ rows.length ∧ rows.length ≤ 8 ∧ GW rows ∧ ∀ row ∈ rows, row.length ≤ 6, ?_, ?_⟩
    · refine ⟨.ref p, rfl, p, c, 4, rfl, d2.pl, by decide, by decide, fun H3 y d3 hy0 hy1 => ⟨rfl, _, rfl, ?_⟩⟩
      dsimp only
      by_cases cc : decide (V.int y = V.int 3) = true
      · rw [if_pos cc]
        exact q_asgW_last ⟨.ref p, rfl, p, c, rfl, d3.pl, fun H4 v rows d4 hv hl hh hG h6 => ⟨v, rows, rfl, d4.pl, hv, by omega, by omega, hG, h6⟩⟩
      · rw [if_neg cc]
        exact q_asgW_last ⟨.ref p, rfl, p, c, rfl, d3.pl, fun H4 v rows d4 hv hl hh hG h6 => ⟨v, rows, rfl, d4.pl, hv, by omega, by omega, hG, h6⟩⟩
    rintro σ' H3 ⟨lv, rows, rfl, hP3, hlv3, h2, h8, hG, h6⟩
    clear cc hP1 d2
    refine q_asgW (t_makeH (CB := CB) (fun R hR => ⟨lv, rfl, hR lv H3 (Ex.refl _) (hlv3.mono rS_sub)⟩) hG h2 h8 h6 fun H4 wv e4 hW4 => ?_)
    change tSeq _ _ _ [some (.ref a0), some (.ref p), none, some lv, some (.ref wv), none, none, none, none] H4
    have hP4 := hP3.ext e4
    have hlv4 : Dq (rS H4 p) lv (pd rows) := hlv3.mono (hP3.rx e4)
    have hW : WO CW (rS H4 p) (.ref wv) rows := wo_rS hP4 hW4
    refine q_asgL (el_lst ea_nil (by simp)) fun D H5 gD e5 hD => ?_
    change tSeq _ _ _ [some (.ref a0), some (.ref p), none, some lv, some (.ref wv), some (.ref D), none, none, none] H5
    have hP5 := hP4.ext e5
    have nDc : D ≠ c := (hP4.nw gD).2.2
    have hlv5 : Dq H5 lv (pd rows) := (hlv4.mono rS_sub).mono e5
    have hlw : ∃ la lxs, lv = .ref la ∧ H5 la = some (.tup lxs) ∧ DqA H5 lxs (rows.map rd) := by
      have z := hlv5
      unfold pd at z
      cases z with
      | tup z1 z2 => exact ⟨_, _, rfl, z1, z2⟩
    obtain ⟨la, lxs, rfl, hla, hlx⟩ := hlw
    have hlxl := hlx.length
    rw [List.length_map] at hlxl
    -- the lists of items
    have hcat : EvLD (tOp rCat (tLst (tCons (tLst (tCons (tTup (tCons (tC (.int 0)) tNil)) tNil)) tNil)) (tLc (iTup K (tSl (rSlA K) (tVar 3) (tPart (tC (.int 1))) tNoPart)) (gName 8) tYes (tOp rCat (tLst (tCons (tTup tNil) tNil)) (tCB (rListS K) (tCons (tVar 8) tNil))) [8])) [some (.ref a0), some (.ref p), none, some (.ref la), some (.ref wv), some (.ref D), none, none, none] H5
        (([[0]] :: (rows.drop 1).map fun row => ([] : Wy) :: row).map fun row => PyData.list (row.map wd)) := by
      have z := es_sl (K := K) (te := tVar 3) (σ := [some (.ref a0), some (.ref p), none, some (.ref la), some (.ref wv), some (.ref D), none, none, none]) (H := H5) (lo := some ((1 : Nat) : Int)) (ev_var rfl) (eo_some ev_c) eo_none hla
      rw [cut_from lxs 1 (by omega)] at z
      have hd1 := hlx.drop 1
      rw [← List.map_drop] at hd1
      have hdl := hd1.length
      rw [List.length_map] at hdl
      have z2 := dl_S (K := K) (t := tYes) (te := tOp rCat (tLst (tCons (tTup tNil) tNil)) (tCB (rListS K) (tCons (tVar 8) tNil))) (j := 8) (vs := [8]) (fun _ => true) (fun i => PyData.list ((([] : Wy) :: (rows.drop 1).getD i []).map wd)) z (by rw [hdl, List.length_drop]; omega) (fun x => rfl) (fun _ _ _ _ _ => et_yes) (fun i y H6 e6 hy _ => by
        obtain ⟨d, hd2, hd3⟩ := hd1.get hy
        rw [List.getElem?_map] at hd2
        cases hq : (rows.drop 1)[i]? with
        | none => rw [hq] at hd2; cases hd2
        | some row =>
          rw [hq] at hd2
          obtain rfl : rd row = d := Option.some.inj hd2
          have eg : (rows.drop 1).getD i [] = row := by rw [List.getD_eq_getElem?_getD, hq]; rfl
          have hr6 := h6 row (List.mem_of_mem_drop (List.mem_of_getElem? hq))
          show EvD _ _ _ (PyData.list ((([] : Wy) :: (rows.drop 1).getD i []).map wd))
          rw [eg]
          exact d_L (d_cat (ds := [wd []]) (d_lst (d_cons (d_tup d_nil (by decide)) d_nil) (by simp)) (d_listT (d_ev (d := .tuple (row.map wd)) (ev_var (i := 8) rfl) (noLA_wds row) fun H7 e7 => (hd3.mono (e6.trans e7)))) (by rw [List.length_map]; simp; omega)))
      rw [hdl, upTo_map .none (rows.drop 1) [] (fun row => PyData.list ((([] : Wy) :: row).map wd))] at z2
      have z3 := d_cat (d_lst (d_cons (d_L (d_lst (d_cons (d_tup (d_cons (d_ev (ev_c (v := .int 0)) rfl fun _ _ => .int _) d_nil) (by simp)) d_nil) (by simp))) d_nil) (by simp)) z2 (by rw [List.length_map, List.length_drop]; simp; omega)
      rw [List.map_cons, List.map_map]
      exact z3
    refine q_forC (fun l us H7 => Ex H5 H7 ∧ H5 l = none ∧ H7 l = some (.lst us) ∧ ∃ L : List (List Wy), DqA H7 us (L.map tkd) ∧ L.length ≤ 400 ∧ ∀ t ∈ L, FullT rows t) (fun Q' q => t_c3 (hcat H5 (Ex.refl _) _ fun A avs H6 nA e6 hA havs => ?_)) ?_
    · have hal := havs.length
      rw [List.length_map] at hal
      refine ⟨A, avs, [[0]] :: (rows.drop 1).map fun row => ([] : Wy) :: row, rfl, hA, hal, by rw [List.length_cons, List.length_map, List.length_drop]; omega, fun i y row hy hrow => ?_, fun row hrow => ?_, fun H7 l us L e7 nl hl hus hL hRow => q l us H7 ⟨e6.trans e7, fresh_back e6 nl, hl, L, hus, hL, fun t ht => full_row h2 (hRow t ht)⟩⟩
      · obtain ⟨d, z1, z2⟩ := havs.get hy
        rw [List.getElem?_map, hrow] at z1
        obtain rfl : PyData.list (row.map wd) = d := Option.some.inj z1
        have z3 := (z2.mono (off_in A _)).mono fr_sub
        cases z3 with
        | lst y1 y2 => exact ⟨_, _, rfl, y1, y2⟩
      · rcases List.mem_cons.mp hrow with z | z
        · rw [z]; decide
        · obtain ⟨r0, hr0, rfl⟩ := List.mem_map.mp z
          have := h6 r0 (List.mem_of_mem_drop hr0)
          rw [List.length_cons]
          omega
    rintro l us H7 ⟨e7, nl, hl, L, hus, hL, hLf⟩
    have nlD : l ≠ D := fun z => by rw [z, hD] at nl; cases nl
    have hP7 := hP5.ext e7
    have hD7 : rS H7 p D = some (.lst []) := hP4.nr gD (e5.trans e7) (e7 _ _ hD)
    have hul := hus.length
    rw [List.length_map] at hul
    have st : ∀ {H' : Hp} {n : Nat}, LawI p c D l H4 H' us L rows n → Dq H' (.ref la) (pd rows) ∧ WO CW H' (.ref wv) rows := fun h => ⟨(hlv4.mono h.dr.ex).mono rS_sub, (hW.up h.dr.ex).up rS_sub⟩
    refine ⟨sq_of hl, fun i σ' H' => LawI p c D l H4 H' us L rows i ∧ ∃ o6, σ' = [some (.ref a0), some (.ref p), none, some (.ref la), some (.ref wv), some (.ref D), o6, none, none], ⟨⟨Dr.of_ex hP4 (e5.trans e7), hP5.nr nl e7 hl, dqa_kt hP7.kt (noLA_tks22 L) hus, [], [], hD7, .nil, Nat.le_refl _, fun t ht => by cases ht⟩, _, rfl⟩, fun i σ' H' _ h => sq_of (rS_sub _ _ h.1.l), ?_, ?_⟩
    · rintro i x σ' H8 hx ⟨hI, o6, rfl⟩
      obtain ⟨d, hd1, hd2⟩ := hI.us.get hx
      obtain ⟨t, ht, rfl⟩ : ∃ t, t ∈ L ∧ d = tkd t := by
        rw [List.getElem?_map] at hd1
        cases hq : L[i]? with
        | none => rw [hq] at hd1; cases hd1
        | some t => rw [hq] at hd1; exact ⟨t, List.mem_of_getElem? hq, (Option.some.inj hd1).symm⟩
      have hT := hLf t ht
      have hd2' := hd2
      unfold tkd at hd2'
      cases hd2' with
      | tup t1 t2 =>
      rename_i ta txs
      refine g_name ?_
      dsimp only
      change tIfS _ _ _ _ [some (.ref a0), some (.ref p), none, some (.ref la), some (.ref wv), some (.ref D), some (.ref ta), none, none] H8
      refine s_ife (b := okP rows t) (et_B fun H9 e9 Q9 q9 => ⟨.ref la, rfl, .ref ta, rfl, .ref la, .ref ta, rows, t, rfl, (st hI).1.mono e9, hG, h2, h8, (hd2.mono rS_sub).mono e9, hT, fun H10 e10 => q9 H10 e10⟩) (fun hb H9 e9 => ?_) (fun hb H9 e9 => ?_)
      · have hI9 := hI.ext e9
        have t1' := e9 _ _ (rS_sub _ _ t1)
        have t2' := (t2.mono rS_sub).mono e9
        refine q_when (b := !true) (et_not (et_B fun H10 e10 Q10 q10 => ⟨.ref la, rfl, .ref wv, rfl, .ref ta, rfl, .ref la, wv, ta, txs, rows, t, rfl, (st hI9).1.mono e10, (st hI9).2.up e10, e10 _ _ t1', t2'.mono e10, hT, hb, fun H11 e11 => q10 H11 e11⟩)) (fun hb => by cases hb) fun _ H10 e10 => ?_
        have hI10 := hI9.ext e10
        refine s_ifN ⟨.ref wv, rfl, .ref p, rfl, .ref ta, rfl, p, c, ta, txs, rows, t, rfl, hI10.dr.pl, e10 _ _ t1', t2'.mono e10, h2, h8, hT.len, fun x hx => hT.l8 hG hx, fun H11 v d d11 hv hodd => ?_⟩
        have hI11 := hI10.draw d11
        refine ⟨wv, v, d, rows, rfl, (st hI11).2, hv, hodd.1, hodd.2, fun H12 e12 => ⟨true, rfl, ?_⟩⟩
        rw [if_neg (by decide)]
        exact ⟨(hI11.ext e12).le (Nat.le_succ _), _, rfl⟩
      · have hI9 := hI.ext e9
        have hv9 : Dq (rS H9 p) (.ref ta) (tkd t) := hd2.mono (hI.dr.pl.rx e9)
        obtain ⟨vs, hDv, hvl, hI10⟩ := hI9.add gD nDc nlD hv9 hT hb
        have hil := (List.getElem?_eq_some_iff.mp hx).1
        refine ⟨.ref D, rfl, .inl ⟨rfl, _, sq_of hDv⟩, tc1 ⟨.ref ta, rfl, D, vs, .ref ta, rfl, rfl, hDv, by rw [sizeLine_eq]; omega, ?_⟩⟩
        exact ⟨hI10, _, rfl⟩
    · rintro σ' H8 ⟨hI, o6, rfl⟩
      have hI0 := hI.le (m := 400) (by omega)
      clear hI
      refine q_forR1 (n := 3) (ea_cons ev_c ea_nil) ⟨by decide, by decide⟩ (fun i σ' H' => LawI p c D l H4 H' us L rows 400 ∧ ∃ o7, σ' = [some (.ref a0), some (.ref p), none, some (.ref la), some (.ref wv), some (.ref D), o6, o7, none]) (fun H9 e9 => ⟨hI0.ext e9, _, rfl⟩) ?_ ?_
      · rintro i σ' H9 hi ⟨hI, o7, rfl⟩
        obtain ⟨vs, O, hDs, hvs, hOl, hOt⟩ := hI.ex
        change tIfS _ _ _ _ [some (.ref a0), some (.ref p), none, some (.ref la), some (.ref wv), some (.ref D), o6, some (.int (i : Int)), none] H9
        have hDv := rS_sub _ _ hDs
        have hvl := hvs.length
        rw [List.length_map] at hvl
        have c1 : Ev (tOp (rNeD K) (tVar 5) (tLst tNil)) [some (.ref a0), some (.ref p), none, some (.ref la), some (.ref wv), some (.ref D), o6, some (.int (i : Int)), none] H9 (.bl (!decide (O = []))) := fun H10 e10 Q10 q10 => by
          refine ⟨.ref D, rfl, by show 0 ≤ sizeLine; decide, fun N hN => ?_⟩
          have eN := Ex.new (o := .lst ([] : List V)) hN
          refine ⟨.list (O.map tkd), .list [], .lst (sq_of (eN _ _ (e10 _ _ hDv))) (DqA.dp (lay_tks O) (((hvs.mono rS_sub).mono e10).mono eN)), .lst (sq_of upd_same) .nil, shaped_tks O, rfl, ?_⟩
          have ee : PyData.eqv (.list (O.map tkd)) (.list []) = decide (O = []) := by
            cases O with
            | nil => simp [PyData.eqv, PyData.eqvAll]
            | cons a b => simp [PyData.eqv, PyData.eqvAll]
          rw [ee]
          exact q10 _ eN
        refine t_andB (b := !decide (O = [])) (et_test c1) (fun hb H10 e10 => ?_) (fun hb H10 e10 => ?_)
        · have hI10 := hI.ext e10
          have hne : O ≠ [] := by simpa using hb
          have hpos : 0 < O.length := List.length_pos_iff.mpr hne
          refine ⟨.ref wv, rfl, .ref D, rfl, .ref p, rfl, .ref D, rfl, D, vs, rfl, .inl (sq_of (e10 _ _ hDv)), p, c, (vs.length : Int), rfl, hI10.dr.pl, by omega, by omega, fun H11 z d11 hz0 hz1 => ?_⟩
          have hI11 := hI10.draw d11
          have hD11 := rS_sub _ _ (d11.ex _ _ (hI.dr.pl.rx e10 _ _ hDs))
          have hvs11 := ((hvs.mono (hI.dr.pl.rx e10)).mono d11.ex).mono rS_sub
          obtain ⟨n, rfl⟩ := Int.eq_ofNat_of_zero_le hz0
          have hn : n < vs.length := by omega
          have hvn : vs[n]? = some vs[n] := List.getElem?_eq_getElem hn
          obtain ⟨d, hd1, hd2⟩ := hvs11.get hvn
          obtain ⟨t, ht, rfl⟩ : ∃ t, t ∈ O ∧ d = tkd t := by
            rw [List.getElem?_map] at hd1
            cases hq : O[n]? with
            | none => rw [hq] at hd1; cases hd1
            | some t => rw [hq] at hd1; exact ⟨t, List.mem_of_getElem? hq, (Option.some.inj hd1).symm⟩
          obtain ⟨hT, ho⟩ := hOt t ht
          refine ⟨D, vs, (n : Int), vs[n], rfl, rfl, sq_of hD11, atI_nat hvn, ?_⟩
          refine ⟨wv, vs[n], tkd t, rows, rfl, (st hI11).2, hd2, sm_tup22 (fun x hx => ?_), out_no hT ho, fun H12 e12 => ⟨true, rfl, ?_⟩⟩
          · obtain ⟨u, hu, rfl⟩ := List.mem_map.mp hx
            have := hT.l8 hG hu
            show (u.map PyData.int).length ≤ 1000
            rw [List.length_map]
            omega
          · dsimp only
            rw [if_neg (by decide)]
            exact ⟨hI11.ext e12, _, rfl⟩
        · dsimp only
          rw [if_neg (by decide)]
          exact ⟨hI.ext e10, _, rfl⟩
      · rintro σ' H9 ⟨hI, o7, rfl⟩
        exact ret_any (k H9)
end
end Wk

set_option Elab.async false
set_option linter.all false
set_option maxRecDepth 100000
set_option maxHeartbeats 4000000
namespace Wk
open PySem PySem.Spec PyProof.Rows L2 Evl
theorem facts {P : Program} {w : World} {K : PySem.W.Frag} {h : Heap} {mg : Str → Option Value} {f : Addr} (X : K.In h) (G : h.Ns mainGlobals mg) (hfa : mg ("law" : Str) = some (.ref f)) (c : He.SaysD fa fn K) (cx : eb K = true) :
    ∃ fd : FuncData, (∀ (t : Shared) (u : Value), BindsTo t fd ⟨[u], []⟩ [("_law_script", u)]) ∧ ∀ base : Heap, K.In base → base.Ns mainGlobals mg → FnOk P w K mg base CX0 12 f fd ["_law_script"] (spLaw K) := by
  obtain ⟨d0, F0⟩ := c.def_ 0 (d := dG "is_integer" 8) rfl
  obtain ⟨d1, F1⟩ := c.def_ 1 (d := dG "is_between" 9) rfl
  obtain ⟨d2, F2⟩ := c.def_ 2 (d := dG "is_tuple_of" 10) rfl
  obtain ⟨d3, F3⟩ := c.def_ 3 (d := dG "is_integer_tuple" 11) rfl
  obtain ⟨d4, F4⟩ := c.def_ 4 (d := dG "is_router" 12) rfl
  obtain ⟨d5, F5⟩ := c.def_ 5 (d := dG "refuse_no_router" 13) rfl
  obtain ⟨d6, F6⟩ := c.def_ 6 (d := dG "is_size" 14) rfl
  obtain ⟨d7, F7⟩ := c.def_ 7 (d := dG "is_way" 15) rfl
  obtain ⟨d8, F8⟩ := c.def_ 8 (d := dG "choices" 18) rfl
  obtain ⟨d9, F9⟩ := c.def_ 9 (d := dG "is_taking" 19) rfl
  obtain ⟨d10, F10⟩ := c.def_ 10 (d := dG "is_choice" 20) rfl
  obtain ⟨d11, F11⟩ := c.def_ 11 (d := dG "cannot_stay" 21) rfl
  obtain ⟨d12, F12⟩ := c.def_ 12 (d := dG "first_that_cannot_stay" 22) rfl
  obtain ⟨d13, F13⟩ := c.def_ 13 (d := dG "is_outcome" 24) rfl
  obtain ⟨d14, F14⟩ := c.def_ 14 (d := dG "comes" 26) rfl
  obtain ⟨d15, F15⟩ := c.def_ 15 (d := dG "refuse_wrong_lists" 31) rfl
  obtain ⟨d16, F16⟩ := c.def_ 16 (d := dG "is_way_list" 32) rfl
  obtain ⟨d17, F17⟩ := c.def_ 17 (d := dG "has_let_rest" 33) rfl
  obtain ⟨d18, F18⟩ := c.def_ 18 (d := dG "let_ways" 34) rfl
  obtain ⟨d19, F19⟩ := c.def_ 19 (d := dG "_law_pool" 36) rfl
  obtain ⟨d20, F20⟩ := c.def_ 20 (d := dG "_law_draw" 37) rfl
  obtain ⟨d21, F21⟩ := c.def_ 21 (d := dG "_law_order" 38) rfl
  obtain ⟨d22, F22⟩ := c.def_ 22 (d := dG "_law_add" 39) rfl
  obtain ⟨d23, F23⟩ := c.def_ 23 (d := dG "_law_lists" 40) rfl
  obtain ⟨d24, F24⟩ := c.def_ 24 (d := dG "_law_eased" 41) rfl
  obtain ⟨d25, F25⟩ := c.def_ 25 (d := dG "_law_wishes" 42) rfl
  obtain ⟨d26, F26⟩ := c.def_ 26 (d := dG "_law_forest" 43) rfl
  obtain ⟨d27, F27⟩ := c.def_ 27 (d := dG "_law_lines" 44) rfl
  obtain ⟨d28, F28⟩ := c.def_ 28 (d := dG "_law_steps" 45) rfl
  obtain ⟨d29, F29⟩ := c.def_ 29 (d := dG "_law_begin" 46) rfl
  obtain ⟨d30, F30⟩ := c.def_ 30 (d := dG "_law_is_open" 47) rfl
  obtain ⟨d31, F31⟩ := c.def_ 31 (d := dG "_law_moved" 48) rfl
  obtain ⟨d32, F32⟩ := c.def_ 32 (d := dG "_law_moves" 49) rfl
  obtain ⟨d33, F33⟩ := c.def_ 33 (d := dG "_law_rows" 51) rfl
  obtain ⟨d34, F34⟩ := c.def_ 34 (d := dG "_law_is_outcome" 52) rfl
  obtain ⟨d35, F35⟩ := c.def_ 35 (d := dG "_law_is_step" 53) rfl
  obtain ⟨d36, F36⟩ := c.def_ 36 (d := dG "_law_refused" 54) rfl
  obtain ⟨d37, F37⟩ := c.def_ 37 (d := dG "_law_comes" 55) rfl
  obtain ⟨d38, F38⟩ := c.def_ 38 (d := dG "_law_flagged" 56) rfl
  obtain ⟨d39, F39⟩ := c.def_ 39 (d := dG "_law_odd" 57) rfl
  obtain ⟨d40, F40⟩ := c.def_ 40 (d := dG "_law_pairs" 58) rfl
  obtain ⟨d41, F41⟩ := c.def_ 41 (d := dG "law" 59) rfl
  obtain ⟨d42, F42⟩ := c.def_ 42 (d := dM "Wishes" "__init__" "Wishes.__init__" 30 0) rfl
  obtain ⟨d43, F43⟩ := c.def_ 43 (d := dM "Wishes" "ways" "Wishes.ways" 30 2) rfl
  obtain ⟨d44, F44⟩ := c.def_ 44 (d := dM "Wishes" "lines" "Wishes.lines" 30 3) rfl
  obtain ⟨d45, F45⟩ := c.def_ 45 (d := dM "NoRouter" "__init__" "NoRouter.__init__" 3 0) rfl
  obtain ⟨d46, F46⟩ := c.def_ 46 (d := dM "BadWishes" "__init__" "BadWishes.__init__" 4 0) rfl
  have e := hfa.symm.trans (He.glo_ok X G (c.fact 41 (f := .glo "law") rfl))
  cases e
  have bL := FunD.bindsA (ps := ["_law_script"]) F41 fun _ _ _ _ _ _ us hl => match us, hl with | [_], _ => rfl
  have B : Bl mg := ⟨He.free_ok X G (c.fact 42 rfl), He.free_ok X G (c.fact 43 rfl), He.free_ok X G (c.fact 44 rfl), He.free_ok X G (c.fact 45 rfl), He.free_ok X G (c.fact 46 rfl), He.free_ok X G (c.fact 47 rfl), He.free_ok X G (c.fact 48 rfl), He.free_ok X G (c.fact 49 rfl), He.free_ok X G (c.fact 50 rfl), He.free_ok X G (c.fact 51 rfl), He.free_ok X G (c.fact 52 rfl), He.free_ok X G (c.fact 53 rfl), He.free_ok X G (c.fact 54 rfl), He.free_ok X G (c.fact 55 rfl)⟩
  obtain ⟨t8, m8⟩ := He.int_ok X G (c.fact 56 (f := .int "MOST_ROUTERS" 8) rfl)
  obtain ⟨t6, m6⟩ := He.int_ok X G (c.fact 57 (f := .int "MOST_WAYS" 6) rfl)
  obtain ⟨t2, m2⟩ := He.int_ok X G (c.fact 58 (f := .int "LEAST_ROUTERS" 2) rfl)
  obtain ⟨x1, cx⟩ := He.ba cx
  obtain ⟨x2, cx⟩ := He.ba cx
  obtain ⟨x6, cx⟩ := He.ba cx
  obtain ⟨x7, cx⟩ := He.ba cx
  obtain ⟨x3, x4⟩ := He.ba cx
  have TX : WTx K mg (He.ga K "Wishes") := ⟨He.cls_ok (c.fact 60 rfl), He.noat_ok (c.fact 64 rfl), He.noat_ok (c.fact 65 rfl), He.glo_ok X G (c.fact 59 rfl)⟩
  obtain ⟨oN, xN⟩ := exB_ok x1
  obtain ⟨oB, xB⟩ := exB_ok x2
  have IT := insB_ok TX.cl x3
  have nN : PySem.W.findIn K (.ref (He.ga K "NoRouter")) "router" = some none := He.noat_ok (c.fact 70 (f := .noat "NoRouter" "router") rfl)
  have nB : PySem.W.findIn K (.ref (He.ga K "BadWishes")) "router" = some none := He.noat_ok (c.fact 71 (f := .noat "BadWishes" "router") rfl)
  have iN := He.meth_ok (c.fact 72 (f := .meth "NoRouter" "__init__") rfl)
  have iB := He.meth_ok (c.fact 73 (f := .meth "BadWishes" "__init__") rfl)
  have gG := He.glo_ok X G (c.fact 74 (f := .glo "GOAL_WAY") rfl)
  have gT : ∀ H, SqT K H (He.ga K "GOAL_WAY") [.int 0] := He.tupB_ok x4
  refine ⟨d41, fun t u => bL t [u] rfl, fun base _ _ => ?_⟩
  have C0 : Cal P w K mg base "is_integer" ["thing"] 1 spIsInt := calOf F0 (ok_isInt B F0) (He.glo_ok X G (c.fact 0 rfl)) (F0.bindsN fun _ _ _ _ _ _ us hl => match us, hl with | [_], _ => rfl)
  have C1 : Cal P w K mg base "is_between" ["least", "most", "thing"] 2 spBetween := calOf F1 (ok_between B C0 F1) (He.glo_ok X G (c.fact 1 rfl)) (F1.bindsN fun _ _ _ _ _ _ us hl => match us, hl with | [_, _, _], _ => rfl)
  have C2 : Cal P w K mg base "is_router" ["size", "thing"] 3 spRouter := calOf F4 (ok_router C1 F4) (He.glo_ok X G (c.fact 4 rfl)) (F4.bindsN fun _ _ _ _ _ _ us hl => match us, hl with | [_, _], _ => rfl)
  have C3 : Cal P w K mg base "is_way" ["size", "router", "thing"] 5 spWay := calOf F7 (ok_way B m8 C2 F7) (He.glo_ok X G (c.fact 7 rfl)) (F7.bindsN fun _ _ _ _ _ _ us hl => match us, hl with | [_, _, _], _ => rfl)
  have CS : Cal P w K mg base "is_size" ["least", "thing"] 3 spSize := calOf F6 (ok_size m8 C1 F6) (He.glo_ok X G (c.fact 6 rfl)) (F6.bindsN fun _ _ _ _ _ _ us hl => match us, hl with | [_, _], _ => rfl)
  have C5 : Cal P w K mg base "is_way_list" ["size", "router", "thing"] 6 spRow := calOf F16 (ok_row B m6 C3 F16) (He.glo_ok X G (c.fact 16 rfl)) (F16.bindsN fun _ _ _ _ _ _ us hl => match us, hl with | [_, _, _], _ => rfl)
  have C6 : Cal P w K mg base "has_let_rest" ["lists", "way"] 1 spRest := calOf F17 (ok_rest F17) (He.glo_ok X G (c.fact 17 rfl)) (F17.bindsN fun _ _ _ _ _ _ us hl => match us, hl with | [_, _], _ => rfl)
  have EN : Err P w K mg base "NoRouter" (He.ga K "NoRouter") := ⟨He.glo_ok X G (c.fact 67 rfl), oN, xN, nN, He.exm_ok (c.fact 69 rfl), ⟨_, d45, iN.at_, beq_iff_eq.mp iN.fn, ok_xn oN nN F45, F45.bindsN fun _ _ _ _ _ _ us hl => match us, hl with | [_, _], _ => rfl⟩⟩
  have EB : Err P w K mg base "BadWishes" (He.ga K "BadWishes") := ⟨He.glo_ok X G (c.fact 66 rfl), oB, xB, nB, He.exm_ok (c.fact 68 rfl), ⟨_, d46, iB.at_, beq_iff_eq.mp iB.fn, ok_xb oB nB F46, F46.bindsN fun _ _ _ _ _ _ us hl => match us, hl with | [_, _], _ => rfl⟩⟩
  have CR : CalX P w K mg base "refuse_no_router" ["size", "thing"] 4 (spNoRt (He.ga K "NoRouter")) := ⟨⟨_, d5, ok_noRt EN C2 F5, He.glo_ok X G (c.fact 5 rfl), F5.kp, (F5.bindsN fun _ _ _ _ _ _ us hl => match us, hl with | [_, _], _ => rfl)⟩⟩
  have C4 : CalX P w K mg base "refuse_wrong_lists" ["lists"] 7 (spRefuse (He.ga K "BadWishes")) := ⟨⟨_, d15, ok_refuse B m2 CS EB C5 C6 F15, He.glo_ok X G (c.fact 15 rfl), F15.kp, (F15.bindsN fun _ _ _ _ _ _ us hl => match us, hl with | [_], _ => rfl)⟩⟩
  have MW : Mkr P w K mg base (He.ga K "Wishes") (He.ga K "BadWishes") := ⟨TX, ⟨_, d42, He.mkr_ok (c.fact 61 rfl), ok_wi B TX C4 F42, F42.bindsN fun _ _ _ _ _ _ us hl => match us, hl with | [_, _], _ => rfl⟩⟩
  have WC1 : WC P w K mg base (He.ga K "Wishes") (He.ga K "NoRouter") := ⟨TX, IT, ⟨_, d43, He.meth_ok (c.fact 62 rfl), ok_ways TX CR F43, F43.bindsN fun _ _ _ _ _ _ us hl => match us, hl with | [_, _], _ => rfl⟩⟩
  have hmx : mg ("max" : Str) = none := He.free_ok X G (c.fact 75 (f := .free "max") rfl)
  have hso : mg ("sorted" : Str) = none := He.free_ok X G (c.fact 76 (f := .free "sorted") rfl)
  have hVE : mg ("ValueError" : Str) = none := He.free_ok X G (c.fact 77 (f := .free "ValueError") rfl)
  have D7 : Cal P w K mg base "_law_pool" ["_law_script"] 1 (spPoolT K) := calOf F19 (ok_poolT B F19) (He.glo_ok X G (c.fact 19 rfl)) (F19.bindsN fun _ _ _ _ _ _ us hl => match us, hl with | [_], _ => rfl)
  have D8 : Cal P w K mg base "_law_draw" ["_law_pool_here", "_law_many"] 1 spDraw3 := calOf F20 (ok_draw3 B F20) (He.glo_ok X G (c.fact 20 rfl)) (F20.bindsN fun _ _ _ _ _ _ us hl => match us, hl with | [_, _], _ => rfl)
  have D9 : Cal P w K mg base "_law_order" ["_law_pool_here", "_law_size"] 2 spOrd3 := calOf F21 (ok_ord3 B D8 F21) (He.glo_ok X G (c.fact 21 rfl)) (F21.bindsN fun _ _ _ _ _ _ us hl => match us, hl with | [_, _], _ => rfl)
  have D10 : Cal P w K mg base "_law_add" ["_law_pool_here", "_law_lists_here", "_law_ways"] 2 spAdd3 := calOf F22 (ok_add3 B hmx D8 F22) (He.glo_ok X G (c.fact 22 rfl)) (F22.bindsN fun _ _ _ _ _ _ us hl => match us, hl with | [_, _, _], _ => rfl)
  have D11 : Cal P w K mg base "_law_lists" ["_law_pool_here", "_law_size", "_law_ring", "_law_more"] 3 spLists3 := calOf F23 (ok_lists3 B D8 D9 D10 F23) (He.glo_ok X G (c.fact 23 rfl)) (F23.bindsN fun _ _ _ _ _ _ us hl => match us, hl with | [_, _, _, _], _ => rfl)
  have D12 : Cal P w K mg base "_law_eased" ["_law_pool_here"] 3 spEased := calOf F24 (ok_eased B D8 D9 F24) (He.glo_ok X G (c.fact 24 rfl)) (F24.bindsN fun _ _ _ _ _ _ us hl => match us, hl with | [_], _ => rfl)
  have D13 : Cal P w K mg base "_law_wishes" ["_law_pool_here"] 4 spWsh := calOf F25 (ok_wsh D8 D12 D11 F25) (He.glo_ok X G (c.fact 25 rfl)) (F25.bindsN fun _ _ _ _ _ _ us hl => match us, hl with | [_], _ => rfl)
  have D14 : Cal P w K mg base "_law_forest" ["_law_pool_here"] 3 spFor := calOf F26 (ok_for B D8 D9 F26) (He.glo_ok X G (c.fact 26 rfl)) (F26.bindsN fun _ _ _ _ _ _ us hl => match us, hl with | [_], _ => rfl)
  have D15 : Cal P w K mg base "_law_pairs" ["_law_pool_here"] 3 spPrs := calOf F40 (ok_prs B D8 D9 F40) (He.glo_ok X G (c.fact 40 rfl)) (F40.bindsN fun _ _ _ _ _ _ us hl => match us, hl with | [_], _ => rfl)
  have P1b : Cal P w K mg base "is_tuple_of" ["many", "thing"] 1 (spTup1 K) := calOf F2 (ok_tup1 B F2) (He.glo_ok X G (c.fact 2 rfl)) (F2.bindsN fun _ _ _ _ _ _ us hl => match us, hl with | [_, _], _ => rfl)
  have P2b : Cal P w K mg base "is_integer_tuple" ["thing"] 2 (spIntTup1 K) := calOf F3 (ok_intTup1 B C0 F3) (He.glo_ok X G (c.fact 3 rfl)) (F3.bindsN fun _ _ _ _ _ _ us hl => match us, hl with | [_], _ => rfl)
  have P1 : Cal P w K mg base "is_tuple_of" ["many", "thing"] 1 (spTupOf (He.ga K "Wishes")) := calOf F2 (ok_tupOf B IT F2) (He.glo_ok X G (c.fact 2 rfl)) (F2.bindsN fun _ _ _ _ _ _ us hl => match us, hl with | [_, _], _ => rfl)
  have P2 : Cal P w K mg base "is_integer_tuple" ["thing"] 2 spIntTup := calOf F3 (ok_intTup B C0 F3) (He.glo_ok X G (c.fact 3 rfl)) (F3.bindsN fun _ _ _ _ _ _ us hl => match us, hl with | [_], _ => rfl)
  have P3 : Cal P w K mg base "choices" ["wishes", "router"] 6 (spChoices K (He.ga K "Wishes")) := calOf F8 (ok_choices B WC1 gG gT F8) (He.glo_ok X G (c.fact 8 rfl)) (F8.bindsN fun _ _ _ _ _ _ us hl => match us, hl with | [_, _], _ => rfl)
  have P4b : Cal P w K mg base "is_choice" ["wishes", "router", "thing"] 7 (spChoice1 K (He.ga K "Wishes")) := calOf F10 (ok_choice1 P2b P3 F10) (He.glo_ok X G (c.fact 10 rfl)) (F10.bindsN fun _ _ _ _ _ _ us hl => match us, hl with | [_, _, _], _ => rfl)
  have P5b : Cal P w K mg base "is_taking" ["wishes", "thing"] 8 (spTaking1 K (He.ga K "Wishes")) := calOf F9 (ok_taking1 B WC1 P1b P4b F9) (He.glo_ok X G (c.fact 9 rfl)) (F9.bindsN fun _ _ _ _ _ _ us hl => match us, hl with | [_, _], _ => rfl)
  have P4 : Cal P w K mg base "is_choice" ["wishes", "router", "thing"] 7 (spChoice (He.ga K "Wishes")) := calOf F10 (ok_choice P2 P3 F10) (He.glo_ok X G (c.fact 10 rfl)) (F10.bindsN fun _ _ _ _ _ _ us hl => match us, hl with | [_, _, _], _ => rfl)
  have P5 : Cal P w K mg base "is_taking" ["wishes", "thing"] 8 (spTaking (He.ga K "Wishes")) := calOf F9 (ok_taking B WC1 P1 P4 F9) (He.glo_ok X G (c.fact 9 rfl)) (F9.bindsN fun _ _ _ _ _ _ us hl => match us, hl with | [_, _], _ => rfl)
  have S5 : Cal P w K mg base "let_ways" ["wishes"] 6 (spLetWays (He.ga K "Wishes")) := calOf F18 (ok_letWays B WC1 F18) (He.glo_ok X G (c.fact 18 rfl)) (F18.bindsN fun _ _ _ _ _ _ us hl => match us, hl with | [_], _ => rfl)
  have MLW : ML P w K mg base (He.ga K "Wishes") := ⟨TX, ⟨_, d44, He.meth_ok (c.fact 63 rfl), ok_lines B hso S5 F44, F44.bindsN fun _ _ _ _ _ _ us hl => match us, hl with | [_], _ => rfl⟩⟩
  have PF1 : Cal P w K mg base "cannot_stay" ["wishes", "items", "router"] 6 (spStay K (He.ga K "Wishes")) := calOf F11 (ok_stay B WC1 F11) (He.glo_ok X G (c.fact 11 rfl)) (F11.bindsN fun _ _ _ _ _ _ us hl => match us, hl with | [_, _, _], _ => rfl)
  have PF2 : Cal P w K mg base "first_that_cannot_stay" ["wishes", "items"] 7 (spFirst K (He.ga K "Wishes")) := calOf F12 (ok_first B WC1 PF1 F12) (He.glo_ok X G (c.fact 12 rfl)) (F12.bindsN fun _ _ _ _ _ _ us hl => match us, hl with | [_, _], _ => rfl)
  have PO : Cal P w K mg base "is_outcome" ["wishes", "thing"] 9 (spOutU K (He.ga K "Wishes")) := calOf F13 (fnOk_or (ok_out1 P5b PF2 F13) (ok_out P5 PF2 F13)) (He.glo_ok X G (c.fact 13 rfl)) (F13.bindsN fun _ _ _ _ _ _ us hl => match us, hl with | [_, _], _ => rfl)
  have ES := errB_ok (x := "BadTaking") x6 (He.glo_ok X G (c.fact 79 rfl))
  have gWE := He.glo_ok X G (c.fact 78 (f := .glo "WishError") rfl)
  have EK := ek2B_ok x7
  have xBB := He.exm_ok (c.fact 80 (f := .exm "BadTaking" "BadTaking" true) rfl)
  have QC : CalX P w K mg base "comes" ["wishes", "taking"] 10 (spCo K (He.ga K "Wishes") (He.ga K "BadTaking")) := ⟨⟨_, d14, ok_co B hso MLW ES PO F14, He.glo_ok X G (c.fact 14 rfl), F14.kp, (F14.bindsN fun _ _ _ _ _ _ us hl => match us, hl with | [_, _], _ => rfl)⟩⟩
  have L3 : Cal P w K mg base "_law_lines" ["_law_lists_here"] 1 spLLines := calOf F27 (ok_lns B hso F27) (He.glo_ok X G (c.fact 27 rfl)) (F27.bindsN fun _ _ _ _ _ _ us hl => match us, hl with | [_], _ => rfl)
  have L5 : Cal P w K mg base "_law_steps" ["_law_lists_here"] 2 spLSteps := calOf F28 (ok_sts22 B L3 F28) (He.glo_ok X G (c.fact 28 rfl)) (F28.bindsN fun _ _ _ _ _ _ us hl => match us, hl with | [_], _ => rfl)
  have L6 : Cal P w K mg base "_law_begin" ["_law_lists_here"] 2 spLBegin := calOf F29 (ok_lBegin B L3 F29) (He.glo_ok X G (c.fact 29 rfl)) (F29.bindsN fun _ _ _ _ _ _ us hl => match us, hl with | [_], _ => rfl)
  have L7 : Cal P w K mg base "_law_is_open" ["_law_lines_here", "_law_told", "_law_way"] 1 spOpn := calOf F30 (ok_opn B F30) (He.glo_ok X G (c.fact 30 rfl)) (F30.bindsN fun _ _ _ _ _ _ us hl => match us, hl with | [_, _, _], _ => rfl)
  have L8 : Cal P w K mg base "_law_moved" ["_law_lists_here", "_law_lines_here", "_law_stand", "_law_step"] 2 spMoved := calOf F31 (ok_mv2 B L7 F31) (He.glo_ok X G (c.fact 31 rfl)) (F31.bindsN fun _ _ _ _ _ _ us hl => match us, hl with | [_, _, _, _], _ => rfl)
  have L9 : Cal P w K mg base "_law_moves" ["_law_lists_here", "_law_lines_here", "_law_steps_here", "_law_stand"] 3 spMvs := calOf F32 (ok_mvs B L8 F32) (He.glo_ok X G (c.fact 32 rfl)) (F32.bindsN fun _ _ _ _ _ _ us hl => match us, hl with | [_, _, _, _], _ => rfl)
  have LR : Cal P w K mg base "_law_rows" ["_law_lists_of_items", "_law_most"] 1 spRws := calOf F33 (ok_rws B F33) (He.glo_ok X G (c.fact 33 rfl)) (F33.bindsN fun _ _ _ _ _ _ us hl => match us, hl with | [_, _], _ => rfl)
  have LI : Cal P w K mg base "_law_is_outcome" ["_law_lists_here", "_law_taking"] 1 spIso := calOf F34 (ok_iso B F34) (He.glo_ok X G (c.fact 34 rfl)) (F34.bindsN fun _ _ _ _ _ _ us hl => match us, hl with | [_, _], _ => rfl)
  have LS : Cal P w K mg base "_law_is_step" ["_law_steps_here", "_law_thing"] 1 spIst := calOf F35 (ok_ist B F35) (He.glo_ok X G (c.fact 35 rfl)) (F35.bindsN fun _ _ _ _ _ _ us hl => match us, hl with | [_, _], _ => rfl)
  have LF : Cal P w K mg base "_law_refused" ["_law_wishes_here", "_law_thing"] 11 (spRfd (He.ga K "Wishes")) := calOf F36 (ok_rfd B hVE QC ES gWE xBB EK F36) (He.glo_ok X G (c.fact 36 rfl)) (F36.bindsN fun _ _ _ _ _ _ us hl => match us, hl with | [_, _], _ => rfl)
  have LC : Cal P w K mg base "_law_comes" ["_law_lists_here", "_law_wishes_here", "_law_taking"] 11 (spCms (He.ga K "Wishes")) := calOf F37 (ok_cms B MW QC L3 L5 L6 LS L8 L9 F37) (He.glo_ok X G (c.fact 37 rfl)) (F37.bindsN fun _ _ _ _ _ _ us hl => match us, hl with | [_, _, _], _ => rfl)
  have LG : Cal P w K mg base "_law_flagged" ["_law_way"] 1 spFlg := calOf F38 (ok_flg B F38) (He.glo_ok X G (c.fact 38 rfl)) (F38.bindsN fun _ _ _ _ _ _ us hl => match us, hl with | [_], _ => rfl)
  have LO : Cal P w K mg base "_law_odd" ["_law_pool_here", "_law_taking"] 2 spOdd3 := calOf F39 (ok_odd3 B D8 LG F39) (He.glo_ok X G (c.fact 39 rfl)) (F39.bindsN fun _ _ _ _ _ _ us hl => match us, hl with | [_, _], _ => rfl)
  exact ok_law B ⟨D7, D8, D15, D14, D13, LR, LI, LC, LF, LO, MW⟩ F41
end Wk
open PySem PySem.W PySem.Calls PyProof.Rows
set_option maxHeartbeats 0
theorem PySem.Challenge.cw_wishreels_k22_steps_to_an_outcome_holds : PySem.Challenge.rw_wishreels_k22_steps_to_an_outcome.Holds := by
  w_on; o_law
  refine HandSHeadRun.head_any (r := Wk.R) (q := view Wk.R.prog [59]) (H := Wk.hk) (ob := Wk.ob) (M := 8000) (loose := Wk.loose) (d := HandSHeadRun.topDef Wk.R.prog 59) (kwd := []) Wk.ob_eq
    (by kernel_rfl) (fun s => by kernel_rfl) Wk.run (by kernel_rfl) (by kernel_rfl) (by kernel_rfl) (by rfl) (by first | assumption | decide +kernel) (by decide +kernel) ⟨rfl, rfl, rfl, rfl, rfl, by decide +kernel⟩ ?hw ?hc
  case hw => w_witness2
  case hc =>
    refine L2.walk_ofE (l := PySem.Challenge.rw_wishreels_k22_steps_to_an_outcome) (n := 63) (k := 12) (x := "_law_script") (CX := L2.CX0) rfl (by decide) (by kernel_rfl) ⟨rfl, by decide, by decide⟩ ?F (fun _ _ _ _ z => z)
    intro w mg fa h Y G hmg0
    obtain ⟨K, kx, c, cx⟩ := Y
    have hmg : mg ("law" : PySem.Str) = some (.ref fa) := by
      have e : (HandSHeadRun.topDef Wk.R.prog 59).name = ("law" : PySem.Str) := by kernel_rfl
      rw [← e]
      exact hmg0
    obtain ⟨fd, hb, hF⟩ := Wk.facts (P := (PySem.Challenge.rw_wishreels_k22_steps_to_an_outcome).prog) (w := w) kx G hmg c cx
    exact ⟨K, fd, Wk.spLaw K, kx, hb, fun H a ns hl _ hS => ⟨a, ns, rfl, hS, hl, fun _ => rfl⟩, hF⟩

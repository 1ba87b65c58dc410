import PyProof.Rows.All
import Wide.All
import OpenK.AllK
import Wide.FinOn
import KE.KStateDown
import HandS.ForMost
import HandS.More
import HandS.WordsExc
import HandS.Defaults
import HandS.Deep
import HandS.IsInst
import HandS.Evl
import HandS.Walk
import HandS.TupSets
import HandS.TupAny
import HandS.Conv
import PyProof.P3In
import HandS.SetFor
import HandS.Strs
import KE.GoesMore
import KE.GoesEnum
import HandS.ExcInit
import HandS.ExcField
import HandS.ExcOwn
import PyProof.NeKinds
import PyProof.EqKinds
import PyProof.FactsAll.subtypes_4
import PyProof.FactsAll.dict_1
import KE.SortData
import HandS.NamedTupSort
import HandS.SortRule
import HandS.ExcValue
import KE.KSortTup
import HandS.DictComp
import HandS.Comp
import HandS.TupMul
import HandS.Steps
import PyProof.SeqIndex
import KE.GoesZip
import HandS.TupLe
import HandS.Style
import KE.KRevSl
import HandS.Head0
import HandS.Head1
import HandS.Head2
import HandS.HeadEnd
import HandS.HeadHook1
import HandS.HeadHook2
import PySem.Challenge.RW_wishreels_k06_spoiled_outcome_trees
set_option Elab.async false
set_option linter.all false
set_option maxRecDepth 100000
set_option maxHeartbeats 2000000
namespace Wk
open PySem PySem.Spec PyProof.Rows L2 Evl
/-! data that stand in a heap -/
mutual
inductive Dq (G : Hp) : V → PyData → Prop
  | non : Dq G .non .none
  | bl (b : Bool) : Dq G (.bl b) (.bool b)
  | int (i : Int) : Dq G (.int i) (.int i)
  | str (x : Str) : Dq G (.str x) (.str x)
  | lst {a : Addr} {xs : List V} {ds : List PyData} : G a = some (.lst xs) → DqA G xs ds → Dq G (.ref a) (.list ds)
  | tup {a : Addr} {xs : List V} {ds : List PyData} : G a = some (.tup xs) → DqA G xs ds → Dq G (.ref a) (.tuple ds)
  | dic {a : Addr} : G a = some (.dK []) → Dq G (.ref a) (.dict [])
inductive DqA (G : Hp) : List V → List PyData → Prop
  | nil : DqA G [] []
  | cons {v : V} {vs : List V} {d : PyData} {ds : List PyData} : Dq G v d → DqA G vs ds → DqA G (v :: vs) (d :: ds)
end
mutual
theorem Dq.mono {G H : Hp} (e : Ex G H) : ∀ {d : PyData} {v : V}, Dq G v d → Dq H v d
  | .none, _, .non => .non
  | .bool _, _, .bl b => .bl b
  | .int _, _, .int i => .int i
  | .str _, _, .str x => .str x
  | .list _, _, .lst h a => .lst (e _ _ h) (DqA.mono e a)
  | .tuple _, _, .tup h a => .tup (e _ _ h) (DqA.mono e a)
  | .dict _, _, .dic h => .dic (e _ _ h)
theorem DqA.mono {G H : Hp} (e : Ex G H) : ∀ {ds : List PyData} {vs : List V}, DqA G vs ds → DqA H vs ds
  | [], _, .nil => .nil
  | _ :: _, _, .cons h t => .cons (Dq.mono e h) (DqA.mono e t)
end
mutual
theorem Dq.dp {K : PySem.W.Frag} {G : Hp} : ∀ {d : PyData} {v : V}, d.canLay0 = true → Dq G v d → Dp K G v d
  | .none, _, _, .non => .non
  | .bool _, _, _, .bl b => .bl b
  | .int _, _, _, .int i => .int i
  | .str _, _, _, .str x => .str x
  | .list ds, _, c, .lst h a => .lst (sq_of h) (DqA.dp (by simpa [PyData.canLay0] using c) a)
  | .tuple ds, _, c, .tup h a => .tup (st_of h) (DqA.dp (by simpa [PyData.canLay0] using c) a)
  | .dict _, _, c, .dic h => by simp [PyData.canLay0] at c
theorem DqA.dp {K : PySem.W.Frag} {G : Hp} : ∀ {ds : List PyData} {vs : List V}, PyData.canLayAll0 ds = true → DqA G vs ds → DpAll K G vs ds
  | [], _, _, .nil => .nil
  | d :: ds, _, c, .cons h t => by
    have c' : d.canLay0 = true ∧ PyData.canLayAll0 ds = true := by simpa [PyData.canLayAll0] using c
    exact .cons (Dq.dp c'.1 h) (DqA.dp c'.2 t)
end
theorem DqA.length {G : Hp} : ∀ {ds : List PyData} {vs : List V}, DqA G vs ds → vs.length = ds.length
  | [], _, .nil => rfl
  | _ :: _, _, .cons _ t => congrArg Nat.succ t.length
theorem DqA.get {G : Hp} : ∀ {ds : List PyData} {vs : List V} {i : Nat} {v : V}, DqA G vs ds → vs[i]? = some v → ∃ d, ds[i]? = some d ∧ Dq G v d
  | [], _, i, v, .nil, e => by simp at e
  | d :: _, _, 0, v, .cons h t, e => ⟨d, rfl, by simp at e; subst e; exact h⟩
  | _ :: _, _, i + 1, v, .cons h t, e => by
    obtain ⟨d, e1, e2⟩ := t.get (i := i) (by simpa using e)
    exact ⟨d, by simpa using e1, e2⟩
theorem DqA.at {G : Hp} {ds : List PyData} {vs : List V} {i : Nat} {d : PyData} (h : DqA G vs ds) (e : ds[i]? = some d) : ∃ v, vs[i]? = some v ∧ Dq G v d := by
  have hl := h.length
  obtain ⟨hi, _⟩ := List.getElem?_eq_some_iff.mp e
  have hv : vs[i]? = some (vs[i]'(by omega)) := List.getElem?_eq_getElem (by omega)
  obtain ⟨d', e1, e2⟩ := h.get hv
  rw [e] at e1
  cases e1
  exact ⟨_, hv, e2⟩
theorem DqA.append {G : Hp} : ∀ {ds es : List PyData} {vs us : List V}, DqA G vs ds → DqA G us es → DqA G (vs ++ us) (ds ++ es)
  | [], _, _, _, .nil, h => h
  | _ :: _, _, _, _, .cons h t, u => .cons h (t.append u)
theorem DqA.take {G : Hp} : ∀ {ds : List PyData} {vs : List V} (n : Nat), DqA G vs ds → DqA G (vs.take n) (ds.take n)
  | [], _, n, .nil => by simp; exact .nil
  | _ :: _, _, 0, .cons h t => .nil
  | _ :: _, _, n + 1, .cons h t => .cons h (t.take n)
theorem DqA.drop {G : Hp} : ∀ {ds : List PyData} {vs : List V} (n : Nat), DqA G vs ds → DqA G (vs.drop n) (ds.drop n)
  | [], _, n, .nil => by simp; exact .nil
  | _ :: _, _, 0, .cons h t => .cons h t
  | _ :: _, _, n + 1, .cons h t => t.drop n
theorem DqA.ints {G : Hp} : ∀ (ns : List Int), DqA G (ns.map V.int) (ns.map PyData.int)
  | [] => .nil
  | n :: ns => .cons (.int n) (DqA.ints ns)
theorem DqA.int_inv {G : Hp} : ∀ {ns : List Int} {vs : List V}, DqA G vs (ns.map PyData.int) → vs = ns.map V.int
  | [], _, .nil => rfl
  | _ :: _, _, .cons (.int n) t => by
    have := DqA.int_inv t
    subst this
    rfl
/-- the name of a datum's type -/
def tyN : PyData → String
  | .none => "NoneType"
  | .bool _ => "bool"
  | .int _ => "int"
  | .str _ => "str"
  | .list _ => "list"
  | .tuple _ => "tuple"
  | .dict _ => "dict"
theorem Dq.ty {K : PySem.W.Frag} {G : Hp} {d : PyData} {v : V} (h : Dq G v d) : TyX K G v (.type (tyN d)) := by
  cases h with
  | non => exact .base .non
  | bl b => exact .base (.bl b)
  | int i => exact .base (.int i)
  | str x => exact .base (.str x)
  | lst h _ => exact .base (.lst h)
  | tup h _ => exact .base (.tup h)
  | dic h => exact .base (.dK h)
/-- a call's callee: the def that a global name holds -/
structure Cal (P : Program) (w : World) (K : PySem.W.Frag) (mg : Str → Option Value) (base : Heap) (x : Str) (ps : List Str) (k : Nat) (sp : Sp) : Prop where
  ex : ∃ (f : Addr) (fd : FuncData), FnOk P w K mg base CX0 k f fd ps sp ∧ mg x = some (.ref f) ∧ PySem.W.keepIn K (.ref f) = true ∧ Binds K fd ps []
section
variable {X : Cx}
theorem pe_cal {x : Str} {p pos : Pos} {e : Expr} {es : List Expr} {ps : List Str} {k j : Nat} {sp : Sp} {t : TA} (C : Cal X.prog X.w X.K X.mg X.base x ps k sp) (hr : Room j X.A) (hg : Gl X x) (ha : PA X (e :: es) t) (hk : k ≤ j := by decide)
    (hdb : (x == ("__debug__" : Str)) = false := by decide) (he : starEach (e :: es) X.env = (false, eval e X.env) :: starEach es X.env := by rfl) (hpl : (backTo pos (starEach es X.env)).any (·.1) = false := by rfl) :
    PE X (.Call (.Name x p) (e :: es) [] pos) (tCall sp [] E0 t) := by
  obtain ⟨f, fd, F, g, kp, b⟩ := C.ex
  exact pe_call F (hr.mono hk) hg g kp b .nil pass0 ha hdb he hpl
end
section
variable {K : PySem.W.Frag} {σ : L2.St} {H : Hp} {ta tb tc te : TE}
/-- isinstance(x, T), T a built-in type -/
theorem ev_isi {v : V} {d : PyData} {n : String} {b : Bool} (h : Ev ta σ H v) (hd : Dq H v d) (hk : kitB (tyN d) n = some b) : Ev (tCB (rIsi K) (tCons ta (tCons (tC (.ty n)) tNil))) σ H (.bl b) := fun H1 e Q q =>
  h H1 e _ fun H2 e2 => ⟨v, .ty n, .type (tyN d), .type n, b, rfl, .ty n, (hd.mono (e.trans e2)).ty, kit_ty hk, q H2 e2⟩
/-- a <= b <= c of ints -/
theorem ev_chain {i j k : Int} {r r' : R2} {b1 b2 : Bool} (ha : Ev ta σ H (.int i)) (hb : Ev tb σ H (.int j)) (hc : Ev tc σ H (.int k)) (h1 : RV r (.int i) (.int j) H (.bl b1)) (h2 : RV r' (.int j) (.int k) H (.bl b2)) :
    Ev (tChain r r' ta tb tc) σ H (.bl (b1 && b2)) := fun H1 e Q q =>
  ha H1 e _ fun H2 e2 => hb H2 (e.trans e2) _ fun H3 e3 => h1 H3 ((e.trans e2).trans e3) _ fun H4 e4 => ⟨b1, rfl, by
    cases b1 with
    | false => exact q H4 ((e2.trans e3).trans e4)
    | true => exact hc H4 (((e.trans e2).trans e3).trans e4) _ fun H5 e5 => h2 H5 ((((e.trans e2).trans e3).trans e4).trans e5) _ fun H6 e6 => q H6 ((((e2.trans e3).trans e4).trans e5).trans e6)⟩
end
end Wk

set_option Elab.async false
set_option linter.all false
set_option maxRecDepth 100000
set_option maxHeartbeats 4000000
namespace Wk
open PySem PySem.Spec PyProof.Rows L2 Evl
/-! how many are unlike -/
theorem nd_le {α : Type} [DecidableEq α] : ∀ (l D : List α), l.Nodup → (∀ x ∈ l, x ∈ D) → l.length ≤ D.length
  | [], _, _, _ => Nat.zero_le _
  | x :: l, D, hn, hs => by
    have hn' := List.nodup_cons.mp hn
    have hx : x ∈ D := hs x List.mem_cons_self
    have ih := nd_le l (D.erase x) hn'.2 fun y hy => (List.mem_erase_of_ne (fun (e : y = x) => hn'.1 (by rw [← e]; exact hy))).2 (hs y (List.mem_cons_of_mem _ hy))
    have e := List.length_erase_of_mem hx
    have hp : 0 < D.length := List.length_pos_of_mem hx
    simp only [List.length_cons]
    omega
theorem dup_less {α : Type} [DecidableEq α] : ∀ (D : List α), ¬ D.Nodup → ∃ D' : List α, (∀ x ∈ D, x ∈ D') ∧ D'.length < D.length
  | [], h => absurd List.nodup_nil h
  | x :: D, h => by
    by_cases hx : x ∈ D
    · exact ⟨D, fun y hy => (List.mem_cons.mp hy).elim (fun e => by rw [e]; exact hx) id, Nat.lt_succ_self _⟩
    · have hD : ¬ D.Nodup := fun z => h (List.nodup_cons.mpr ⟨hx, z⟩)
      obtain ⟨D', h1, h2⟩ := dup_less D hD
      exact ⟨x :: D', fun y hy => (List.mem_cons.mp hy).elim (fun e => by rw [e]; exact List.mem_cons_self) (fun e => List.mem_cons_of_mem _ (h1 y e)), Nat.succ_lt_succ h2⟩
theorem nd_iff {α : Type} [DecidableEq α] {l D : List α} (hn : l.Nodup) (h : ∀ x, x ∈ l ↔ x ∈ D) : l.length = D.length ↔ D.Nodup := by
  constructor
  · intro e
    apply Classical.byContradiction
    intro hD
    obtain ⟨D', h1, h2⟩ := dup_less D hD
    have := nd_le l D' hn fun x hx => h1 x ((h x).mp hx)
    omega
  · intro hD
    have h1 := nd_le l D hn fun x hx => (h x).mp hx
    have h2 := nd_le D l hD fun x hx => (h x).mpr hx
    omega
section
variable {X : Cx}
/-- len(set(t)), t a tuple of ints -/
def tLenSU (K : PySem.W.Frag) (ta : TE) : TE := fun σ H Q => ta σ H fun x H1 => ∃ (l : Addr) (ns : List Int), x = V.ref l ∧ SqT K H1 l (ns.map V.int) ∧ ns.length < 64 ∧ ∀ n : Nat, (n = ns.length ↔ ns.Nodup) → Q (.int n) H1
theorem pe_lenSU {a : Expr} {ta : TE} {p p2 q pos : Pos} (hc : X.calm = true) (hg : Gl X "len") (hm : X.mg "len" = none) (hg2 : Gl X "set") (hm2 : X.mg "set" = none) (ha : PE X a ta)
    (na : starEach [a] X.env = (false, eval a X.env) :: starEach [] X.env := by rfl) : PE X (.Call (.Name "len" p) [.Call (.Name "set" p2) [a] [] q] [] pos) (tLenSU X.K ta) := by
  refine ⟨fun pins s σ H Q I h => ?_⟩
  refine Call_ (ld_blt I hg hm PySem.boot_len ?_)
  refine PyProof.Rows.callWith_builtin1 (PyProof.Rows.args_cons ?_ rfl) rfl rfl
  refine Call_ (ld_blt I hg2 hm2 PyProof.Rows.boot_set ?_)
  refine PyProof.Rows.callWith_type1 (PyProof.Rows.args_cons (thn (ha.run pins s σ H _ I h) fun v s1 hh => PyProof.Rows.args_nil ?_) na) na rfl
  obtain ⟨x, H1, I1, r1, l, ns, rfl, hq, hlt, q1⟩ := hh
  cases r1
  obtain ⟨its, r, pl, hz⟩ := I1.tuple hq
  refine call_set_tupI (w := X.w) ns (I1.ok.hd hc) pl (by simpa using r.ints) (by unfold scanBound; omega) fun h' tk c hS hc2 hk => ?_
  refine PyProof.Rows.args_nil ?_
  obtain ⟨o, es, ep, t, ho, hex, hd, _, hnd, hiff, _, hf, hn, _⟩ := hS
  have I2 : Inv X pins σ H1 { s1 with heap := h', toks := tk } := I1.kept fun b o e => hk b o e
  refine call_len_set ho hex hd hf (by rw [hn] <;> omega) ⟨.int es.size, H1, I2.tok _, ⟨_, rfl⟩, q1 es.size ?_⟩
  have hl : (es.toList.map keyOf).length = es.size := by simp
  rw [← hl]
  exact nd_iff hnd fun k => by
    have := hiff k
    simp only [decide_eq_true_eq] at this
    exact this.symm
end
/-- the set that set() lays -/
abbrev sO (w : World) : Obj := { cls := .type "set", dict := none, data := .set #[] 0 (.fresh 0 0 (!w.params.followText "set-order")) }
section
variable {P : Program} {w : World} {A : Around} {E : Value → Shared → Prop} {s : Shared}
/-- set(t), t a tuple of tuples of ints -/
theorem set_of_tup2 {l : Addr} {its : Array Value} (ks : List (Addr × List Int)) {Q : Value → Shared → Prop} (nh : A.handled = none) (tl : s.heap.IsTuple l its) (eq : its.toList = ks.map fun p => Value.ref p.1)
    (ki : ∀ p ∈ ks, IsT P w s.heap p.2 p.1) (few : ks.length < 64) (un : A.units + 3 < cLine)
    (fin : ∀ (h' : Heap) (tk : Nat) L es ep t, SetTR P w h' s.heap.objs.size L es ep t → Got ks ks.length L → (∀ b o, s.heap.get? b = some o → h'.get? b = some o) → Q (.ref s.heap.objs.size) { s with heap := h', toks := tk }) :
    wpAny (model P w) A (call (.type "set") [.ref l]) Q E s := by
  have size : its.size = ks.length := by have q := congrArg List.length eq; simpa using q
  obtain ⟨c, rest, mro⟩ := F.called_set.mro
  have made := F.called_set.made; have sub := F.called_set.sub
  refine wpAny_call (codeAny_of_tree (show wpAny _ _ (callAny (.type "set") _) _ _ _ from ?_))
  refine wpAny_pure ⟨Code.quiet_builtin _ (by decide +kernel), codeAny_builtin F.entry_type_call (by
    rw [Around.under_plain (weight_type_call_type "set" [.ref l] []) rfl]
    have nt := F.called_set.notType; have cc := F.called_set.canCreate; have tc := F.typeCall_set_1 (.ref l)
    repeat (any_goals (first | assumption | wp_step))
    refine codeAny_mono (code_set_led1 (.ref l) (E := E) (Q₁ := fun ob s1 => ob = .ref s.heap.objs.size ∧ s1 = { s with heap := s.heap.push (sO w) }) ⟨rfl, rfl⟩) fun r s1 hr => ?_
    cases r with
    | error e => exact hr
    | ok fl =>
      cases fl with
      | ret ob =>
        obtain ⟨rfl, rfl⟩ := hr
        have hS : (s.heap.push (sO w)).get? s.heap.objs.size = some (sO w) := Heap.get?_push_size _ rfl
        have hT : Shared.TypeIs { s with heap := s.heap.push (sO w) } (.ref s.heap.objs.size) "set" := ⟨_, hS, rfl⟩
        have li := F.called_set.init.lookup; have bi := F.called_set.init.bind (.ref s.heap.objs.size)
        repeat (any_goals (first | assumption | wp_step))
        refine codeAny_mono (codeAny_call_builtin (R := wants (fun r s2 => r = .none ∧ ∃ h' tk L es ep t, s2 = { s with heap := h', toks := tk } ∧ SetTR P w h' s.heap.objs.size L es ep t ∧ Got ks ks.length L ∧ (∀ b o, s.heap.get? b = some o → h'.get? b = some o)) E)
          F.called_set.init.plain F.entry_set_init (check_set_init_1 hT ?_)) fun r2 s2 hr2 => ?_
        · obtain ⟨⟨oc, od, dt, sl⟩, ol, cl, n, dl⟩ := tl
          simp only at cl dl; subst cl; subst dl
          have ol1 : (s.heap.push (sO w)).get? l = some { cls := .type "tuple", dict := od, data := .seq its n, slots := sl } := Heap.get?_push_of_some _ ol
          have b1 := F.sub_tuple_set; have b2 := F.sub_tuple_frozenset
          have b3 : (Value.type "tuple" == Value.type "dict") = false := by decide
          have tl1 : (s.heap.push (sO w)).IsTuple l its := ⟨_, ol1, rfl, n, rfl⟩
          unfold Builtin.«set.__init__» noKeywords Builtin.Frozenset.updateFrom
          generalize hPI : pyIter = PI
          wp_walk
          subst hPI
          refine wpAny_pyIter_tuple tl1 (wpAny_bind (wpAny_runValue ?_))
          have lt : l < s.heap.objs.size := Heap.lt_size ol
          have nh3 : A.in1.in1.in1.handled = none := by simp [nh]
          have ne1 : l ≠ (s.heap.push (sO w)).objs.size := by rw [Heap.size_push]; exact Nat.ne_of_lt (Nat.lt_succ_of_lt lt)
          have nin : s.heap.objs.size ∉ [(s.heap.push (sO w)).objs.size, l] := by
            rw [Heap.size_push]
            intro z
            rcases List.mem_cons.mp z with z | z
            · exact absurd z (Nat.ne_of_lt (Nat.lt_succ_self _))
            · exact absurd (List.mem_singleton.mp z) (Nat.ne_of_gt lt)
          have val : ∀ (i : Nat) (v : Value), its[i]? = some v → ∃ p, ks[i]? = some p ∧ v = .ref p.1 := fun i v hv => by
            have q : its.toList[i]? = some v := (Array.getElem?_toList ..).trans hv
            rw [eq, List.getElem?_map] at q
            cases hq : ks[i]? with
            | none => rw [hq] at q; cases q
            | some p => rw [hq] at q; exact ⟨p, rfl, (Option.some.inj q).symm⟩
          have out : ∀ b, s.heap.objs.size ≤ b → s.heap.get? b = none := fun b hb => by
            cases q : s.heap.get? b with
            | none => rfl
            | some o => exact absurd (Nat.lt_of_lt_of_le (Heap.lt_size q) hb) (Nat.lt_irrefl _)
          refine set_update_tups ((Walks.tuple nh3 _ l ne1 its).toS) s.heap.objs.size nin ks size few val s.heap ki (out _ (Nat.le_refl _)) (fun b hb => out b (by rw [List.mem_singleton.mp hb, Heap.size_push]; exact Nat.le_succ _)) un (its.size - 0) 0 _ (by omega) (Nat.zero_le _)
            ⟨⟨_, Heap.get?_push_size _ rfl, rfl, rfl⟩, (tl1.push _)⟩ (fun b o e => Heap.get?_push_of_some _ (Heap.get?_push_of_some _ e)) ⟨[], #[], 0, _, setTR_fresh (Heap.get?_push_of_some _ hS), Got.zero ks⟩ ?_
          intro s' L es ep t hm hS' g' kp
          obtain ⟨h', g2, d', tk', os'⟩ := s'
          have eg : g2 = s.gens := hm.gens
          have ed : d' = s.drawn := hm.drawn
          have eo : os' = s.os := hm.os
          subst eg; subst ed; subst eo
          show wpAny _ _ _ _ _ _
          refine wpAny_pure (show wpAny _ _ (ret Value.none) _ _ _ from ?_)
          rw [size] at g'
          exact wpAny_pure ⟨rfl, h', tk', L, es, ep, t, rfl, hS', g', kp⟩
        · cases r2 with
          | error e => exact hr2
          | ok fl2 =>
            cases fl2 with
            | ret r =>
              obtain ⟨rfl, h', tk, L, es, ep, t, rfl, hS', g', k'⟩ := hr2
              repeat (any_goals (first | assumption | wp_step))
              exact fin _ _ _ _ _ _ hS' g' k'
            | _ => exact hr2.elim
      | _ => exact hr.elim)⟩
end
section
variable {X : Cx}
/-- len(set(t)), t a tuple of tuples of ints -/
def tLenSUU (K : PySem.W.Frag) (ta : TE) : TE := fun σ H Q => ta σ H fun x H1 => ∃ (l : Addr) (ks : List (Addr × List Int)), x = V.ref l ∧ SqT K H1 l (ks.map fun p => V.ref p.1) ∧ (∀ p ∈ ks, SqT K H1 p.1 (p.2.map V.int)) ∧ ks.length < 64 ∧
  ∀ n : Nat, (n = ks.length ↔ (ks.map (·.2)).Nodup) → Q (.int n) H1
theorem pe_lenSUU {a : Expr} {ta : TE} {p p2 q pos : Pos} (hc : X.calm = true) (hu : X.A.units + 64 < cLine) (hg : Gl X "len") (hm : X.mg "len" = none) (hg2 : Gl X "set") (hm2 : X.mg "set" = none) (ha : PE X a ta)
    (na : starEach [a] X.env = (false, eval a X.env) :: starEach [] X.env := by rfl) : PE X (.Call (.Name "len" p) [.Call (.Name "set" p2) [a] [] q] [] pos) (tLenSUU X.K ta) := by
  refine ⟨fun pins s σ H Q I h => Call_ (ld_blt I hg hm PySem.boot_len (PyProof.Rows.callWith_builtin1 (PyProof.Rows.args_cons (Call_ (ld_blt I hg2 hm2 PyProof.Rows.boot_set ?_)) rfl) rfl rfl))⟩
  refine PyProof.Rows.callWith_type1 (PyProof.Rows.args_cons (thn (ha.run pins s σ H _ I h) fun v s1 hh => PyProof.Rows.args_nil ?_) na) na rfl
  obtain ⟨x, H1, I1, r1, l, ks, rfl, hq, hk, few, q1⟩ := hh
  cases r1
  obtain ⟨its, r, pl, hz⟩ := I1.tuple hq
  refine set_of_tup2 (P := X.prog) (w := X.w) ks (I1.ok.hd hc) pl (by simpa using refs_of_vals r) (fun p hp => I1.isT (hk p hp)) few (by omega) fun h' tk L es ep t R g k => PyProof.Rows.args_nil ?_
  have I2 : Inv X pins σ H1 { s1 with heap := h', toks := tk } := I1.kept fun b o e => k b o e
  have hes : es.size = L.length := R.size (s := { s1 with heap := h', toks := tk })
  have hf := R.fits (s := { s1 with heap := h', toks := tk })
  obtain ⟨o, ho, hex, hd⟩ := R.ob
  refine call_len_set (s := { s1 with heap := h', toks := tk }) ho hex hd hf (by have := R.few; omega) ⟨.int es.size, H1, I2.tok _, ⟨_, rfl⟩, q1 es.size ?_⟩
  have e1 : (L.map (·.2)).length = es.size := by simp [hes]
  have e2 : (ks.map (·.2)).length = ks.length := by simp
  rw [← e1, ← e2]
  refine nd_iff R.nd fun k => ⟨fun z => ?_, fun z => ?_⟩
  · obtain ⟨p, hp, rfl⟩ := List.mem_map.mp z
    exact List.mem_map.mpr ⟨p, List.mem_of_mem_take (g.sub p hp), rfl⟩
  · obtain ⟨p, hp, rfl⟩ := List.mem_map.mp z
    exact g.all p (by rw [List.take_length]; exact hp)
end
end Wk

set_option Elab.async false
set_option linter.all false
set_option maxRecDepth 100000
set_option maxHeartbeats 4000000
namespace Wk
open PySem PySem.Spec PyProof.Rows L2 Evl
/-- the walk of a tuple's iterator under an enumerate -/
abbrev itO (l : Addr) : Obj := { cls := .type "tuple_iterator", data := .fields #[.ref l, .int 0 0] }
abbrev enO (it : Addr) : Obj := { cls := .type "enumerate", data := .fields #[.none, .bool false, .ref it, rawInt 0, .none, .none] }
theorem enumNewT (l : Addr) (its : Array Value) (n : Nat) (od : Option Addr) (sl : Array (Option Value)) :
    Meets (Builtin.«enumerate.__new__» ⟨[.type "enumerate", .ref l], []⟩) (fun _ R s => s.heap.get? l = some { cls := .type "tuple", dict := od, data := .seq its n, slots := sl } ∧
      R (.ok (.ret (.ref (s.heap.push (itO l)).objs.size))) { s with heap := (s.heap.push (itO l)).push (enO s.heap.objs.size) }) :=
  .of_wp fun prog w A R s h => by
    obtain ⟨hp, g, d, tk, os⟩ := s; obtain ⟨hl, h⟩ := h
    have su := sub_enumerate
    have tl : Heap.IsTuple (Shared.heap ⟨hp, g, d, tk, os⟩) l its := ⟨_, hl, rfl, n, rfl⟩
    wp_walk using wpAny_loadPart' hl
    refine wpAny_stack_any fun st => wpAny_pure ?_
    split
    · rename_i c _ _ _ _ _
      cases (c == Value.type "enumerate") <;> (wp_walk using wpAny_loadPart' hl, wpAny_pyIter_tuple tl; exact ⟨_, rfl, h⟩)
    · wp_walk using wpAny_loadPart' hl, wpAny_pyIter_tuple tl
      exact ⟨_, rfl, h⟩
section
variable {prog : Program} {w : World} {A : Around} {E : Value → Shared → Prop} {s : Shared}
theorem enumT_call {l : Addr} {its : Array Value} {Q : Value → Shared → Prop} (tl : s.heap.IsTuple l its)
    (h : ∀ h', IsEnum h' (s.heap.objs.size + 1) s.heap.objs.size 0 .none → h'.IsTupleIter s.heap.objs.size l 0 → h'.objs.size = s.heap.objs.size + 2 → (∀ b o, s.heap.get? b = some o → h'.get? b = some o) → Q (.ref (s.heap.objs.size + 1)) { s with heap := h' }) :
    wpAny (model prog w) A (call (.type "enumerate") [.ref l]) Q E s := by
  obtain ⟨⟨c, od, dt, sl⟩, hl, hc, n, hd⟩ := tl
  replace hc : c = .type "tuple" := hc
  replace hd : dt = .seq its n := hd
  subst hc hd
  refine callType_new F.called_enumerate (by decide) (F.typeCall_enumerate_1 _) (F.newCall_enumerate_1 _) (fun ob => F.args_object_init_2 ob _) F.entry_enumerate_new (enumNewT l its n od sl) ⟨hl, ?_⟩
  have hz : (s.heap.push (itO l)).objs.size = s.heap.objs.size + 1 := Heap.size_push ..
  show _ ∧ _
  rw [hz]
  have he : IsEnum ((s.heap.push (itO l)).push (enO s.heap.objs.size)) (s.heap.objs.size + 1) s.heap.objs.size 0 .none := by
    have q := Heap.get?_push_size (s.heap.push (itO l)) (o := enO s.heap.objs.size) rfl
    rw [hz] at q; exact q
  exact ⟨⟨_, he, rfl⟩, h _ he ⟨_, Heap.get?_push_of_some _ (Heap.get?_push_size _ rfl), rfl, rfl⟩ (by rw [Heap.size_push, hz]) fun b o x => Heap.get?_push_of_some _ (Heap.get?_push_of_some _ x)⟩
end
/-- the tuple at a, each item in a new pair with its place -/
def IteT (K : PySem.W.Frag) (a : Addr) : It :=
  ⟨fun i H => ∃ (xs : List V) (x : V), SqT K H a xs ∧ xs[i]? = some x, fun i H v H' => ∃ T x, v = .ref T ∧ H T = none ∧ H' = upd H T (.tup [.int (i : Nat), x]) ∧ ∀ xs, SqT K H a xs → xs[i]? = some x, fun i H => ∃ xs : List V, SqT K H a xs ∧ xs.length = i⟩
theorem turn_enumT {P : Program} {w : World} {K : PySem.W.Frag} {elts : List Expr} {kk : Nat} {tpos : Pos} (a e it : Addr) :
    Turn P w K (.Tuple elts kk tpos) (IteT K a) [e, it] e (fun i h => (∃ old, IsEnum h e it ((i : Nat) : Int) old) ∧ h.IsTupleIter it a i ∧ e ≠ it) where
  mem := List.mem_cons_self
  obj := fun i h st b hb => by
    obtain ⟨⟨old, he⟩, ⟨o, ho, hc, hd⟩, _⟩ := st
    rcases List.mem_cons.mp hb with z | z
    · rw [z]; exact ⟨_, he, fun v q => nomatch q⟩
    · rw [List.mem_singleton.mp z]; exact ⟨o, ho, fun v q => by rw [hd] at q; cases q⟩
  keep := fun i h h' st k => by
    obtain ⟨⟨old, he⟩, ⟨o, ho, r⟩, hne⟩ := st
    exact ⟨⟨old, k e (by simp) _ he⟩, ⟨o, k it (by simp) o ho, r⟩, hne⟩
  item := by
    intro X hP hw hK hc i pins s σ H E I hf st hg
    subst hP hw hK
    obtain ⟨⟨old, he⟩, hit, hne⟩ := st
    obtain ⟨xs, x, hq, hx⟩ := hg
    obtain ⟨its, rv, p, hz⟩ := I.tuple hq
    obtain ⟨u, hu, ru⟩ := rv.get hx
    have el : e < s.heap.objs.size := Heap.lt_size he
    have il : it < s.heap.objs.size := by obtain ⟨_, q, _⟩ := hit; exact Heap.lt_size q
    have nai : a ≠ it := fun z => by
      obtain ⟨o, ho, oc, _⟩ := p
      obtain ⟨o2, ho2, oc2, _⟩ := hit
      rw [z, ho2] at ho
      cases ho
      rw [oc2] at oc
      injection oc with q
      exact absurd q (by decide)
    have nae : e ≠ a := fun z => by
      obtain ⟨o, ho, oc, _⟩ := p
      have he2 := he
      unfold IsEnum at he2
      rw [z, ho] at he2
      cases he2
      injection oc with q
      exact absurd q (by decide)
    have hi : i < its.toArray.size := by
      have q := (List.getElem?_eq_some_iff.mp hu).1
      simpa using q
    refine wpAny_pyNext_enum_itemD (Draws.tuple (by simpa using I.ok.hd hc) it a nai its.toArray) he ⟨hit, p⟩ hi hne (by simp [hne, nae]) fun y h' tk hy ho hst hT hsz hk => ?_
    have ey : y = u := by
      have q : its.toArray[i]? = some y := hy
      rw [List.getElem?_toArray, hu] at q
      exact (Option.some.inj q).symm
    subst ey
    refine ⟨_, rfl, wpAny_letOwnedTupleGo_enum (s := { s with heap := h', toks := tk + 1 }) ho fun h2 he' sb => ?_⟩
    have hT2 : h2.get? s.heap.objs.size = some { cls := .type "tuple", data := .seq #[.int i tk, y] } := (sb.2 _ (Nat.ne_of_gt el)).trans hT
    have nw : ObjOk X.prog X.w (upd H s.heap.objs.size (.tup [.int (i : Nat), x])) h2 s.heap.objs.size (.tup [.int (i : Nat), x]) := ⟨by show 2 ≤ sizeLine; decide, [.int i tk, y], .cons ⟨_, rfl⟩ (.cons ru .nil), ⟨_, hT2, rfl, _, rfl⟩⟩
    have I1 : Inv X pins σ (upd H s.heap.objs.size (.tup [.int (i : Nat), x])) { s with heap := h2, toks := tk + 1 } := I.turnedNew (ch := [e, it]) (fun b ob hb q => by
        have b1 : b ≠ e := fun z => hb (by simp [z])
        have b2 : b ≠ it := fun z => hb (by simp [z])
        exact (sb.2 b b1).trans (hk b ob b1 b2 q)) hf (Nat.le_refl _) nw
    refine ⟨.ref s.heap.objs.size, _, I1, rfl, ⟨_, x, rfl, I.hok.fresh (Nat.le_refl _), rfl, fun ys hy => by rw [I.tuple_inj hy hq]; exact hx⟩, ⟨⟨y, ?_⟩, ?_, hne⟩, fun b hb => ?_⟩
    · rw [show ((i + 1 : Nat) : Int) = (i : Int) + 1 by omega]; exact he'
    · obtain ⟨o, ho2, r2⟩ := hst.1
      exact ⟨o, (sb.2 it (Ne.symm hne)).trans ho2, r2⟩
    · have hb2 : b < s.heap.objs.size := by
        rcases List.mem_cons.mp hb with z | z
        · rw [z]; exact el
        · rw [List.mem_singleton.mp z]; exact il
      rw [upd_ne (Nat.ne_of_lt hb2)]
      exact (hf b hb).1
  done := by
    intro X hP hw hK hc i pins s σ H E I hf st hg
    subst hP hw hK
    obtain ⟨⟨old, he⟩, hit, hne⟩ := st
    obtain ⟨xs, hq, hx⟩ := hg
    obtain ⟨its, rv, p, hz⟩ := I.tuple hq
    obtain ⟨f0, f1, f2, f3, f4, f5⟩ := hf it (by simp)
    have hl := rv.length
    have ei : i = its.toArray.size := by simp; omega
    have nai : a ≠ it := fun z => by
      obtain ⟨o, ho, oc, _⟩ := p
      obtain ⟨o2, ho2, oc2, _⟩ := hit
      rw [z, ho2] at ho
      cases ho
      rw [oc2] at oc
      injection oc with q
      exact absurd q (by decide)
    subst ei
    exact wpAny_pyNext_enum_endD (Draws.tuple (by simpa using I.ok.hd hc) it a nai its.toArray) he ⟨hit, p⟩ fun h' eb => ⟨rfl, I.turned (t' := s.toks) (fun b o hb q => eb b o hb q) f0 f1 f3 f4 f5⟩
  self := fun A i s Q E st h => let ⟨⟨_, he⟩, _⟩ := st; wpAny_pyIter_enum he h

def iEnumT (K : PySem.W.Frag) (ta : TA) : TI := fun σ H R => ta σ H fun vs H1 => ∃ a xs, vs = [.ref a] ∧ SqT K H1 a xs ∧ R (IteT K a) H1
/-- for i, x in enumerate(t), t a tuple -/
theorem pi_enumT {X : Cx} {e : Expr} {ta : TA} {p pos tpos : Pos} {elts : List Expr} {kk : Nat} (hg : Gl X "enumerate") (hm : X.mg "enumerate" = none) (ha : PA X [e] ta) (hs : starEach [e] X.env = [(false, eval e X.env)] := by rfl) :
    PI X (.Tuple elts kk tpos) (.Call (.Name "enumerate" p) [e] [] pos) (iEnumT X.K ta) := by
  refine ⟨fun pins s σ H R I h => Call_ (ld_blt I hg hm boot_enumerate (PyProof.Rows.callWith_type1 (thn (ha.run pos pins s σ H _ I h) fun us s1 hh => ?_) hs rfl))⟩
  obtain ⟨vs, H1, I1, r1, a, xs, rfl, hq, q⟩ := hh
  cases r1 with
  | cons r rr =>
    cases rr
    cases r
    obtain ⟨its, rv, pt, hz⟩ := I1.tuple hq
    refine enumT_call pt fun h' he hit hsz hk => wpAny_pyIter_enum he ?_
    refine ⟨s1.heap.objs.size + 1, [s1.heap.objs.size + 1, s1.heap.objs.size], _, _, H1, rfl, I1.kept (t' := s1.toks) hk, turn_enumT a (s1.heap.objs.size + 1) s1.heap.objs.size, ⟨⟨.none, he⟩, hit, Nat.succ_ne_self _⟩, fun b hb => ?_, q⟩
    have hle : s1.heap.objs.size ≤ b := by
      rcases List.mem_cons.mp hb with z | z
      · rw [z]; exact Nat.le_add_right _ _
      · rw [List.mem_singleton.mp z]; exact Nat.le_refl _
    exact I1.fpOk hle (I1.hok.fresh hle)
theorem walk_enumT {K : PySem.W.Frag} {a : Addr} {xs : List V} : Walk (IteT K a) xs.length (fun H => SqT K H a xs) (YPair (fun i => some (.int (i : Nat))) (fun i => xs[i]?)) := by
  refine ⟨fun i _ hi q => ⟨xs, xs[i], q, by simp [hi]⟩, fun _ q => ⟨xs, q, rfl⟩, fun i H v H' _ q y => ?_⟩
  obtain ⟨T, x, h1, h2, h3, h4⟩ := y
  exact ⟨T, .int (i : Nat), x, h1, h2, h3, rfl, h4 xs q⟩
section
variable {K : PySem.W.Frag} {σ : L2.St} {H : Hp} {t : TT} {te : TE}
/-- [e for x in t], t a tuple -/
theorem el_lcT {a : Addr} {xs : List V} {tl : TE} {j : Nat} {vs : List Nat} (f : Nat → Bool) (v : Nat → V) (h : Ev tl σ H (.ref a)) (hx : SqT K H a xs) (hz : xs.length ≤ 40000) (hw : ∀ x, wipe ((wipe σ vs).set j (some x)) vs = wipe σ vs)
    (ht : ∀ (i : Nat) (x : V) H1, Ex H H1 → xs[i]? = some x → EvT t ((wipe σ vs).set j (some x)) H1 (f i)) (he : ∀ (i : Nat) (x : V) H1, Ex H H1 → xs[i]? = some x → f i = true → Ev te ((wipe σ vs).set j (some x)) H1 (v i)) :
    EvL (tLc (iTup K tl) (gName j) t te vs) σ H (given xs.length f v) := fun H0 e Q q => h H0 e _ fun H1 e1 => ⟨a, rfl, ⟨xs, ex_t (e.trans e1) hx⟩, fun Dl hD =>
  lc_it (walk_tup (K := K) (a := a) (xs := xs)) (Cw H1 f v Dl) ⟨hD, Ex.new hD, upd_same⟩ (fun i H' _ p => ex_t ((e.trans e1).trans p.2.1) hx)
    (fun i x H' H2 hi p y => by
      obtain ⟨rfl, hxi⟩ := y
      exact ⟨hw x, cw_turn p (by omega) (ht i x H1 (e.trans e1) hxi) (fun hf => he i x H1 (e.trans e1) hxi hf)⟩)
    (fun H' p => q Dl H' (fresh_back e1 p.1) (e1.trans p.2.1) p.2.2)⟩
theorem given_all (n : Nat) (v : Nat → V) : given n (fun _ => true) v = (List.range n).map v := by
  unfold given
  rw [List.filter_eq_self.mpr (fun _ _ => rfl)]
theorem et_yes : EvT tYes σ H true := fun H1 _ _ q => q H1 (Ex.refl H1)
/-- all([..]) of flags -/
theorem ev_allL {bs : List Bool} {ta : TE} (h : EvL ta σ H (bs.map V.bl)) : Ev (tCB (rAll K) (tCons ta tNil)) σ H (.bl (bs.all id)) := fun H1 e Q q =>
  h H1 e _ fun p H2 _ e2 hp => ⟨p, bs, rfl, sq_of hp, q H2 e2⟩
/-- all([test(x) for x in t]) -/
theorem ev_allT {a : Addr} {xs : List V} {tl : TE} {j : Nat} {vs : List Nat} (g : Nat → Bool) (h : Ev tl σ H (.ref a)) (hx : SqT K H a xs) (hz : xs.length ≤ 40000) (hw : ∀ x, wipe ((wipe σ vs).set j (some x)) vs = wipe σ vs)
    (he : ∀ (i : Nat) (x : V) H1, Ex H H1 → xs[i]? = some x → Ev te ((wipe σ vs).set j (some x)) H1 (.bl (g i))) :
    Ev (tCB (rAll K) (tCons (tLc (iTup K tl) (gName j) tYes te vs) tNil)) σ H (.bl (((List.range xs.length).map g).all id)) :=
  ev_allL (by
    have q := el_lcT (K := K) (te := te) (fun _ => true) (fun i => .bl (g i)) h hx hz hw (fun _ _ _ _ _ => et_yes) fun i x H1 e hxi _ => he i x H1 e hxi
    rw [given_all] at q
    rw [List.map_map]
    exact q)
end
section
variable {K : PySem.W.Frag} {σ : L2.St} {H : Hp} {ta tb te : TE}
theorem ev_lenT {p : Addr} {xs : List V} (ha : Ev ta σ H (.ref p)) (h : SqT K H p xs) : Ev (tCB (rLenS K) (tCons ta tNil)) σ H (.int (xs.length : Int)) := fun H1 e Q q =>
  ha H1 e _ fun H2 e2 => ⟨p, xs, rfl, Or.inr (ex_t (e.trans e2) h), q H2 e2⟩
theorem all_get {α : Type} (ds : List α) (p : α → Bool) : ((List.range ds.length).map (fun i => ((ds[i]?).map p).getD false)).all id = ds.all p := by
  have e : (List.range ds.length).map (fun i => ((ds[i]?).map p).getD false) = ds.map p := by
    apply List.ext_getElem
    · simp
    · intro i h1 h2
      have hi : i < ds.length := by simpa using h1
      simp [hi]
  rw [e, List.all_map]
  rfl
end
section
variable {K : PySem.W.Frag} {σ : L2.St} {H : Hp} {g : TG} {tu tz : TS} {D : Ends}
/-- for i, x in enumerate(t) -/
theorem s_forEn {a : Addr} {xs : List V} {tl : TE} (h : Ev tl σ H (.ref a)) (hx : SqT K H a xs) (Pv : Nat → L2.St → Hp → Prop) (h0 : ∀ H1, Ex H H1 → Pv 0 σ H1) (hl : ∀ i σ' H', i ≤ xs.length → Pv i σ' H' → SqT K H' a xs)
    (hs : ∀ i y T σ' H', xs[i]? = some y → Pv i σ' H' → H' T = none → g (.ref T) σ' (upd H' T (.tup [.int (i : Nat), y])) fun σ2 H2 => tu { D with nx := Pv (i + 1), ct := Pv (i + 1), bk := D.nx } σ2 H2) (hd : ∀ σ' H', Pv xs.length σ' H' → D.nx σ' H') : tFor (iEnumT K (tCons tl tNil)) g tu D σ H :=
  h H (Ex.refl H) _ fun H1 e => ⟨a, xs, rfl, ex_t e hx, for_it (walk_enumT (K := K) (a := a) (xs := xs)) Pv (h0 H1 e) hl (fun i x σ' H2 H3 hi p y => by
    obtain ⟨T, u, y, rfl, hT, rfl, hu, hy⟩ := y
    cases hu
    exact hs i y T σ' H2 hy p hT) hd⟩
theorem q_forEn {a : Addr} {xs : List V} {tl : TE} (h : Ev tl σ H (.ref a)) (hx : SqT K H a xs) (Pv : Nat → L2.St → Hp → Prop) (h0 : ∀ H1, Ex H H1 → Pv 0 σ H1) (hl : ∀ i σ' H', i ≤ xs.length → Pv i σ' H' → SqT K H' a xs)
    (hs : ∀ i y T σ' H', xs[i]? = some y → Pv i σ' H' → H' T = none → g (.ref T) σ' (upd H' T (.tup [.int (i : Nat), y])) fun σ2 H2 => tu { D with nx := Pv (i + 1), ct := Pv (i + 1), bk := tz D } σ2 H2) (hd : ∀ σ' H', Pv xs.length σ' H' → tz D σ' H') : tSeq (tFor (iEnumT K (tCons tl tNil)) g tu) tz D σ H :=
  s_forEn (D := { D with nx := tz D }) h hx Pv h0 hl hs hd
end
end Wk

set_option Elab.async false
set_option linter.all false
set_option maxRecDepth 100000
set_option maxHeartbeats 2000000
namespace Wk
open PySem PySem.Spec PyProof.Rows L2 Evl
def top (i : Nat) : Stmt := PySem.Challenge.pw_wishreels_k06_spoiled_outcome_trees.main.body.getD i (.Pass ⟨0, 0, 0, 0⟩)
abbrev FnP (K : PySem.W.Frag) (x : Str) (st : Stmt) (f : Addr) (fd : FuncData) : Prop := FunD K x x (defArgs st) (defBody st) (defScope st) [] [] f fd
/-- names that are the built-in ones -/
structure Bl (mg : Str → Option Value) : Prop where
  isi : mg "isinstance" = none
  len : mg "len" = none
  tuple : mg "tuple" = none
  list : mg "list" = none
  int : mg "int" = none
  bool : mg "bool" = none
  str : mg "str" = none
  all : mg "all" = none
  set : mg "set" = none
  enum : mg "enumerate" = none
  range : mg "range" = none
  abs : mg "abs" = none
  min : mg "min" = none
  repr : mg "repr" = none
/-- a pure promise: a plain value, what stood stays -/
def spP (R : Hp → List V → V → Prop) : Sp := fun vs H Q _ => ∃ z, R H vs z ∧ ∀ H', Ex H H' → Q z H'
theorem spP_v {R : Hp → List V → V → Prop} {vs : List V} {H : Hp} {z : V} (h : ∀ H1, Ex H H1 → R H1 vs z) : SpV (spP R) vs H z := fun H1 e Q q E => ⟨z, h H1 e, fun H2 e2 => q H2 e2⟩
def isI : PyData → Bool
  | .int _ => true
  | _ => false
/-- what a datum is worth as an int -/
def valI : PyData → Int
  | .int i => i
  | _ => 0
theorem isI_eq {d : PyData} (h : isI d = true) : d = .int (valI d) := by
  cases d <;> first | rfl | (simp [isI] at h)
theorem kit_int (d : PyData) : ∃ b, kitB (tyN d) "int" = some b ∧ (b = true → ∃ c, kitB (tyN d) "bool" = some c ∧ (b && !c) = isI d) ∧ (b = false → isI d = false) := by
  cases d with
  | none => exact ⟨false, show kitB "NoneType" "int" = some false by decide +kernel, fun h => (by cases h), fun _ => rfl⟩
  | bool b => exact ⟨true, show kitB "bool" "int" = some true by decide +kernel, fun _ => ⟨true, show kitB "bool" "bool" = some true by decide +kernel, rfl⟩, fun h => (by cases h)⟩
  | int i => exact ⟨true, show kitB "int" "int" = some true by decide +kernel, fun _ => ⟨false, show kitB "int" "bool" = some false by decide +kernel, rfl⟩, fun h => (by cases h)⟩
  | str z => exact ⟨false, show kitB "str" "int" = some false by decide +kernel, fun h => (by cases h), fun _ => rfl⟩
  | list ds => exact ⟨false, show kitB "list" "int" = some false by decide +kernel, fun h => (by cases h), fun _ => rfl⟩
  | tuple ds => exact ⟨false, show kitB "tuple" "int" = some false by decide +kernel, fun h => (by cases h), fun _ => rfl⟩
  | dict ds => exact ⟨false, show kitB "dict" "int" = some false by decide +kernel, fun h => (by cases h), fun _ => rfl⟩
def isTu : PyData → Bool
  | .tuple _ => true
  | _ => false
def itemsT : PyData → List PyData
  | .tuple ds => ds
  | _ => []
theorem kit_tup (d : PyData) : kitB (tyN d) "tuple" = some (isTu d) := by
  cases d with
  | none => exact show kitB "NoneType" "tuple" = some false by decide +kernel
  | bool b => exact show kitB "bool" "tuple" = some false by decide +kernel
  | int i => exact show kitB "int" "tuple" = some false by decide +kernel
  | str z => exact show kitB "str" "tuple" = some false by decide +kernel
  | list ds => exact show kitB "list" "tuple" = some false by decide +kernel
  | tuple ds => exact show kitB "tuple" "tuple" = some true by decide +kernel
  | dict ds => exact show kitB "dict" "tuple" = some false by decide +kernel
def isR (n : Int) (d : PyData) : Bool := isI d && (decide (0 ≤ valI d) && decide (valI d ≤ n - 1))
/-- a way of router r through routers below n -/
def wayB (n r : Int) (d : PyData) : Bool := isTu d && (decide (2 ≤ (itemsT d).length) && decide ((itemsT d).length ≤ 8)) && ((itemsT d).all (isR n) && (decide (((itemsT d).map valI)[0]? = some r) && (decide (((itemsT d).map valI).getLast? = some 0) && decide ((itemsT d).map valI).Nodup)))
section
variable {P : Program} {w : World} {K : PySem.W.Frag} {mg : Str → Option Value} {base : Heap} {f : Addr} {fd : FuncData}
/-! is_integer, _law_is_int -/
abbrev spIsInt : Sp := spP fun H vs z => ∃ v d, vs = [v] ∧ Dq H v d ∧ z = .bl (isI d)
abbrev sIsInt : Stmt := top 7
theorem scIsInt : FnScope ["thing"] ["thing"] (defScope sIsInt) := ⟨rfl, rfl, rfl, by decide +kernel, rfl, by decide +kernel, by decide +kernel⟩
theorem ok_isInt (B : Bl mg) (F : FnP K "is_integer" sIsInt f fd) : FnOk P w K mg base CX0 1 f fd ["thing"] spIsInt := by
  refine F.ok scIsInt (fun vs H Q E h => ?_) (fun cdv A outer s H vs Q E hr h => ?_)
  · obtain ⟨z, ⟨v, d, rfl, _⟩, _⟩ := h
    rfl
  · obtain ⟨z, ⟨v, d, rfl, hd, rfl⟩, k⟩ := h
    refine ⟨_, pss_one (ps_ret (pe_and (pe_callB call_isi (by rfl) B.isi boot_isinstance (pa_cons (pv 0) (pa_cons (pe_bltn (v := .ty "int") (by rfl) B.int PyProof.Rows.boot_int rfl) pa_nil)))
      (pe_one (pe_not (pe_callB call_isi (by rfl) B.isi boot_isinstance (pa_cons (pv 0) (pa_cons (pe_bltn (v := .ty "bool") (by rfl) B.bool PyProof.Rows.boot_bool rfl) pa_nil))))))), ?_⟩
    obtain ⟨b, hb, h1, h2⟩ := kit_int d
    have v0 : Ev (tVar 0) (start ["thing"] [v]) H v := ev_var rfl
    cases b with
    | true =>
      obtain ⟨c, hc, e⟩ := h1 rfl
      rw [← e] at k
      exact s_ret (ev_andV (ev_isi v0 hd hb) fun _ => ev_notV (ev_isi v0 hd hc)) k
    | false =>
      rw [h2 rfl] at k
      exact s_ret (ev_andV (b := false) (ev_isi v0 hd hb) fun z => (by cases z)) k

/-! is_between, is_router -/
abbrev spBetween : Sp := spP fun H vs z => ∃ (a b : Int) (v : V) (d : PyData), vs = [.int a, .int b, v] ∧ Dq H v d ∧ z = .bl (isI d && (decide (a ≤ valI d) && decide (valI d ≤ b)))
abbrev sBetween : Stmt := top 8
theorem scBetween : FnScope ["least", "most", "thing"] ["least", "most", "thing"] (defScope sBetween) := ⟨rfl, rfl, rfl, by decide +kernel, rfl, by decide +kernel, by decide +kernel⟩
theorem ok_between (B : Bl mg) (C : Cal P w K mg base "is_integer" ["thing"] 1 spIsInt) (F : FnP K "is_between" sBetween f fd) : FnOk P w K mg base CX0 2 f fd ["least", "most", "thing"] spBetween := by
  refine F.ok scBetween (fun vs H Q E h => ?_) (fun cdv A outer s H vs Q E hr h => ?_)
  · obtain ⟨z, ⟨a, b, v, d, rfl, _⟩, _⟩ := h
    rfl
  · obtain ⟨z, ⟨a, b, v, d, rfl, hd, rfl⟩, k⟩ := h
    refine ⟨_, pss_one (ps_ret (pe_and (pe_cal C hr (by rfl) (pa_cons (pv 2) pa_nil)) (pe_one (pe_chain op_le op_le (pv 0) (pv 2) (pv 1))))), ?_⟩
    have v0 : Ev (tVar 0) (start ["least", "most", "thing"] [.int a, .int b, v]) H (.int a) := ev_var rfl
    have v1 : Ev (tVar 1) (start ["least", "most", "thing"] [.int a, .int b, v]) H (.int b) := ev_var rfl
    have v2 : Ev (tVar 2) (start ["least", "most", "thing"] [.int a, .int b, v]) H v := ev_var rfl
    refine s_ret (ev_andV (a := isI d) (ev_call (ea_cons v2 ea_nil) (spP_v fun H1 e => ⟨v, d, rfl, hd.mono e, rfl⟩)) fun hi => ?_) k
    rw [isI_eq hi] at hd
    cases hd
    exact ev_chain v0 v2 v1 rv_I0 rv_I0
abbrev spRouter : Sp := spP fun H vs z => ∃ (n : Int) (v : V) (d : PyData), vs = [.int n, v] ∧ Dq H v d ∧ z = .bl (isR n d)
abbrev sRouter : Stmt := top 10
theorem scRouter : FnScope ["size", "thing"] ["size", "thing"] (defScope sRouter) := ⟨rfl, rfl, rfl, by decide +kernel, rfl, by decide +kernel, by decide +kernel⟩
theorem ok_router (C : Cal P w K mg base "is_between" ["least", "most", "thing"] 2 spBetween) (F : FnP K "is_router" sRouter f fd) : FnOk P w K mg base CX0 3 f fd ["size", "thing"] spRouter := by
  refine F.ok scRouter (fun vs H Q E h => ?_) (fun cdv A outer s H vs Q E hr h => ?_)
  · obtain ⟨z, ⟨n, v, d, rfl, _⟩, _⟩ := h
    rfl
  · obtain ⟨z, ⟨n, v, d, rfl, hd, rfl⟩, k⟩ := h
    refine ⟨_, pss_one (ps_ret (pe_cal C hr (by rfl) (pa_cons pe_int (pa_cons (pe_op op_sub (pv 0) pe_int) (pa_cons (pv 1) pa_nil))))), ?_⟩
    exact s_ret (ev_call (ea_cons ev_c (ea_cons (ev_op (ev_var rfl) ev_c rv_I0) (ea_cons (ev_var rfl) ea_nil))) (spP_v fun H1 e => ⟨0, n - 1, v, d, rfl, hd.mono e, rfl⟩)) k
/-! is_way -/
abbrev spWay : Sp := spP fun H vs z => ∃ (n r : Int) (v : V) (d : PyData), vs = [.int n, .int r, v] ∧ Dq H v d ∧ z = .bl (wayB n r d)
abbrev sWay : Stmt := top 13
theorem scWay : FnScope ["size", "router", "thing", "item"] ["size", "router", "thing"] (defScope sWay) := ⟨rfl, rfl, rfl, by decide +kernel, rfl, by decide +kernel, by decide +kernel⟩
end
end Wk

set_option Elab.async false
set_option linter.all false
set_option maxRecDepth 100000
set_option maxHeartbeats 2000000
namespace Wk
open PySem PySem.Spec PyProof.Rows L2 Evl
theorem ints_of {n : Int} : ∀ {ds : List PyData}, ds.all (isR n) = true → ds = (ds.map valI).map PyData.int
  | [], _ => rfl
  | d :: ds, h => by
    have h' : isR n d = true ∧ ds.all (isR n) = true := by simpa using h
    have h1 : isI d = true := (Bool.and_eq_true_iff.mp h'.1).1
    show d :: ds = .int (valI d) :: (ds.map valI).map PyData.int
    rw [← ints_of h'.2, ← isI_eq h1]
section
variable {K : PySem.W.Frag} {σ : L2.St} {H : Hp} {ta tb te : TE}
theorem ev_lenSU {l : Addr} {ns : List Int} (ha : Ev ta σ H (.ref l)) (h : SqT K H l (ns.map V.int)) (hl : ns.length < 64) (hb : Ev tb σ H (.int (ns.length : Int))) :
    Ev (tOp rEq (tLenSU K ta) tb) σ H (.bl (decide ns.Nodup)) := fun H1 e Q q =>
  ha H1 e _ fun H2 e2 => ⟨l, ns, rfl, ex_t (e.trans e2) h, hl, fun m hm => hb H2 (e.trans e2) _ fun H3 e3 => ⟨rfl, by
    have ed : decide (V.int (m : Int) = V.int (ns.length : Int)) = decide ns.Nodup := by
      rw [decide_eq_decide]
      constructor
      · intro z
        injection z with z
        exact hm.mp (by omega)
      · intro z
        rw [hm.mpr z]
    rw [ed]
    exact q H3 (e2.trans e3)⟩⟩
theorem ev_lenSUU {l : Addr} {ks : List (Addr × List Int)} (ha : Ev ta σ H (.ref l)) (h : SqT K H l (ks.map fun p => V.ref p.1)) (hk : ∀ p ∈ ks, SqT K H p.1 (p.2.map V.int)) (hl : ks.length < 64) (hb : Ev tb σ H (.int (ks.length : Int))) :
    Ev (tOp rEq (tLenSUU K ta) tb) σ H (.bl (decide (ks.map (·.2)).Nodup)) := fun H1 e Q q =>
  ha H1 e _ fun H2 e2 => ⟨l, ks, rfl, ex_t (e.trans e2) h, fun p hp => ex_t (e.trans e2) (hk p hp), hl, fun m hm => hb H2 (e.trans e2) _ fun H3 e3 => ⟨rfl, by
    have ed : decide (V.int (m : Int) = V.int (ks.length : Int)) = decide (ks.map (·.2)).Nodup := by
      rw [decide_eq_decide]
      constructor
      · intro z
        injection z with z
        exact hm.mp (by omega)
      · intro z
        rw [hm.mpr z]
    rw [ed]
    exact q H3 (e2.trans e3)⟩⟩
end
theorem getLast_atI {α : Type} {xs : List α} {x : α} (h : xs.getLast? = some x) : atI xs (-1) = some x := by
  obtain ⟨ys, rfl⟩ : ∃ ys, xs = ys ++ [x] := by
    cases xs with
    | nil => cases h
    | cons y l =>
      refine ⟨(y :: l).dropLast, ?_⟩
      have := List.dropLast_concat_getLast (l := y :: l) (by simp)
      rw [List.getLast?_eq_some_getLast (by simp)] at h
      cases h
      exact this.symm
  exact atI_last ys x
section
variable {P : Program} {w : World} {K : PySem.W.Frag} {mg : Str → Option Value} {base : Heap} {f : Addr} {fd : FuncData}
theorem ok_way (B : Bl mg) {t8 : Tok} (m8 : mg "MOST_ROUTERS" = some (.int 8 t8)) (C : Cal P w K mg base "is_router" ["size", "thing"] 3 spRouter) (F : FnP K "is_way" sWay f fd) : FnOk P w K mg base CX0 5 f fd ["size", "router", "thing"] spWay := by
  refine F.ok scWay (fun vs H Q E h => ?_) (fun cdv A outer s H vs Q E hr h => ?_)
  · obtain ⟨z, ⟨n, r, v, d, rfl, _⟩, _⟩ := h
    rfl
  · obtain ⟨z, ⟨n, r, v, d, rfl, hd, rfl⟩, k⟩ := h
    refine ⟨_, pss_cons (ps_if (PW.pt (pw_or (pt_not (pt_val (pe_callB call_isi (by rfl) B.isi boot_isinstance (pa_cons (pv 2) (pa_cons (pe_bltn (v := .ty "tuple") (by rfl) B.tuple PyProof.Rows.boot_tuple rfl) pa_nil)))))
        (pw_or1 (pt_not (pt_chain op_le op_le pe_int (pe_callB call_len_seq (by rfl) B.len PySem.boot_len (pa_cons (pv 2) pa_nil)) (pe_glob (v := .int 8) (by rfl) m8 ⟨_, rfl⟩)))))) (pss_one (ps_ret pe_bl)) pss_nil)
      (pss_cons (ps_if (pt_not (pt_val (pe_callB (cr_all rfl) (by rfl) B.all boot_all (pa_cons (pe_lc (own := [("item", 3)]) (g := gName 3) (tt := tYes) rfl scWay.nd (pi_tup (pv 2)) (blkOk_by (N := ["size", "router", "thing", "item"]) (sc := defScope sWay) (by decide +kernel))
          (fun _ _ _ _ _ => pg_name (i := 3) scWay.nd rfl (Or.inl rfl)) (fun _ _ _ _ _ => pts_nil) (fun _ _ _ _ _ => pe_cal C hr (by rfl) (pa_cons (pv 0) (pa_cons (pv 3) pa_nil)))) pa_nil)))) (pss_one (ps_ret pe_bl)) pss_nil)
      (pss_one (ps_ret (pe_and (pe_cmpR op_eq (pe_ix ix_tup (pv 2) pe_int (fun _ _ => rfl)) (pv 1) (nomark _)) (pe_and (pe_cmpR op_eq (pe_ix ix_tup (pv 2) (pe_un un_neg pe_int) (fun _ _ => rfl)) pe_int (nomark _))
        (pe_one (pe_cmpR op_eq (pe_lenSU rfl (by rfl) B.len (by rfl) B.set (pv 2)) (pe_callB call_len_seq (by rfl) B.len PySem.boot_len (pa_cons (pv 2) pa_nil)) (nomark _)))))))), ?_⟩
    have v0 : ∀ {o : Option V} {H1 : Hp}, Ev (tVar 0) [some (.int n), some (.int r), some v, o] H1 (.int n) := ev_var rfl
    have v1 : ∀ {H1 : Hp}, Ev (tVar 1) (start ["size", "router", "thing", "item"] [.int n, .int r, v]) H1 (.int r) := ev_var rfl
    have v2 : ∀ {H1 : Hp}, Ev (tVar 2) (start ["size", "router", "thing", "item"] [.int n, .int r, v]) H1 v := ev_var rfl
    have hlen : ∀ {H1 : Hp}, Ex H H1 → isTu d = true → Ev (tCB (rLenS K) (tCons (tVar 2) tNil)) (start ["size", "router", "thing", "item"] [.int n, .int r, v]) H1 (.int ((itemsT d).length : Int)) := fun {H1} e ht => by
      cases hd <;> first | (simp [isTu] at ht; done) | skip
      rename_i a xs ds h1 h2
      rw [show (itemsT (.tuple ds)).length = xs.length from h2.length.symm]
      exact ev_lenT v2 (st_of (e _ _ h1))
    refine q_when (b := !isTu d || !(decide (2 ≤ ((itemsT d).length : Int)) && decide (((itemsT d).length : Int) ≤ 8))) (et_or (et_not (et_B (ev_isi v2 hd (kit_tup d)))) fun ht => et_not (et_test (ev_chain ev_c (hlen (Ex.refl H) (by simpa using ht)) ev_c rv_I0 rv_I0)))
      (fun hb H1 e => s_ret ev_c fun H2 e2 => ?_) (fun hb H1 e => ?_)
    · have ez : wayB n r d = false := by
        unfold wayB
        cases ht : isTu d
        · simp
        · simp [ht] at hb
          have : (decide (2 ≤ (itemsT d).length) && decide ((itemsT d).length ≤ 8)) = false := by simp; omega
          rw [this]
          simp
      rw [ez] at k
      exact k _ (e.trans e2)
    · have ht : isTu d = true := by simp at hb; exact hb.1
      have hl : 2 ≤ (itemsT d).length ∧ (itemsT d).length ≤ 8 := by simp [ht] at hb; omega
      have hd1 := hd.mono e
      clear hd
      cases hd1 <;> first | (simp [isTu] at ht; done) | skip
      rename_i a xs ds h1 h2
      have hxl := h2.length
      have hl' : 2 ≤ ds.length ∧ ds.length ≤ 8 := hl
      refine q_when (b := !ds.all (isR n)) (et_not (et_B ?_)) (fun hb H2 e2 => s_ret ev_c fun H3 e3 => ?_) (fun hb H2 e2 => ?_)
      · have q := ev_allT (K := K) (H := H1) (j := 3) (vs := [3]) (σ := start ["size", "router", "thing", "item"] [.int n, .int r, .ref a]) (te := tCall spRouter [] E0 (tCons (tVar 0) (tCons (tVar 3) tNil))) (fun i => ((ds[i]?).map (isR n)).getD false) v2 (st_of h1) (by omega) (fun x => rfl)
          (fun i x H2 e2 hx => by
            obtain ⟨dx, e3, e4⟩ := h2.get hx
            rw [e3]
            exact ev_call (ea_cons (ev_var rfl) (ea_cons (ev_var rfl) ea_nil)) (spP_v fun H3 e5 => ⟨n, x, dx, rfl, (e4.mono e2).mono e5, rfl⟩))
        rw [hxl, all_get] at q
        exact q
      · have ez : wayB n r (.tuple ds) = false := by
          have hb' : ds.all (isR n) = false := by simpa using hb
          unfold wayB
          show (true && _ && (ds.all (isR n) && _)) = false
          rw [hb']
          simp
        rw [ez] at k
        exact k _ ((e.trans e2).trans e3)
      · have hall : ds.all (isR n) = true := by simpa using hb
        have eds := ints_of hall
        have exs : xs = (ds.map valI).map V.int := by rw [eds] at h2; exact h2.int_inv
        generalize hns : ds.map valI = ns at *
        have hnl : ns.length = ds.length := by rw [← hns, List.length_map]
        subst exs
        have h1' := e2 _ _ h1
        have ez : wayB n r (.tuple ds) = (decide (V.int (ns.getD 0 0) = V.int r) && (decide (V.int (ns.getLast?.getD 0) = V.int 0) && decide ns.Nodup)) := by
          unfold wayB
          show (true && (decide (2 ≤ ds.length) && decide (ds.length ≤ 8)) && (ds.all (isR n) && (decide ((ds.map valI)[0]? = some r) && (decide ((ds.map valI).getLast? = some 0) && decide (ds.map valI).Nodup)))) = _
          rw [hall, hns, decide_eq_true hl'.1, decide_eq_true hl'.2]
          cases ns with
          | nil => simp at hnl; omega
          | cons x l =>
            simp only [Bool.true_and, Bool.and_true, List.getElem?_cons_zero, List.getD_cons_zero, V.int.injEq, Option.some.injEq]
            rw [List.getLast?_eq_some_getLast (by simp)]
            simp
        rw [ez] at k
        have hg : ∃ z, ns.getLast? = some z := by
          cases ns with
          | nil => simp at hnl; omega
          | cons x l => exact ⟨_, List.getLast?_eq_some_getLast (by simp)⟩
        obtain ⟨z, hz⟩ := hg
        rw [hz] at k
        refine s_ret (ev_andV (ev_op (ev_op v2 ev_c (rv_ixT (st_of h1') (v := .int (ns.getD 0 0)) ?_)) v1 (rv_eq rfl)) fun _ => ev_andV (ev_op (ev_op v2 (ev_un ev_c ru_neg) (rv_ixT (st_of h1') (v := .int z) ?_)) ev_c (rv_eq rfl)) fun _ => ev_lenSU v2 (st_of h1') (by omega) ?_) fun H3 e3 => k _ ((e.trans e2).trans e3)
        · cases ns with
          | nil => simp at hnl; omega
          | cons x l => exact atI_nat (j := 0) (by simp)
        · exact getLast_atI (by rw [List.getLast?_map, hz]; rfl)
        · have q := ev_lenT (K := K) (ta := tVar 2) (σ := start ["size", "router", "thing", "item"] [.int n, .int r, .ref a]) (H := H2) v2 (st_of h1')
          rw [List.length_map] at q
          exact q
end
end Wk

set_option Elab.async false
set_option linter.all false
set_option maxRecDepth 100000
set_option maxHeartbeats 2000000
namespace Wk
open PySem PySem.Spec PyProof.Rows L2 Evl
/-- the routers of a way -/
def rts (d : PyData) : List Int := (itemsT d).map valI
/-- the item of a router -/
def rowB (n r : Int) (d : PyData) : Bool := isTu d && decide ((itemsT d).length ≤ 6) && (if r = 0 then decide ((itemsT d).length = 0) else ((itemsT d).all (wayB n r) && decide ((itemsT d).map rts).Nodup))
theorem way_ints {n r : Int} {d : PyData} (h : wayB n r d = true) : d = .tuple ((rts d).map PyData.int) ∧ (itemsT d).all (isR n) = true ∧ 2 ≤ (rts d).length ∧ (rts d).length ≤ 8 ∧ (rts d)[0]? = some r ∧ (rts d).getLast? = some 0 ∧ (rts d).Nodup := by
  unfold wayB at h
  simp only [Bool.and_eq_true, decide_eq_true_eq] at h
  obtain ⟨⟨ht, h1, h2⟩, h3, h4, h5, h6⟩ := h
  cases d <;> first | (simp [isTu] at ht; done) | skip
  rename_i ds
  have e := ints_of (ds := ds) h3
  have el : (rts (.tuple ds)).length = ds.length := List.length_map ..
  exact ⟨congrArg PyData.tuple e, h3, by rw [el]; exact h1, by rw [el]; exact h2, h4, h5, h6⟩
theorem ways_keys {G : Hp} {n r : Int} : ∀ {ds : List PyData} {vs : List V}, DqA G vs ds → ds.all (wayB n r) = true → ∃ ks : List (Addr × List Int), vs = ks.map (fun p => V.ref p.1) ∧ (∀ p ∈ ks, G p.1 = some (.tup (p.2.map V.int))) ∧ ks.map (·.2) = ds.map rts
  | [], _, .nil, _ => ⟨[], rfl, fun p hp => (by cases hp), rfl⟩
  | d :: ds, _, .cons h t, c => by
    have c' : wayB n r d = true ∧ ds.all (wayB n r) = true := by simpa using c
    obtain ⟨ks, e1, e2, e3⟩ := ways_keys t c'.2
    have ed := (way_ints c'.1).1
    generalize rts d = ns at ed
    have er : rts d = ns := by
      rw [ed]
      simp [rts, itemsT, valI, Function.comp_def]
    subst ed
    cases h with
    | tup ha hx =>
      rename_i a xs
      have ex := hx.int_inv
      subst ex
      refine ⟨(a, ns) :: ks, by rw [e1]; rfl, fun p hp => ?_, by simp [e3, er]⟩
      rcases List.mem_cons.mp hp with z | z
      · rw [z]; exact ha
      · exact e2 p z
section
variable {P : Program} {w : World} {K : PySem.W.Frag} {mg : Str → Option Value} {base : Heap} {f : Addr} {fd : FuncData}
abbrev spRow : Sp := spP fun H vs z => ∃ (n r : Int) (v : V) (d : PyData), vs = [.int n, .int r, v] ∧ Dq H v d ∧ z = .bl (rowB n r d)
abbrev sRow : Stmt := top 31
theorem scRow : FnScope ["size", "router", "thing", "way"] ["size", "router", "thing"] (defScope sRow) := ⟨rfl, rfl, rfl, by decide +kernel, rfl, by decide +kernel, by decide +kernel⟩
theorem ok_row (B : Bl mg) {t6 : Tok} (hM : mg "MOST_WAYS" = some (.int 6 t6)) (C : Cal P w K mg base "is_way" ["size", "router", "thing"] 5 spWay) (F : FnP K "is_way_list" sRow f fd) : FnOk P w K mg base CX0 6 f fd ["size", "router", "thing"] spRow := by
  refine F.ok scRow (fun vs H Q E h => ?_) (fun cdv A outer s H vs Q E hr h => ?_)
  · obtain ⟨z, ⟨n, r, v, d, rfl, _⟩, _⟩ := h
    rfl
  · obtain ⟨z, ⟨n, r, v, d, rfl, hd, rfl⟩, k⟩ := h
    have hu : (A.deeper (envOfC "is_way_list" (defScope sRow) s.heap.objs.size f cdv)).units + 64 < cLine := by have := hr.un; omega
    refine ⟨_, pss_cons (ps_if (PW.pt (pw_or (pt_not (pt_val (pe_callB call_isi (by rfl) B.isi boot_isinstance (pa_cons (pv 2) (pa_cons (pe_bltn (v := .ty "tuple") (by rfl) B.tuple PyProof.Rows.boot_tuple rfl) pa_nil)))))
        (pw_or1 (pt_cmpR op_gt (pe_callB call_len_seq (by rfl) B.len PySem.boot_len (pa_cons (pv 2) pa_nil)) (pe_glob (v := .int 6) (by rfl) hM ⟨_, rfl⟩) (nomark _))))) (pss_one (ps_ret pe_bl)) pss_nil)
      (pss_cons (ps_if (pt_cmpR op_eq (pv 1) pe_int (nomark _)) (pss_one (ps_ret (pe_cmpR op_eq (pe_callB call_len_seq (by rfl) B.len PySem.boot_len (pa_cons (pv 2) pa_nil)) pe_int (nomark _)))) pss_nil)
      (pss_one (ps_ret (pe_and (pe_callB (cr_all rfl) (by rfl) B.all boot_all (pa_cons (pe_lc (own := [("way", 3)]) (g := gName 3) (tt := tYes) rfl scRow.nd (pi_tup (pv 2)) (blkOk_by (N := ["size", "router", "thing", "way"]) (sc := defScope sRow) (by decide +kernel))
          (fun _ _ _ _ _ => pg_name (i := 3) scRow.nd rfl (Or.inl rfl)) (fun _ _ _ _ _ => pts_nil) (fun _ _ _ _ _ => pe_cal C hr (by rfl) (pa_cons (pv 0) (pa_cons (pv 1) (pa_cons (pv 3) pa_nil))))) pa_nil))
        (pe_one (pe_cmpR op_eq (pe_lenSUU rfl hu (by rfl) B.len (by rfl) B.set (pv 2)) (pe_callB call_len_seq (by rfl) B.len PySem.boot_len (pa_cons (pv 2) pa_nil)) (nomark _))))))), ?_⟩
    have v1 : ∀ {H1 : Hp}, Ev (tVar 1) (start ["size", "router", "thing", "way"] [.int n, .int r, v]) H1 (.int r) := ev_var rfl
    have v2 : ∀ {H1 : Hp}, Ev (tVar 2) (start ["size", "router", "thing", "way"] [.int n, .int r, v]) H1 v := ev_var rfl
    have hlen : ∀ {H1 : Hp}, Ex H H1 → isTu d = true → Ev (tCB (rLenS K) (tCons (tVar 2) tNil)) (start ["size", "router", "thing", "way"] [.int n, .int r, v]) H1 (.int ((itemsT d).length : Int)) := fun {H1} e ht => by
      cases hd <;> first | (simp [isTu] at ht; done) | skip
      rename_i a xs ds h1 h2
      rw [show (itemsT (.tuple ds)).length = xs.length from h2.length.symm]
      exact ev_lenT v2 (st_of (e _ _ h1))
    refine q_when (b := !isTu d || decide (((itemsT d).length : Int) > 6)) (et_or (et_not (et_B (ev_isi v2 hd (kit_tup d)))) fun ht => et_test (ev_op (hlen (Ex.refl H) (by simpa using ht)) ev_c rv_I0))
      (fun hb H1 e => s_ret ev_c fun H2 e2 => ?_) (fun hb H1 e => ?_)
    · have ez : rowB n r d = false := by
        unfold rowB
        cases ht : isTu d
        · simp
        · simp [ht] at hb
          have : decide ((itemsT d).length ≤ 6) = false := by simp; omega
          rw [this]
          simp
      rw [ez] at k
      exact k _ (e.trans e2)
    · have ht : isTu d = true := by simp at hb; exact hb.1
      have hl : (itemsT d).length ≤ 6 := by simp [ht] at hb; omega
      have er : rowB n r d = (if r = 0 then decide ((itemsT d).length = 0) else ((itemsT d).all (wayB n r) && decide ((itemsT d).map rts).Nodup)) := by
        unfold rowB
        rw [ht, decide_eq_true hl]
        simp
      rw [er] at k
      refine q_when (b := decide (V.int r = V.int 0)) (et_test (ev_op v1 ev_c (rv_eq rfl))) (fun hb H2 e2 => ?_) (fun hb H2 e2 => ?_)
      · have hr0 : r = 0 := by have := of_decide_eq_true hb; injection this
        rw [if_pos hr0] at k
        have q : Ev (tOp rEq (tCB (rLenS K) (tCons (tVar 2) tNil)) (tC (.int 0))) (start ["size", "router", "thing", "way"] [.int n, .int r, v]) H2 (.bl (decide (V.int ((itemsT d).length : Int) = V.int 0))) := ev_op (hlen (e.trans e2) ht) ev_c (rv_eq rfl)
        have ed : decide (V.int ((itemsT d).length : Int) = V.int 0) = decide ((itemsT d).length = 0) := by
          rw [decide_eq_decide]
          constructor
          · intro z
            injection z with z
            omega
          · intro z
            rw [z]
            rfl
        rw [ed] at q
        exact s_ret q fun H3 e3 => k _ ((e.trans e2).trans e3)
      · have hr0 : ¬ r = 0 := fun z => by rw [z] at hb; simp at hb
        rw [if_neg hr0] at k
        have hd1 := hd.mono (e.trans e2)
        clear hd er hlen
        cases hd1 <;> first | (simp [isTu] at ht; done) | skip
        rename_i a xs ds h1 h2
        have hxl := h2.length
        have hl' : ds.length ≤ 6 := hl
        refine s_ret (ev_andV (a := ds.all (wayB n r)) ?_ fun hall => ?_) fun H3 e3 => k _ ((e.trans e2).trans e3)
        · have q := ev_allT (K := K) (H := H2) (j := 3) (vs := [3]) (σ := start ["size", "router", "thing", "way"] [.int n, .int r, .ref a]) (te := tCall spWay [] E0 (tCons (tVar 0) (tCons (tVar 1) (tCons (tVar 3) tNil)))) (fun i => ((ds[i]?).map (wayB n r)).getD false) v2 (st_of h1) (by omega) (fun x => rfl)
            (fun i x H3 e3 hx => by
              obtain ⟨dx, e5, e4⟩ := h2.get hx
              rw [e5]
              exact ev_call (ea_cons (ev_var rfl) (ea_cons (ev_var rfl) (ea_cons (ev_var rfl) ea_nil))) (spP_v fun H4 e6 => ⟨n, r, x, dx, rfl, (e4.mono e3).mono e6, rfl⟩))
          rw [hxl, all_get] at q
          exact q
        · obtain ⟨ks, ek1, ek2, ek3⟩ := ways_keys h2 hall
          have hkl : ks.length = xs.length := by rw [ek1, List.length_map]
          have q := ev_lenSUU (K := K) (σ := start ["size", "router", "thing", "way"] [.int n, .int r, .ref a]) (H := H2) (ta := tVar 2) (tb := tCB (rLenS K) (tCons (tVar 2) tNil)) (l := a) (ks := ks) v2 (st_of (by rw [← ek1]; exact h1)) (fun p hp => st_of (ek2 p hp)) (by omega) (by rw [hkl]; exact ev_lenT v2 (st_of h1))
          rw [ek3] at q
          exact q
end
end Wk

set_option Elab.async false
set_option linter.all false
set_option maxRecDepth 100000
set_option maxHeartbeats 4000000
namespace Wk
open PySem PySem.Spec PyProof.Rows L2 Evl
/-! an object made, a method called, where what is raised is wished for at the caller's slots -/
section
variable {X : Cx} {CX : CXT} {k : Nat} {f C : Addr} {fd : FuncData} {ps : List Str} {sp : Sp} {W : L2.St → XK} {x m : Str} {p pos apos : Pos} {e o : Expr} {es : List Expr} {ta : TE} {t : TA}
def tMkAt (C : Addr) (sp : Sp) (W : L2.St → XK) (t : TA) : TE := fun σ H Q => t σ H fun vs H1 => ∀ x dx, H1 x = none → H1 dx = none → dx ≠ x → sp (.ref x :: vs) (upd (upd H1 dx (.own x)) x (.ins C dx [])) (fun v H2 => v = .non ∧ Q (.ref x) H2) (W σ)
theorem pe_mkAt (M : Mk X.K C f) (Fn : FnOk X.prog X.w X.K X.mg X.base CX k f fd ps sp) (hr : Room (k + 1) X.A) (hg : Gl X x) (hm : X.mg x = some (.ref C)) (hb : Binds X.K fd ps []) (hx : ∀ σ, PassesAt CX X σ (W σ)) (ha : PA X (e :: es) t)
    (hdb : (x == ("__debug__" : Str)) = false := by decide) (he : starEach (e :: es) X.env = (false, eval e X.env) :: starEach es X.env := by rfl) (hpl : (backTo pos (starEach es X.env)).any (·.1) = false := by rfl) :
    PE X (.Call (.Name x p) (e :: es) [] pos) (tMkAt C sp W t) := by
  refine ⟨fun pins s σ H Q I h => wpAny_Call_Name_kw (ld_glob I hg hm (PySem.W.callWith_K (h₀ := X.base) I.ok.mod.kin M.kp (thn (ha.run pos pins s σ H _ I h) fun us s1 hh => ?_) he hpl) hdb)⟩
  obtain ⟨vs, H1, I1, r, q⟩ := hh
  refine ⟨I1.kIn, ?_⟩
  have hq := q (s1.heap.objs.size + 1) s1.heap.objs.size (I1.hok.fresh (Nat.le_succ _)) (I1.hok.fresh (Nat.le_refl _)) (Nat.ne_of_lt (Nat.lt_succ_self _))
  have J := Inv.made (C := C) I1
  have rr : Vals (V.ref (s1.heap.objs.size + 1) :: vs) (Value.ref (s1.heap.objs.size + 1) :: us) := .cons rfl r
  have hl : (Value.ref (s1.heap.objs.size + 1) :: us).length = ps.length := rr.length.symm.trans (Fn.len _ _ _ _ hq)
  have bd := hb _ (Value.ref (s1.heap.objs.size + 1) :: us) J.kIn (by rw [List.append_nil]; exact hl)
  rw [List.append_nil] at bd
  refine wpAny_call (make_map (f := f) I1.kIn M.makes M.init (beq_iff_eq.mp M.fn) (codeAny_mono (Fn.run _ X.stack _ _ ⟨_, []⟩ _ _ _ (W σ) (hr.make C us []) (J.env0.make C us []) bd rr hq) fun r s' out => ?_))
  cases r with
  | error er => exact hx σ pins _ _ er s' J out
  | ok fl =>
    cases fl with
    | ret u =>
      obtain ⟨v, H', I3, rv, ev, q3⟩ := J.after out
      subst ev
      exact ⟨rv, ⟨V.ref (s1.heap.objs.size + 1), H', I3, rfl, q3⟩⟩
    | next => exact False.elim out
    | brk => exact False.elim out
    | cont => exact False.elim out
def tMeAt (C : Addr) (m : Str) (sp : Sp) (W : L2.St → XK) (ta : TE) (t : TA) : TE := fun σ H Q => ta σ H fun x H1 => ∃ a dx fs, x = .ref a ∧ H1 a = some (.ins C dx fs) ∧ fs.lookup m = none ∧ t σ H1 fun vs H2 => sp (x :: vs) H2 Q (W σ)
theorem pe_meAt {pl : Sem Bool} (ho : PE X o ta) (c : Cls X.K C) (hm : Meth X.K C m f) (Fn : FnOk X.prog X.w X.K X.mg X.base CX k f fd ps sp) (hr : Room k X.A) (hb : Binds X.K fd ps []) (hx : ∀ σ, PassesAt CX X σ (W σ)) (ha : PA X (e :: es) t)
    (hst : starEach (e :: es) X.env = (false, eval e X.env) :: starEach es X.env := by rfl) (hpl : (backTo pos (starEach es X.env)).any (·.1) = false := by rfl)
    (ht : eval (.Call (.Attribute o m apos) (e :: es) [] pos) X.env = (do
      let ov ← eval o X.env
      standAt apos.atName
      let (f, first) ← holding [ov] (getMethod ov m pl)
      callWith pos f first (backTo pos (starEach (e :: es) X.env)) (backToKw pos (keywordEach [] X.env))) := by rfl) :
    PE X (.Call (.Attribute o m apos) (e :: es) [] pos) (tMeAt C m sp W ta t) := by
  refine ⟨fun pins s σ H Q I h => PySem.W.methodCall_KW (pl := pl) (thn (ho.run pins s σ H _ I h) fun u s1 hh => ?_) ht⟩
  obtain ⟨x, H1, I1, rx, a, dx, fs, ex, ea, l, q⟩ := hh
  subst ex
  obtain rfl : u = Value.ref a := rx
  refine getmeth_ok I1 ea c hm l (PySem.W.callWith_K (first := [.ref a]) (h₀ := X.base) I.ok.mod.kin hm.kp (thn (ha.run pos pins s1 σ H1 _ I1 q) fun us s2 hh => ?_) hst hpl)
  obtain ⟨vs, H2, I2, r, q2⟩ := hh
  exact ⟨I2.kIn, run_fnS (us := .ref a :: us) (vs := .ref a :: vs) Fn hr hb (hx σ) I2 (.cons rfl r) q2⟩
end
/-! an own error with one field -/
/-- __init__ of such an error: self.router = router -/
def spXI (C : Addr) : Sp := fun vs H Q _ => ∃ (a : Addr) (y : V), vs = [.ref a, y] ∧ H a = some (exo a C none) ∧ ∀ dx, H dx = none → dx ≠ a → Q .non (upd (upd H dx (exd dx [("router", y)])) a (exo a C (some dx)))
/-- X(e) is made: where the error's dict is -/
theorem mk_err {C : Addr} {te : TE} {σ : L2.St} {H : Hp} {y : V} {W : XK} (h : Ev te σ H y) (k : ∀ d H', H d = none → Ex H H' → H' d = some (.xd [("router", y)]) → W (.ref C) (some d) H') : tMkO C (spXI C) [] (tCons te tNil) σ H W := by
  refine h H (Ex.refl H) _ fun H1 e => ⟨by show 1 ≤ 1000; decide, fun a ha => ?_⟩
  refine ⟨a, y, rfl, upd_same, fun dx hd hne => ⟨rfl, dx, [("router", y)], upd_same, by rw [upd_ne hne, upd_same], ?_, ?_⟩⟩
  · rw [upd_ne hne] at hd
    exact hd
  · have hd1 : H1 dx = none := by rw [upd_ne hne] at hd; exact hd
    refine k dx _ (fresh_back e hd1) (fun b o hb => ?_) upd_same
    have hb1 := e b o hb
    have nb : b ≠ dx := ne_of_none hb1 hd1
    have na : b ≠ a := ne_of_none hb1 ha
    rw [upd_ne nb, del_ne na, upd_ne na, upd_ne nb, upd_ne na]
    exact hb1
/-! parts of tuples -/
section
variable {K : PySem.W.Frag} {σ : L2.St} {H : Hp} {ta tb te : TE}
/-- what stands in a tuple (an old one or a new one) -/
def EvS (te : TE) (σ : L2.St) (H : Hp) (xs : List V) : Prop := ∀ H1, Ex H H1 → ∀ Q : VK, (∀ p H2, Ex H1 H2 → H2 p = some (.tup xs) → Q (.ref p) H2) → te σ H1 Q
theorem es_sl {a : Addr} {xs : List V} {tl th : TO} {lo hi : Option Int} (h : Ev te σ H (.ref a)) (h1 : EvO tl σ H lo) (h2 : EvO th σ H hi) (hs : H a = some (.tup xs)) : EvS (tSl (rSlA K) te tl th) σ H (cutV xs lo hi) := fun H1 e Q q =>
  h H1 e _ fun H2 e2 => h1 H2 (e.trans e2) _ fun H3 e3 => h2 H3 ((e.trans e2).trans e3) _ fun H4 e4 => by
    have hs4 := (((e.trans e2).trans e3).trans e4) _ _ hs
    refine ⟨a, xs, rfl, st_of hs4, fun hw => ?_, fun hw p hp => q p _ (((e2.trans e3).trans e4).trans (Ex.new hp)) upd_same⟩
    have ec : cutV xs lo hi = xs := by
      unfold cutV
      rw [hw.1, hw.2]
      simp
    rw [ec] at q
    exact q a H4 ((e2.trans e3).trans e4) hs4
theorem es_cat {xs ys : List V} (ha : EvS ta σ H xs) (hb : EvS tb σ H ys) (hz : xs.length + ys.length ≤ 100000) : EvS (tOp (rCatA K) ta tb) σ H (xs ++ ys) := fun H1 e Q q =>
  ha H1 e _ fun p H2 e2 hp => hb H2 (e.trans e2) _ fun p' H3 e3 hp' => by
    have hp3 := e3 _ _ hp
    refine ⟨p, p', xs, ys, rfl, rfl, st_of hp3, st_of hp', sz_of hz, fun hx => ?_, fun _ hy => ?_, fun _ _ r hr => q r _ ((e2.trans e3).trans (Ex.new hr)) upd_same⟩
    · rw [hx] at q
      exact q p' H3 (e2.trans e3) hp'
    · rw [hy, List.append_nil] at q
      exact q p H3 (e2.trans e3) hp3
theorem es_tup {t : TA} {xs : List V} (h : EvA t σ H xs) (hz : xs.length ≤ 100000) : EvS (tTup t) σ H xs := fun H1 e Q q => eu_tup h hz H1 e Q fun p H2 _ e2 hp => q p H2 e2 hp
theorem es_var {a : Addr} {xs : List V} (h : Ev te σ H (.ref a)) (hs : H a = some (.tup xs)) : EvS te σ H xs := fun H1 e Q q => h H1 e _ fun H2 e2 => q a H2 e2 ((e.trans e2) _ _ hs)
theorem es_mono {xs : List V} {H' : Hp} (e : Ex H H') (h : EvS te σ H xs) : EvS te σ H' xs := fun H1 e1 Q q => h H1 (e.trans e1) Q q
end
/-! x in t, t a tuple of data -/
section
variable {X : Cx}
def rInU (K : PySem.W.Frag) : R2 := fun x y H Q => ∃ d ds, Dp K H x d ∧ Dp K H y (.tuple ds) ∧ SeqAt.shaped d = true ∧ PyData.canLayAll0 ds = true ∧ Q (.bl (ds.any fun z => PyData.eqv z d)) H
def rNotInU (K : PySem.W.Frag) : R2 := fun x y H Q => ∃ d ds, Dp K H x d ∧ Dp K H y (.tuple ds) ∧ SeqAt.shaped d = true ∧ PyData.canLayAll0 ds = true ∧ Q (.bl (!ds.any fun z => PyData.eqv z d)) H
theorem op_inU (hu : X.A.units + 66 < cLine) : OpR X (compareOp .In) (rInU X.K) := fun pins s σ H x y v u Q I rx ry h => by
  obtain ⟨d, ds, hd, he, sd, se, q⟩ := h
  obtain ⟨as, r1⟩ := Dp.reads I d x v hd rx
  obtain ⟨bs, r2⟩ := Dp.reads I (.tuple ds) y u he ry
  have hdp := SeqAt.depth_of_shaped sd
  exact SeqAt.in_tuple_reads r2 r1 se (SeqAt.canLay_of_shaped sd) (by have := Nat.min_le_right (PyData.depthAll ds) d.depth; omega) ⟨.bl _, H, I, rfl, q⟩
theorem op_notInU (hu : X.A.units + 66 < cLine) : OpR X (compareOp .NotIn) (rNotInU X.K) := fun pins s σ H x y v u Q I rx ry h => by
  obtain ⟨d, ds, hd, he, sd, se, q⟩ := h
  obtain ⟨as, r1⟩ := Dp.reads I d x v hd rx
  obtain ⟨bs, r2⟩ := Dp.reads I (.tuple ds) y u he ry
  have hdp := SeqAt.depth_of_shaped sd
  exact SeqAt.notIn_tuple_reads r2 r1 se (SeqAt.canLay_of_shaped sd) (by have := Nat.min_le_right (PyData.depthAll ds) d.depth; omega) ⟨.bl _, H, I, rfl, q⟩
end
end Wk

set_option Elab.async false
set_option linter.all false
set_option maxRecDepth 100000
set_option maxHeartbeats 2000000
namespace Wk
open PySem PySem.Spec PyProof.Rows L2 Evl
theorem lay_ints : ∀ ns : List Int, PyData.canLayAll0 (ns.map PyData.int) = true
  | [] => by simp [PyData.canLayAll0]
  | n :: ns => by
    have h := lay_ints ns
    simp [PyData.canLayAll0, PyData.canLay0, h]
theorem depth_ints : ∀ ns : List Int, PyData.depthAll (ns.map PyData.int) = 0
  | [] => by simp [PyData.depthAll]
  | n :: ns => by
    have h := depth_ints ns
    simp [PyData.depthAll, PyData.depth, h]
theorem shaped_ints (ns : List Int) : SeqAt.shaped (.tuple (ns.map PyData.int)) = true := by
  unfold SeqAt.shaped
  have h1 := lay_ints ns
  have h2 := depth_ints ns
  simp [PyData.canLay0, PyData.depth, h1, h2]
theorem way_lay {n r : Int} {d : PyData} (h : wayB n r d = true) : d.canLay0 = true := by
  rw [(way_ints h).1]
  exact SeqAt.canLay_of_shaped (shaped_ints _)
theorem ways_lay {n r : Int} : ∀ {ds : List PyData}, ds.all (wayB n r) = true → PyData.canLayAll0 ds = true
  | [], _ => by simp [PyData.canLayAll0]
  | d :: ds, h => by
    have h' : wayB n r d = true ∧ ds.all (wayB n r) = true := by simpa using h
    simp [PyData.canLayAll0, way_lay h'.1, ways_lay h'.2]
theorem row_lay {n r : Int} {d : PyData} (h : rowB n r d = true) : ∃ ws, d = .tuple ws ∧ PyData.canLayAll0 ws = true ∧ ws.length ≤ 6 ∧ (r ≠ 0 → ws.all (wayB n r) = true) ∧ (r = 0 → ws = []) := by
  unfold rowB at h
  simp only [Bool.and_eq_true, decide_eq_true_eq] at h
  obtain ⟨⟨ht, h1⟩, h2⟩ := h
  cases d <;> first | (simp [isTu] at ht; done) | skip
  rename_i ws
  by_cases hr : r = 0
  · rw [if_pos hr] at h2
    have e : ws = [] := List.length_eq_zero_iff.mp (of_decide_eq_true h2)
    refine ⟨ws, rfl, by rw [e]; simp [PyData.canLayAll0], h1, fun z => absurd hr z, fun _ => e⟩
  · rw [if_neg hr] at h2
    have h3 := (Bool.and_eq_true_iff.mp h2).1
    exact ⟨ws, rfl, ways_lay h3, h1, fun _ => h3, fun z => absurd z hr⟩
/-- the rest of a way stands in the list of its router, or is the goal's -/
def restB (rows : List PyData) (w : PyData) : Bool := decide ((rts w).getD 1 0 = 0) || (itemsT (rows.getD ((rts w).getD 1 0).toNat .none)).any (fun z => PyData.eqv z (.tuple (((rts w).drop 1).map PyData.int)))
def Good (rows : List PyData) : Prop := ∀ (i : Nat) (row : PyData), rows[i]? = some row → rowB (rows.length : Int) (i : Int) row = true
theorem way_at {n r : Int} {w : PyData} {i : Nat} {x : Int} (h : wayB n r w = true) (e : (rts w)[i]? = some x) : 0 ≤ x ∧ x < n := by
  have hall := (way_ints h).2.1
  unfold rts at e
  rw [List.getElem?_map] at e
  cases hd : (itemsT w)[i]? with
  | none => rw [hd] at e; cases e
  | some d =>
    rw [hd] at e
    have hm : d ∈ itemsT w := List.mem_of_getElem? hd
    have hr : isR n d = true := List.all_eq_true.mp hall d hm
    unfold isR at hr
    simp only [Bool.and_eq_true, decide_eq_true_eq] at hr
    have ex : valI d = x := Option.some.inj e
    omega
theorem drop1 (ns : List Int) : cutV (ns.map V.int) (some 1) none = (ns.drop 1).map V.int := by
  unfold cutV
  have e1 : HT.sIx (ns.map V.int).length 0 (some 1) = min 1 (ns.map V.int).length := HT.sIx_nat _ _ 1
  rw [e1, HT.sIx_none]
  cases ns with
  | nil => rfl
  | cons x l =>
    simp
    exact List.take_of_length_le (by simp)
section
variable {P : Program} {w : World} {K : PySem.W.Frag} {mg : Str → Option Value} {base : Heap} {f : Addr} {fd : FuncData}
abbrev spRest : Sp := spP fun H vs z => ∃ (lv wv : V) (rows : List PyData) (w : PyData) (r : Int), vs = [lv, wv] ∧ Dq H lv (.tuple rows) ∧ Dq H wv w ∧ wayB (rows.length : Int) r w = true ∧ Good rows ∧ z = .bl (restB rows w)
abbrev sRest : Stmt := top 32
theorem scRest : FnScope ["lists", "way"] ["lists", "way"] (defScope sRest) := ⟨rfl, rfl, rfl, by decide +kernel, rfl, by decide +kernel, by decide +kernel⟩
theorem ok_rest (F : FnP K "has_let_rest" sRest f fd) : FnOk P w K mg base CX0 1 f fd ["lists", "way"] spRest := by
  refine F.ok scRest (fun vs H Q E h => ?_) (fun cdv A outer s H vs Q E hr h => ?_)
  · obtain ⟨z, ⟨lv, wv, rows, w, r, rfl, _⟩, _⟩ := h
    rfl
  · obtain ⟨z, ⟨lv, wv, rows, w, r, rfl, hl, hw, hway, hg, rfl⟩, k⟩ := h
    have hu : (A.deeper (envOfC "has_let_rest" (defScope sRest) s.heap.objs.size f cdv)).units + 66 < cLine := by have := hr.un; omega
    refine ⟨_, pss_one (ps_ret (pe_or (pe_cmpR op_eq (pe_ix ix_tup (pv 1) pe_int (fun _ _ => rfl)) pe_int (nomark _)) (pe_one (pe_cmpR (op_inU hu) (pe_slice sl_tupA (pv 1) (po_some pe_int) po_none) (pe_ix ix_tup (pv 0) (pe_ix ix_tup (pv 1) pe_int (fun _ _ => rfl)) (fun _ _ => rfl)) rfl)))), ?_⟩
    obtain ⟨ew, _, h2, _, _, _, _⟩ := way_ints hway
    unfold restB at k
    have hn1 : ∃ j, (rts w)[1]? = some j := ⟨_, List.getElem?_eq_getElem (by omega)⟩
    obtain ⟨j, hj⟩ := hn1
    obtain ⟨hj0, hjn⟩ := way_at hway hj
    have ejd : (rts w).getD 1 0 = j := by rw [List.getD_eq_getElem?_getD, hj]; rfl
    rw [ejd] at k
    generalize rts w = ns at *
    subst ew
    cases hw with
    | tup ha hx =>
      rename_i a xs
      have ex := hx.int_inv
      subst ex
      cases hl with
      | tup hb hy =>
        rename_i b ys
        have v0 : Ev (tVar 0) (start ["lists", "way"] [.ref b, .ref a]) H (.ref b) := ev_var rfl
        have v1 : Ev (tVar 1) (start ["lists", "way"] [.ref b, .ref a]) H (.ref a) := ev_var rfl
        have hat : atI (ns.map V.int) 1 = some (.int j) := atI_nat (j := 1) (by rw [List.getElem?_map, hj]; rfl)
        have i1 : Ev (tOp (rIxT K) (tVar 1) (tC (.int 1))) (start ["lists", "way"] [.ref b, .ref a]) H (.int j) := ev_op v1 ev_c (rv_ixT (st_of ha) hat)
        have ed : decide (V.int j = V.int 0) = decide (j = 0) := by rw [decide_eq_decide]; exact ⟨fun z => by injection z, fun z => by rw [z]⟩
        refine s_ret (ev_is (ev_orV (a := decide (V.int j = V.int 0)) (ev_op i1 ev_c (rv_eq rfl)) fun hne => ?_) (by rw [ed])) k
        have hjl : j.toNat < rows.length := by omega
        have hrow : rows[j.toNat]? = some rows[j.toNat] := List.getElem?_eq_getElem hjl
        have hgd : rows.getD j.toNat .none = rows[j.toNat] := by rw [List.getD_eq_getElem?_getD, hrow]; rfl
        obtain ⟨ws, ew, lay, _⟩ := row_lay (hg _ _ hrow)
        obtain ⟨rv, hrv, hdr⟩ := hy.at hrow
        rw [hgd, ew]
        rw [ew] at hdr
        have hat2 : atI ys j = some rv := by
          have q := atI_nat (j := j.toNat) hrv
          rw [Int.toNat_of_nonneg hj0] at q
          exact q
        intro H1 e Q2 q
        refine es_sl (K := K) v1 (eo_some ev_c) eo_none ha H1 e _ fun p H2 e2 hp => ?_
        rw [drop1] at hp
        refine ev_op (Ev.mono (e.trans e2) v0) (Ev.mono (e.trans e2) i1) (rv_ixT (st_of ((e.trans e2) _ _ hb)) hat2) H2 (Ex.refl H2) _ fun H3 e3 => ?_
        refine ⟨.tuple ((ns.drop 1).map PyData.int), ws, .tup (st_of (e3 _ _ hp)) (DqA.dp (lay_ints _) (DqA.ints _)), Dq.dp (by simpa [PyData.canLay0] using lay) (hdr.mono ((e.trans e2).trans e3)), shaped_ints _, lay, q H3 (e2.trans e3)⟩
end
end Wk

set_option Elab.async false
set_option linter.all false
set_option maxRecDepth 100000
set_option maxHeartbeats 2000000
namespace Wk
open PySem PySem.Spec PyProof.Rows L2 Evl
/-- what the text tells of an error class with one field, at C, its __init__ at fI -/
structure Err (P : Program) (w : World) (K : PySem.W.Frag) (mg : Str → Option Value) (base : Heap) (x : Str) (C : Addr) : Prop where
  g : mg x = some (.ref C)
  oex : OexC K C
  xf : XfC K C
  no : PySem.W.findIn K (.ref C) "router" = some none
  te : PySem.W.exmOne K (.ref C) (.ref C) = some true
  ini : ∃ (fI : Addr) (fd : FuncData), PySem.W.findIn K (.ref C) "__init__" = some (some (.ref fI)) ∧ PySem.W.typeIn K (.ref fI) = some (.type "function") ∧ FnOk P w K mg base CX0 1 fI fd ["self", "router"] (spXI C) ∧ Binds K fd ["self", "router"] []
theorem pmk_err {X : Cx} {x : Str} {C : Addr} {e : Expr} {ta : TA} {p pos : Pos} (T : Err X.prog X.w X.K X.mg X.base x C) (hr : Room 2 X.A) (hg : Gl X x) (ha : PA X [e] ta)
    (hdb : (x == ("__debug__" : Str)) = false := by decide) (he : starEach [e] X.env = (false, eval e X.env) :: starEach [] X.env := by rfl) (hpl : (backTo pos (starEach [] X.env)).any (·.1) = false := by rfl) : PMk X (.Call (.Name x p) [e] [] pos) (tMkO C (spXI C) [] ta) := by
  obtain ⟨fI, fd, h1, h2, h3, h4⟩ := T.ini
  exact pmk_oex T.oex h1 h2 h3 hr h4 .nil pass0 hg T.g ha hdb he hpl
/-- the first router whose item is wrong; the first with a way whose rest is not let -/
def fb (n : Int) : Nat → List PyData → Option Int
  | _, [] => none
  | i, d :: ds => if rowB n (i : Int) d = true then fb n (i + 1) ds else some (i : Int)
def sb (rows : List PyData) : Nat → List PyData → Option Int
  | _, [] => none
  | i, d :: ds => if (itemsT d).all (restB rows) = true then sb rows (i + 1) ds else some (i : Int)
def due2 (rows : List PyData) : Option Int := match fb (rows.length : Int) 0 rows with
  | some r => some r
  | none => sb rows 0 rows
def dueD (d : PyData) : Option Int := if isTu d = true ∧ 2 ≤ (itemsT d).length ∧ (itemsT d).length ≤ 8 then due2 (itemsT d) else some (-1)
theorem fb_drop {n : Int} : ∀ {ds : List PyData} {i j : Nat} {d : PyData}, ds[i]? = some d → fb n (j + i) (ds.drop i) = if rowB n ((j + i : Nat) : Int) d = true then fb n (j + (i + 1)) (ds.drop (i + 1)) else some ((j + i : Nat) : Int)
  | [], i, j, d, h => by simp at h
  | x :: ds, 0, j, d, h => by
    simp at h
    subst h
    rfl
  | x :: ds, i + 1, j, d, h => by
    have q := fb_drop (n := n) (ds := ds) (i := i) (j := j + 1) (d := d) (by simpa using h)
    simp only [List.drop_succ_cons]
    rw [show j + (i + 1) = j + 1 + i by omega, show j + (i + 1 + 1) = j + 1 + (i + 1) by omega]
    exact q
theorem sb_drop {rows : List PyData} : ∀ {ds : List PyData} {i j : Nat} {d : PyData}, ds[i]? = some d → sb rows (j + i) (ds.drop i) = if (itemsT d).all (restB rows) = true then sb rows (j + (i + 1)) (ds.drop (i + 1)) else some ((j + i : Nat) : Int)
  | [], i, j, d, h => by simp at h
  | x :: ds, 0, j, d, h => by
    simp at h
    subst h
    rfl
  | x :: ds, i + 1, j, d, h => by
    have q := sb_drop (rows := rows) (ds := ds) (i := i) (j := j + 1) (d := d) (by simpa using h)
    simp only [List.drop_succ_cons]
    rw [show j + (i + 1) = j + 1 + i by omega, show j + (i + 1 + 1) = j + 1 + (i + 1) by omega]
    exact q
theorem fb_good {n : Int} : ∀ {ds : List PyData} {j : Nat}, fb n j ds = none → ∀ (i : Nat) (d : PyData), ds[i]? = some d → rowB n ((j + i : Nat) : Int) d = true
  | [], _, _, i, d, h => by simp at h
  | x :: ds, j, hf, i, d, h => by
    unfold fb at hf
    by_cases hx : rowB n (j : Int) x = true
    · rw [if_pos hx] at hf
      cases i with
      | zero => simp at h; subst h; exact hx
      | succ i =>
        have q := fb_good hf i d (by simpa using h)
        rw [show j + (i + 1) = j + 1 + i by omega]
        exact q
    · rw [if_neg hx] at hf
      cases hf
theorem fb_Good {rows : List PyData} (h : fb (rows.length : Int) 0 rows = none) : Good rows := fun i row e => by
  have q := fb_good h i row e
  rw [Nat.zero_add] at q
  exact q
theorem g_two {i j : Nat} {x y : V} {σ : L2.St} {H : Hp} {k : L2.St → Hp → Prop} (h : k ((σ.set i (some x)).set j (some y)) H) : gCons (gName i) (gCons (gName j) gNil) [x, y] σ H k := ⟨_, _, rfl, ⟨_, _, rfl, ⟨rfl, h⟩⟩⟩
section
variable {P : Program} {w : World} {K : PySem.W.Frag} {mg : Str → Option Value} {base : Heap} {f : Addr} {fd : FuncData}
abbrev spSize : Sp := spP fun H vs z => ∃ (a : Int) (v : V) (d : PyData), vs = [.int a, v] ∧ Dq H v d ∧ z = .bl (isI d && (decide (a ≤ valI d) && decide (valI d ≤ 8)))
abbrev sSize : Stmt := top 12
theorem scSize : FnScope ["least", "thing"] ["least", "thing"] (defScope sSize) := ⟨rfl, rfl, rfl, by decide +kernel, rfl, by decide +kernel, by decide +kernel⟩
theorem ok_size {t8 : Tok} (hM : mg "MOST_ROUTERS" = some (.int 8 t8)) (C : Cal P w K mg base "is_between" ["least", "most", "thing"] 2 spBetween) (F : FnP K "is_size" sSize f fd) : FnOk P w K mg base CX0 3 f fd ["least", "thing"] spSize := by
  refine F.ok scSize (fun vs H Q E h => ?_) (fun cdv A outer s H vs Q E hr h => ?_)
  · obtain ⟨z, ⟨n, v, d, rfl, _⟩, _⟩ := h
    rfl
  · obtain ⟨z, ⟨n, v, d, rfl, hd, rfl⟩, k⟩ := h
    refine ⟨_, pss_one (ps_ret (pe_cal C hr (by rfl) (pa_cons (pv 0) (pa_cons (pe_glob (v := .int 8) (by rfl) hM ⟨_, rfl⟩) (pa_cons (pv 1) pa_nil))))), ?_⟩
    exact s_ret (ev_call (ea_cons (ev_var rfl) (ea_cons ev_c (ea_cons (ev_var rfl) ea_nil))) (spP_v fun H1 e => ⟨n, 8, v, d, rfl, hd.mono e, rfl⟩)) k
def spRefuse (CB : Addr) : Sp := fun vs H Q E => ∃ v d, vs = [v] ∧ Dq H v d ∧ (dueD d = none → ∀ H', Ex H H' → Q .non H') ∧ ∀ r, dueD d = some r → ∀ dx H', H dx = none → Ex H H' → H' dx = some (.xd [("router", .int r)]) → E (.ref CB) (some dx) H'
abbrev sRefuse : Stmt := top 30
abbrev nRefuse : List Str := ["lists", "router", "item", "way"]
theorem scRefuse : FnScope nRefuse ["lists"] (defScope sRefuse) := ⟨rfl, rfl, rfl, by decide +kernel, rfl, by decide +kernel, by decide +kernel⟩
theorem ok_refuse {CB : Addr} (B : Bl mg) {t2 : Tok} (hM : mg "LEAST_ROUTERS" = some (.int 2 t2)) (CS : Cal P w K mg base "is_size" ["least", "thing"] 3 spSize) (T : Err P w K mg base "BadWishes" CB) (C : Cal P w K mg base "is_way_list" ["size", "router", "thing"] 6 spRow) (C2 : Cal P w K mg base "has_let_rest" ["lists", "way"] 1 spRest)
    (F : FnP K "refuse_wrong_lists" sRefuse f fd) : FnOk P w K mg base (L2.CX P w) 7 f fd ["lists"] (spRefuse CB) := by
  refine F.ok scRefuse (fun vs H Q E h => ?_) (fun cdv A outer s H vs Q E hr h => ?_)
  · obtain ⟨v, d, rfl, _⟩ := h
    rfl
  · obtain ⟨v, d, rfl, hd, kN, kE⟩ := h
    have hr2 : Room 2 _ := hr.mono (by decide)
    have hr1 : Room 1 _ := hr.mono (by decide)
    refine ⟨_, pss_cons (ps_if (PW.pt (pw_or (pt_not (pt_val (pe_callB call_isi (by rfl) B.isi boot_isinstance (pa_cons (pv 0) (pa_cons (pe_bltn (v := .ty "tuple") (by rfl) B.tuple PyProof.Rows.boot_tuple rfl) pa_nil)))))
        (pw_or1 (pt_not (pt_val (pe_cal CS hr (by rfl) (pa_cons (pe_glob (v := .int 2) (by rfl) hM ⟨_, rfl⟩) (pa_cons (pe_callB call_len_seq (by rfl) B.len PySem.boot_len (pa_cons (pv 0) pa_nil)) pa_nil)))))))) (pss_one (ps_raise rfl (takes_of rfl rfl rfl rfl) (pmk_err T hr2 (by rfl) (pa_cons (pe_un un_neg pe_int) pa_nil)))) pss_nil)
      (pss_cons (ps_for (passes_of rfl) rfl (pi_enumT (by rfl) B.enum (pa_cons (pv 0) pa_nil)) (pg_tup rfl (pgs_cons (pg_name (i := 1) scRefuse.nd rfl (.inl rfl)) (pgs_cons (pg_name (i := 2) scRefuse.nd rfl (.inl rfl)) pgs_nil)))
        (pss_one (ps_if (pt_not (pt_val (pe_cal C hr (by rfl) (pa_cons (pe_callB call_len_seq (by rfl) B.len PySem.boot_len (pa_cons (pv 0) pa_nil)) (pa_cons (pv 1) (pa_cons (pv 2) pa_nil)))))) (pss_one (ps_raise rfl (takes_of rfl rfl rfl rfl) (pmk_err T hr2 (by rfl) (pa_cons (pv 1) pa_nil)))) pss_nil)))
      (pss_one (ps_for (passes_of rfl) rfl (pi_enumT (by rfl) B.enum (pa_cons (pv 0) pa_nil)) (pg_tup rfl (pgs_cons (pg_name (i := 1) scRefuse.nd rfl (.inl rfl)) (pgs_cons (pg_name (i := 2) scRefuse.nd rfl (.inl rfl)) pgs_nil)))
        (pss_one (ps_if (pt_not (pt_val (pe_callB (cr_all rfl) (by rfl) B.all boot_all (pa_cons (pe_lc (own := [("way", 3)]) (g := gName 3) (tt := tYes) rfl scRefuse.nd (pi_tup (pv 2)) (blkOk_by (N := nRefuse) (sc := defScope sRefuse) (by decide +kernel))
          (fun _ _ _ _ _ => pg_name (i := 3) scRefuse.nd rfl (Or.inl rfl)) (fun _ _ _ _ _ => pts_nil) (fun _ _ _ _ _ => pe_cal C2 hr1 (by rfl) (pa_cons (pv 0) (pa_cons (pv 3) pa_nil)))) pa_nil)))) (pss_one (ps_raise rfl (takes_of rfl rfl rfl rfl) (pmk_err T hr2 (by rfl) (pa_cons (pv 1) pa_nil)))) pss_nil))))), ?_⟩
    have v0 : ∀ {H1 : Hp} {o1 o2 o3 : Option V}, Ev (tVar 0) [some v, o1, o2, o3] H1 v := ev_var rfl
    have hlen : ∀ {H1 : Hp} {o1 o2 o3 : Option V}, Ex H H1 → isTu d = true → Ev (tCB (rLenS K) (tCons (tVar 0) tNil)) [some v, o1, o2, o3] H1 (.int ((itemsT d).length : Int)) := fun {H1 o1 o2 o3} e ht => by
      cases hd <;> first | (simp [isTu] at ht; done) | skip
      rename_i a xs ds h1 h2
      rw [show (itemsT (.tuple ds)).length = xs.length from h2.length.symm]
      exact ev_lenT v0 (st_of (e _ _ h1))
    refine q_when (b := !isTu d || !(decide (2 ≤ ((itemsT d).length : Int)) && decide (((itemsT d).length : Int) ≤ 8))) (et_or (et_not (et_B (ev_isi (v0 (H1 := H)) hd (kit_tup d)))) fun ht => et_not (et_B (ev_call (ea_cons ev_c (ea_cons (hlen (Ex.refl H) (by simpa using ht)) ea_nil)) (spP_v fun H1 e => ⟨2, _, _, rfl, .int _, rfl⟩))))
      (fun hb H1 e => ?_) (fun hb H1 e => ?_)
    · refine mk_err (ev_un ev_c ru_neg) fun dx H' h0 e' hx => kE (-1) ?_ dx H' (fresh_back e h0) (e.trans e') hx
      unfold dueD
      rw [if_neg]
      intro z
      obtain ⟨z1, z2, z3⟩ := z
      simp [z1] at hb
      omega
    · have ht : isTu d = true := by simp at hb; exact hb.1
      have hl : 2 ≤ (itemsT d).length ∧ (itemsT d).length ≤ 8 := by simp [ht] at hb; omega
      have edue : dueD d = due2 (itemsT d) := by unfold dueD; rw [if_pos ⟨ht, hl⟩]
      rw [edue] at kN kE
      cases hd <;> first | (simp [isTu] at ht; done) | skip
      rename_i a xs rows h1 h2
      have hlen' : ∀ {H1 : Hp} {o1 o2 o3 : Option V}, Ex H H1 → Ev (tCB (rLenS K) (tCons (tVar 0) tNil)) [some (.ref a), o1, o2, o3] H1 (.int (rows.length : Int)) := fun {_ _ _ _} e => hlen e rfl
      have kN' : due2 rows = none → ∀ H', Ex H H' → Q .non H' := kN
      have kE' : ∀ r, due2 rows = some r → ∀ dx H', H dx = none → Ex H H' → H' dx = some (.xd [("router", .int r)]) → E (.ref CB) (some dx) H' := kE
      have hl' : 2 ≤ rows.length ∧ rows.length ≤ 8 := hl
      clear kN kE hlen edue hl hb
      have hxl := h2.length
      refine q_forEn (K := K) (v0 (H1 := H1)) (st_of (e _ _ h1)) (fun i σ H' => Ex H H' ∧ (∃ o1 o2, σ = [some (.ref a), o1, o2, none]) ∧ fb (rows.length : Int) 0 rows = fb (rows.length : Int) i (rows.drop i)) (fun H2 e2 => ⟨e.trans e2, ⟨none, none, rfl⟩, rfl⟩) (fun i σ H' _ p => st_of (p.1 _ _ h1)) ?_ ?_
      · rintro i z T σ H3 hz ⟨e3, ⟨o1, o2, rfl⟩, hf⟩ hT
        obtain ⟨dz, ed1, ed2⟩ := h2.get hz
        have e4 : Ex H3 (upd H3 T (.tup [.int (i : Nat), z])) := Ex.new hT
        refine ⟨T, _, rfl, st_of upd_same, rfl, g_two ?_⟩
        change tIfS _ _ _ _ [some (.ref a), some (.int (i : Nat)), some z, none] _
        have hdrop := fb_drop (n := (rows.length : Int)) (j := 0) ed1
        rw [Nat.zero_add, Nat.zero_add] at hdrop
        refine s_when (b := !rowB (rows.length : Int) (i : Int) dz) (et_not (et_B (ev_call (ea_cons (hlen' (e3.trans e4)) (ea_cons (ev_var rfl) (ea_cons (ev_var rfl) ea_nil))) (spP_v fun H5 e5 => ⟨_, _, z, dz, rfl, ed2.mono ((e3.trans e4).trans e5), rfl⟩)))) (fun hb H5 e5 => ?_) (fun hb H5 e5 => ?_)
        · refine mk_err (ev_var rfl) fun dx H' h0 e' hx => kE' (i : Int) ?_ dx H' (fresh_back ((e3.trans e4).trans e5) h0) (((e3.trans e4).trans e5).trans e') hx
          have hb' : rowB (rows.length : Int) (i : Int) dz = false := by simpa using hb
          unfold due2
          rw [hf, hdrop, hb']
          rfl
        · have hb' : rowB (rows.length : Int) (i : Int) dz = true := by simpa using hb
          refine ⟨(e3.trans e4).trans e5, ⟨_, _, rfl⟩, ?_⟩
          rw [hf, hdrop, hb']
          rfl
      · rintro σ H3 ⟨e3, ⟨o1, o2, rfl⟩, hf⟩
        have hfn : fb (rows.length : Int) 0 rows = none := by
          rw [hf, hxl, List.drop_length]
          rfl
        have hG := fb_Good hfn
        have edue : due2 rows = sb rows 0 rows := by unfold due2; rw [hfn]
        rw [edue] at kN' kE'
        refine s_forEn (K := K) (v0 (H1 := H3)) (st_of (e3 _ _ h1)) (fun i σ H' => Ex H H' ∧ (∃ o1 o2, σ = [some (.ref a), o1, o2, none]) ∧ sb rows 0 rows = sb rows i (rows.drop i)) (fun H4 e4 => ⟨e3.trans e4, ⟨_, _, rfl⟩, rfl⟩) (fun i σ H' _ p => st_of (p.1 _ _ h1)) ?_ ?_
        · rintro i z T σ H5 hz ⟨e5, ⟨p1, p2, rfl⟩, hs⟩ hT
          obtain ⟨dz, ed1, ed2⟩ := h2.get hz
          have e6 : Ex H5 (upd H5 T (.tup [.int (i : Nat), z])) := Ex.new hT
          refine ⟨T, _, rfl, st_of upd_same, rfl, g_two ?_⟩
          change tIfS _ _ _ _ [some (.ref a), some (.int (i : Nat)), some z, none] _
          have hdrop := sb_drop (rows := rows) (j := 0) ed1
          rw [Nat.zero_add, Nat.zero_add] at hdrop
          obtain ⟨ws, ew, lay, hwl, hways, hw0⟩ := row_lay (hG i dz ed1)
          subst ew
          have hwall : ∀ w ∈ ws, wayB (rows.length : Int) (i : Int) w = true := fun w hw => by
            by_cases hi0 : (i : Int) = 0
            · rw [hw0 hi0] at hw
              cases hw
            · exact List.all_eq_true.mp (hways hi0) w hw
          have ed3 := ed2.mono (e5.trans e6)
          cases ed3 with
          | tup hz1 hz2 =>
            rename_i az zs
            have hzl := hz2.length
            refine s_when (b := !ws.all (restB rows)) (et_not (et_B ?_)) (fun hb H7 e7 => ?_) (fun hb H7 e7 => ?_)
            · have q := ev_allT (K := K) (H := upd H5 T (.tup [.int (i : Nat), .ref az])) (j := 3) (vs := [3]) (σ := [some (.ref a), some (.int (i : Nat)), some (.ref az), none]) (tl := tVar 2) (te := tCall spRest [] E0 (tCons (tVar 0) (tCons (tVar 3) tNil))) (fun k => ((ws[k]?).map (restB rows)).getD false) (ev_var rfl) (st_of hz1) (by omega) (fun x => rfl)
                (fun k x H8 e8 hx => by
                  obtain ⟨dx, e9, e10⟩ := hz2.get hx
                  rw [e9]
                  exact ev_call (ea_cons (ev_var rfl) (ea_cons (ev_var rfl) ea_nil)) (spP_v fun H9 e11 => ⟨.ref a, x, rows, dx, (i : Int), rfl, .tup ((((e5.trans e6).trans e8).trans e11) _ _ h1) (h2.mono (((e5.trans e6).trans e8).trans e11)), (e10.mono e8).mono e11, hwall dx (List.mem_of_getElem? e9), hG, rfl⟩))
              rw [hzl, all_get] at q
              exact q
            · refine mk_err (ev_var rfl) fun dx H' h0 e' hx => kE' (i : Int) ?_ dx H' (fresh_back ((e5.trans e6).trans e7) h0) (((e5.trans e6).trans e7).trans e') hx
              have hb' : ws.all (restB rows) = false := by simpa using hb
              rw [hs, hdrop, show (itemsT (.tuple ws)).all (restB rows) = false from hb']
              rfl
            · have hb' : ws.all (restB rows) = true := by simpa using hb
              refine ⟨(e5.trans e6).trans e7, ⟨_, _, rfl⟩, ?_⟩
              rw [hs, hdrop, show (itemsT (.tuple ws)).all (restB rows) = true from hb']
              rfl
        · rintro σ H5 ⟨e5, ⟨p1, p2, rfl⟩, hs⟩
          refine kN' ?_ H5 e5
          rw [hs, hxl, List.drop_length]
          rfl
end
end Wk

set_option Elab.async false
set_option linter.all false
set_option maxRecDepth 100000
set_option maxHeartbeats 2000000
namespace Wk
open PySem PySem.Spec PyProof.Rows L2 Evl
abbrev FnM (K : PySem.W.Frag) (x q : Str) (st : Stmt) (f : Addr) (fd : FuncData) : Prop := FunD K x q (defArgs st) (defBody st) (defScope st) [] [] f fd
/-- the fields of wishes -/
def wf (n : Int) (v : V) : List (Str × V) := putF "_lists" v (putF "size" (.int n) [])
theorem wf_size (n : Int) (v : V) : (wf n v).lookup ("size" : Str) = some (.int n) := by
  unfold wf
  rw [lookup_putF, if_neg (by decide +kernel), lookup_putF, if_pos rfl]
theorem wf_lists (n : Int) (v : V) : (wf n v).lookup ("_lists" : Str) = some v := by
  unfold wf
  rw [lookup_putF, if_pos rfl]
theorem wf_no (n : Int) (v : V) {m : Str} (h1 : ¬ m = "_lists") (h2 : ¬ m = "size") : (wf n v).lookup m = none := by
  unfold wf
  rw [lookup_putF, if_neg h1, lookup_putF, if_neg h2]
  rfl
section
variable {P : Program} {w : World} {K : PySem.W.Frag} {mg : Str → Option Value} {base : Heap} {f : Addr} {fd : FuncData}
abbrev sXN : Stmt := inClass (top 3) 0
abbrev sXB : Stmt := inClass (top 4) 0
theorem scXN : FnScope ["self", "router"] ["self", "router"] (defScope sXN) := ⟨rfl, rfl, rfl, by decide +kernel, rfl, by decide +kernel, by decide +kernel⟩
theorem scXB : FnScope ["self", "router"] ["self", "router"] (defScope sXB) := ⟨rfl, rfl, rfl, by decide +kernel, rfl, by decide +kernel, by decide +kernel⟩
theorem ok_xn {C : Addr} (T : OexC K C) (no : PySem.W.findIn K (.ref C) "router" = some none) (F : FnM K "__init__" "NoRouter.__init__" sXN f fd) : FnOk P w K mg base CX0 1 f fd ["self", "router"] (spXI C) := by
  refine F.ok scXN (fun vs H Q E h => ?_) (fun cdv A outer s H vs Q E hr h => ?_)
  · obtain ⟨a, y, rfl, _⟩ := h
    rfl
  · obtain ⟨a, y, rfl, ha, k⟩ := h
    exact ⟨_, pss_one (ps_ost (pv 0) (pv 1)), y, rfl, .ref a, rfl, a, C, rfl, T, no, .inl ⟨ha, k⟩⟩
theorem ok_xb {C : Addr} (T : OexC K C) (no : PySem.W.findIn K (.ref C) "router" = some none) (F : FnM K "__init__" "BadWishes.__init__" sXB f fd) : FnOk P w K mg base CX0 1 f fd ["self", "router"] (spXI C) := by
  refine F.ok scXB (fun vs H Q E h => ?_) (fun cdv A outer s H vs Q E hr h => ?_)
  · obtain ⟨a, y, rfl, _⟩ := h
    rfl
  · obtain ⟨a, y, rfl, ha, k⟩ := h
    exact ⟨_, pss_one (ps_ost (pv 0) (pv 1)), y, rfl, .ref a, rfl, a, C, rfl, T, no, .inl ⟨ha, k⟩⟩
/-! Wishes.__init__ -/
structure CalX (P : Program) (w : World) (K : PySem.W.Frag) (mg : Str → Option Value) (base : Heap) (x : Str) (ps : List Str) (k : Nat) (sp : Sp) : Prop where
  ex : ∃ (f : Addr) (fd : FuncData), FnOk P w K mg base (L2.CX P w) k f fd ps sp ∧ mg x = some (.ref f) ∧ PySem.W.keepIn K (.ref f) = true ∧ Binds K fd ps []
def spWI (CW CB : Addr) : Sp := fun vs H Q E => ∃ (G : Hp) (p dx : Addr) (v : V) (d : PyData), vs = [.ref p, v] ∧ H p = some (.ins CW dx []) ∧ Ex G H ∧ G p = none ∧ Dq G v d ∧
  (dueD d = none → ∀ H', Ex G H' → H' p = some (.ins CW dx (wf ((itemsT d).length : Int) v)) → Q .non H') ∧ ∀ r, dueD d = some r → ∀ dx H', H dx = none → Ex H H' → H' dx = some (.xd [("router", .int r)]) → E (.ref CB) (some dx) H'
abbrev sWI : Stmt := inClass (top 29) 0
theorem scWI : FnScope ["self", "lists"] ["self", "lists"] (defScope sWI) := ⟨rfl, rfl, rfl, by decide +kernel, rfl, by decide +kernel, by decide +kernel⟩
theorem due_none {d : PyData} (h : dueD d = none) : isTu d = true ∧ 2 ≤ (itemsT d).length ∧ (itemsT d).length ≤ 8 ∧ due2 (itemsT d) = none := by
  unfold dueD at h
  by_cases c : isTu d = true ∧ 2 ≤ (itemsT d).length ∧ (itemsT d).length ≤ 8
  · rw [if_pos c] at h
    exact ⟨c.1, c.2.1, c.2.2, h⟩
  · rw [if_neg c] at h
    cases h
structure WTx (K : PySem.W.Frag) (mg : Str → Option Value) (CW : Addr) : Prop where
  cl : Cls K CW
  nS : NoAttr K CW "size"
  nL : NoAttr K CW "_lists"
  g : mg "Wishes" = some (.ref CW)
theorem ok_wi {CW CB : Addr} (B : Bl mg) (T : WTx K mg CW) (C : CalX P w K mg base "refuse_wrong_lists" ["lists"] 7 (spRefuse CB)) (F : FnM K "__init__" "Wishes.__init__" sWI f fd) : FnOk P w K mg base (L2.CX P w) 8 f fd ["self", "lists"] (spWI CW CB) := by
  obtain ⟨fR, fdR, FR, gR, kR, bR⟩ := C.ex
  refine F.ok scWI (fun vs H Q E h => ?_) (fun cdv A outer s H vs Q E hr h => ?_)
  · obtain ⟨G, p, dx, v, d, rfl, _⟩ := h
    rfl
  · obtain ⟨G, p, dx, v, d, rfl, hp, eG, gp, hd, kN, kE⟩ := h
    refine ⟨_, pss_cons (ps_expr (pe_call FR hr (by rfl) gR kR bR .nil (passes_call (takes_of rfl rfl rfl rfl) (fun _ _ _ _ h => h)) (pa_cons (pv 1) pa_nil)))
      (pss_cons (ps_fld (pv 0) (pe_callB call_len_seq (by rfl) B.len PySem.boot_len (pa_cons (pv 1) pa_nil)) rfl) (pss_one (ps_fld (pv 0) (pv 1) rfl))), ?_⟩
    refine ⟨v, rfl, v, d, rfl, hd.mono eG, fun hn H1 e1 => ?_, kE⟩
    obtain ⟨ht, hl2, hl8, hdu⟩ := due_none hn
    have hp1 := e1 _ _ hp
    have hd1 := hd.mono (eG.trans e1)
    have kN' := kN hn
    cases hd1 <;> first | (simp [isTu] at ht; done) | skip
    rename_i a xs rows h1 h2
    have npa : a ≠ p := fun z => by rw [z, hp1] at h1; cases h1
    refine ⟨.ref a, rfl, a, xs, rfl, .inr (st_of h1), .ref p, rfl, p, CW, dx, [], rfl, hp1, T.cl, T.nS, (by show 0 < 1000; decide), ?_⟩
    refine ⟨.ref a, rfl, .ref p, rfl, p, CW, dx, _, rfl, upd_same, T.cl, T.nL, (by show 1 < 1000; decide), ?_⟩
    refine kN' _ (fun b o hb => ?_) ?_
    · have nb : b ≠ p := fun z => by rw [z, gp] at hb; cases hb
      rw [upd_ne nb, upd_ne nb]
      exact e1 _ _ (eG _ _ hb)
    · rw [upd_same, h2.length]
      rfl
/-! refuse_no_router -/
def spNoRt (CN : Addr) : Sp := fun vs H Q E => ∃ (n : Int) (v : V) (d : PyData), vs = [.int n, v] ∧ Dq H v d ∧ (isR n d = true → ∀ H', Ex H H' → Q .non H') ∧ (isR n d = false → ∀ dx H', H dx = none → Ex H H' → H' dx = some (.xd [("router", v)]) → E (.ref CN) (some dx) H')
abbrev sNoRt : Stmt := top 11
theorem scNoRt : FnScope ["size", "thing"] ["size", "thing"] (defScope sNoRt) := ⟨rfl, rfl, rfl, by decide +kernel, rfl, by decide +kernel, by decide +kernel⟩
theorem ok_noRt {CN : Addr} (TN : Err P w K mg base "NoRouter" CN) (C : Cal P w K mg base "is_router" ["size", "thing"] 3 spRouter) (F : FnP K "refuse_no_router" sNoRt f fd) : FnOk P w K mg base (L2.CX P w) 4 f fd ["size", "thing"] (spNoRt CN) := by
  refine F.ok scNoRt (fun vs H Q E h => ?_) (fun cdv A outer s H vs Q E hr h => ?_)
  · obtain ⟨n, v, d, rfl, _⟩ := h
    rfl
  · obtain ⟨n, v, d, rfl, hd, kQ, kE⟩ := h
    have hr2 : Room 2 _ := hr.mono (by decide)
    refine ⟨_, pss_one (ps_if (pt_not (pt_val (pe_cal C hr (by rfl) (pa_cons (pv 0) (pa_cons (pv 1) pa_nil))))) (pss_one (ps_raise rfl (takes_of rfl rfl rfl rfl) (pmk_err TN hr2 (by rfl) (pa_cons (pv 1) pa_nil)))) pss_nil), ?_⟩
    refine s_when (b := !isR n d) (et_not (et_B (ev_call (ea_cons (ev_var rfl) (ea_cons (ev_var rfl) ea_nil)) (spP_v fun H1 e => ⟨_, v, d, rfl, hd.mono e, rfl⟩)))) (fun hb H1 e => ?_) (fun hb H1 e => ?_)
    · exact mk_err (ev_var rfl) fun dx H' h0 e' hx => kE (by simpa using hb) dx H' (fresh_back e h0) (e.trans e') hx
    · exact kQ (by simpa using hb) H1 e
/-! Wishes.ways -/
def spWays (CW CN : Addr) : Sp := fun vs H Q E => ∃ (p dx : Addr) (lv v : V) (d : PyData) (rows : List PyData), vs = [.ref p, v] ∧ H p = some (.ins CW dx (wf (rows.length : Int) lv)) ∧ Dq H lv (.tuple rows) ∧ Dq H v d ∧
  (isR (rows.length : Int) d = true → ∀ v' row H', rows[(valI d).toNat]? = some row → Dq H v' row → Ex H H' → Q v' H') ∧ (isR (rows.length : Int) d = false → ∀ dx H', H dx = none → Ex H H' → H' dx = some (.xd [("router", v)]) → E (.ref CN) (some dx) H')
abbrev sWays : Stmt := inClass (top 29) 2
theorem scWays : FnScope ["self", "router"] ["self", "router"] (defScope sWays) := ⟨rfl, rfl, rfl, by decide +kernel, rfl, by decide +kernel, by decide +kernel⟩
theorem ok_ways {CW CN : Addr} (T : WTx K mg CW) (C : CalX P w K mg base "refuse_no_router" ["size", "thing"] 4 (spNoRt CN)) (F : FnM K "ways" "Wishes.ways" sWays f fd) : FnOk P w K mg base (L2.CX P w) 5 f fd ["self", "router"] (spWays CW CN) := by
  obtain ⟨fR, fdR, FR, gR, kR, bR⟩ := C.ex
  refine F.ok scWays (fun vs H Q E h => ?_) (fun cdv A outer s H vs Q E hr h => ?_)
  · obtain ⟨p, dx, lv, v, d, rows, rfl, _⟩ := h
    rfl
  · obtain ⟨p, dx, lv, v, d, rows, rfl, hp, hl, hd, kQ, kE⟩ := h
    have hr2 : Room 2 _ := hr.mono (by decide)
    refine ⟨_, pss_cons (ps_expr (pe_call FR hr (by rfl) gR kR bR .nil (passes_call (takes_of rfl rfl rfl rfl) (fun _ _ _ _ h => h)) (pa_cons (pe_fld (pv 0) rfl) (pa_cons (pv 1) pa_nil))))
      (pss_one (ps_ret (pe_ix ix_tup (pe_fld (pv 0) rfl) (pv 1) (fun _ _ => rfl)))), ?_⟩
    have v1 : ∀ {H1 : Hp}, Ev (tVar 1) (start ["self", "router"] [.ref p, v]) H1 v := ev_var rfl
    have fS : Ev (tFld K (tVar 0) "size") (start ["self", "router"] [.ref p, v]) H (.int (rows.length : Int)) := fun H1 e Q2 q => ⟨.ref p, rfl, p, CW, dx, _, _, rfl, e _ _ hp, T.cl, T.nS, wf_size _ _, q H1 (Ex.refl H1)⟩
    refine ⟨.ref p, rfl, p, CW, dx, _, _, rfl, hp, T.cl, T.nS, wf_size _ _, v, rfl, _, v, d, rfl, hd, fun hR H1 e => ?_, fun hb dx' H' h0 e' hx => kE hb dx' H' h0 e' hx⟩
    · skip
      have hR' := hR
      unfold isR at hR'
      simp only [Bool.and_eq_true, decide_eq_true_eq] at hR'
      obtain ⟨hi, h0, hn⟩ := hR'
      have ei := isI_eq hi
      generalize valI d = j at *
      subst ei
      cases hd
      cases hl with
      | tup ha hx =>
        rename_i a xs
        have hjl : j.toNat < rows.length := by omega
        have hrow : rows[j.toNat]? = some rows[j.toNat] := List.getElem?_eq_getElem hjl
        obtain ⟨rv, hrv, hdr⟩ := hx.at hrow
        have hat : atI xs j = some rv := by
          have q := atI_nat (j := j.toNat) hrv
          rw [Int.toNat_of_nonneg h0] at q
          exact q
        have fL : Ev (tFld K (tVar 0) "_lists") (start ["self", "router"] [.ref p, .int j]) H1 (.ref a) := fun H2 e2 Q2 q => ⟨.ref p, rfl, p, CW, dx, _, _, rfl, e2 _ _ (e _ _ hp), T.cl, T.nL, wf_lists _ _, q H2 (Ex.refl H2)⟩
        exact s_ret (ev_op fL v1 (rv_ixT (st_of (e _ _ ha)) hat)) fun H2 e2 => kQ hR rv _ H2 hrow hdr (e.trans e2)
end
end Wk

set_option Elab.async false
set_option linter.all false
set_option maxRecDepth 100000
set_option maxHeartbeats 4000000
namespace Wk
open PySem PySem.Spec PyProof.Rows L2 Evl SeqAt
/-! == of a sequence and the empty one: by the lengths alone -/
section
variable {X : Cx}
def rEqEL (K : PySem.W.Frag) : R2 := fun x y H Q => ∃ a b xs, x = .ref a ∧ y = .ref b ∧ SqL K H a xs ∧ SqL K H b [] ∧ Q (.bl xs.isEmpty) H
theorem op_eqEL (hu : X.A.units < cLine) : OpR X (compareOp .Eq) (rEqEL X.K) := fun pins s σ H x y v u Q I rx ry h => by
  obtain ⟨a, b, xs, rfl, rfl, ha, hb, q⟩ := h
  cases rx
  cases ry
  obtain ⟨its, r1, p1, _⟩ := I.list ha
  obtain ⟨its2, r2, p2, _⟩ := I.list hb
  cases r2
  cases r1 with
  | nil => exact eq_listAt (e := fun _ => true) p1.isList p2.isList rfl hu (fun j h1 _ => absurd h1 (by simp)) ⟨.bl true, H, I, rfl, q⟩
  | cons r rr => exact eq_list_lengthsAt p1.isList p2.isList (by simp) hu ⟨.bl false, H, I, rfl, q⟩
def rEqEU (K : PySem.W.Frag) : R2 := fun x y H Q => ∃ a b xs, x = .ref a ∧ y = .ref b ∧ SqT K H a xs ∧ SqT K H b [] ∧ Q (.bl xs.isEmpty) H
theorem op_eqEU (hu : X.A.units < cLine) : OpR X (compareOp .Eq) (rEqEU X.K) := fun pins s σ H x y v u Q I rx ry h => by
  obtain ⟨a, b, xs, rfl, rfl, ha, hb, q⟩ := h
  cases rx
  cases ry
  obtain ⟨its, r1, p1, _⟩ := I.tuple ha
  obtain ⟨its2, r2, p2, _⟩ := I.tuple hb
  cases r2
  refine eq_tupleAt (e := fun _ => true) p1 p2 hu (fun j _ h2 => absurd h2 (by simp)) ⟨.bl xs.isEmpty, H, I, ?_, q⟩
  cases r1 <;> rfl
def rNeEU (K : PySem.W.Frag) : R2 := fun x y H Q => ∃ a b xs, x = .ref a ∧ y = .ref b ∧ SqT K H a xs ∧ SqT K H b [] ∧ Q (.bl (!xs.isEmpty)) H
theorem op_neEU (hu : X.A.units < cLine) : OpR X (compareOp .NotEq) (rNeEU X.K) := fun pins s σ H x y v u Q I rx ry h => by
  obtain ⟨a, b, xs, rfl, rfl, ha, hb, q⟩ := h
  cases rx
  cases ry
  obtain ⟨its, r1, p1, _⟩ := I.tuple ha
  obtain ⟨its2, r2, p2, _⟩ := I.tuple hb
  cases r2
  refine RcNeAt.tuples (e := fun _ => true) p1 p2 hu (fun j _ h2 => absurd h2 (by simp)) X.prog X.w _ _ ⟨.bl (!xs.isEmpty), H, I, ?_, q⟩
  cases r1 <;> rfl
end
/-! a dict and a tuple are unlike -/
theorem dictEqTup (l b : Addr) (o : Obj) (hoc : o.cls = .type "dict") (its : Array Value) (n : Nat) (dd : Option Addr) (sl : Array (Option Value)) :
    Meets (Builtin.«dict.__eq__» ⟨[.ref l, .ref b], []⟩) (fun _ R s => s.heap.get? l = some o ∧ s.heap.get? b = some { cls := .type "tuple", dict := dd, data := .seq its n, slots := sl } ∧ R (.ok (.ret .notImplemented)) s) :=
  .of_wp fun prog w A R s h => by
    obtain ⟨hp, g, d, tk, os⟩ := s
    obtain ⟨hl, hb, h⟩ := h
    obtain ⟨oc, od, dt, os2⟩ := o
    simp only at hoc
    subst hoc
    have f1 := F.sub_tuple_dict
    wp_walk using wpAny_loadPart' hl, wpAny_loadPart' hb
    exact ⟨_, rfl, h⟩
theorem tupEqDict (l b : Addr) (o : Obj) (hoc : o.cls = .type "dict") (its : Array Value) (n : Nat) (dd : Option Addr) (sl : Array (Option Value)) :
    Meets (Builtin.«tuple.__eq__» ⟨[.ref b, .ref l], []⟩) (fun _ R s => s.heap.get? b = some { cls := .type "tuple", dict := dd, data := .seq its n, slots := sl } ∧ s.heap.get? l = some o ∧ R (.ok (.ret .notImplemented)) s) :=
  .of_wp fun prog w A R s h => by
    obtain ⟨hp, g, d, tk, os⟩ := s
    obtain ⟨hb, hl, h⟩ := h
    obtain ⟨oc, od, dt, os2⟩ := o
    simp only at hoc
    subst hoc
    have f1 := F.sub_dict_tuple
    wp_walk using wpAny_loadPart' hl, wpAny_loadPart' hb
    exact ⟨_, rfl, h⟩
section
variable {A : Around} {s : Shared}
theorem eqAt_dictTup {l b : Addr} {o : Obj} {its : Array Value} (hl : s.heap.get? l = some o) (hoc : o.cls = .type "dict") (hb : s.heap.IsTuple b its) (hu : A.units < cLine) : EqAt A s (.ref l) (.ref b) false := by
  obtain ⟨⟨c2, dd, dt, sl⟩, ho2, hc2, n, hd2⟩ := hb
  simp only at hc2 hd2
  subst hc2 hd2
  have hne : l ≠ b := fun z => by
    rw [z, ho2] at hl
    cases hl
    exact absurd hoc (by simp)
  refine EqAt.of_refs hne fun prog w E Q h => ?_
  exact rc_eq_decline_or (k := false) ⟨_, hl, hoc⟩ ⟨_, ho2, rfl⟩ (by decide) F.sub_tuple_dict F.slot_dict_eq F.slot_tuple_eq_refl
    (fun _ hq => call_meets F.slot_dict_eq ⟨_, hl, hoc⟩ F.entry_dict_eq (F.args_dict_eq_2 _ _) (dictEqTup l b o hoc its n dd sl) ⟨hl, ho2, hq⟩)
    (fun _ hq => call_meets F.slot_tuple_eq_refl ⟨_, ho2, rfl⟩ F.entry_tuple_eq (F.args_tuple_eq_2 _ _) (tupEqDict l b o hoc its n dd sl) ⟨ho2, hl, hq⟩)
    (fun _ hq => wpAny_isSame_ref_other hne hl ho2 (by rw [hoc]; simp) hq) (.inr hu) h
end
/-- an item of an edited row -/
def Itm (d : PyData) : Prop := d = .dict [] ∨ (d.canLay0 = true ∧ d.depth ≤ 8)
section
variable {X : Cx}
/-- x not in l, l a list of such items, x a tuple: a flag -/
def rNotInX (K : PySem.W.Frag) : R2 := fun x y H Q => ∃ a p ds vs es, x = .ref a ∧ y = .ref p ∧ H p = some (.lst vs) ∧ DqA H vs ds ∧ (∀ d ∈ ds, Itm d) ∧ Dq H (.ref a) (.tuple es) ∧ PyData.canLay0 (.tuple es) = true ∧ ∀ b : Bool, Q (.bl b) H
theorem op_notInX (hu : X.A.units + 66 < cLine) : OpR X (compareOp .NotIn) (rNotInX X.K) := fun pins s σ H x y v u Q I rx ry h => by
  obtain ⟨a, p, ds, vs, es, rfl, rfl, hp, hds, hi, hx, cx, q⟩ := h
  cases rx
  cases ry
  obtain ⟨its, r1, p1, _⟩ := I.list (sq_of hp)
  have hxp := hx
  cases hxp with
  | tup h1 h2 =>
    obtain ⟨as, rx⟩ := Dp.reads I (.tuple es) (.ref a) (.ref a) (Dq.dp (K := X.K) cx hx) rfl
    obtain ⟨its2, r2, p2, _⟩ := I.tuple (st_of h1)
    have key : ∀ y ∈ its, ∃ b, EqAt X.A.in1 s y (.ref a) b := fun y hy => by
      obtain ⟨i, hiy⟩ := List.mem_iff_getElem?.mp hy
      have hil : i < vs.length := by
        have := (List.getElem?_eq_some_iff.mp hiy).1
        rw [r1.length]; exact this
      have hv : vs[i]? = some vs[i] := List.getElem?_eq_getElem hil
      obtain ⟨u2, hu2, ru⟩ := r1.get hv
      rw [hiy] at hu2
      cases hu2
      obtain ⟨d, ed, hd⟩ := hds.get hv
      rcases hi d (List.mem_of_getElem? ed) with z | ⟨z, zd⟩
      · subst z
        generalize hvv : vs[i] = vv at *
        cases hd with
        | dic hdd =>
          cases ru
          obtain ⟨_, _, vs2, _, o, es2, ep, g1, g2, _⟩ := (show ObjOk X.prog X.w H s.heap _ (.dK []) from I.hok _ _ hdd)
          exact ⟨false, eqAt_dictTup g1 g2.1 p2 (by show X.A.in1.units < cLine; simp; omega)⟩
      · obtain ⟨bs, ry⟩ := Dp.reads I d vs[i] y (Dq.dp (K := X.K) z hd) ru
        exact ⟨_, eqAt_reads d (.tuple es) X.A.in1 s y (.ref a) bs as ry rx z cx (by
          have hm := Nat.min_le_left d.depth (PyData.tuple es).depth
          show X.A.in1.units + _ < cLine
          simp
          omega)⟩
    have key2 : ∃ e : Value → Bool, ∀ y, y ∈ its.toArray → EqAt X.A.in1 s y (.ref a) (e y) := by
      refine ⟨fun y => @decide (EqAt X.A.in1 s y (.ref a) true) (Classical.propDecidable _), fun y hy => ?_⟩
      obtain ⟨b, hb⟩ := key y (by simpa using hy)
      by_cases c : EqAt X.A.in1 s y (.ref a) true
      · simp only [c, decide_true]
      · simp only [c, decide_false]
        cases b with
        | false => exact hb
        | true => exact absurd hb c
    obtain ⟨e, he⟩ := key2
    exact notIn_listAt e p1.isList he ⟨.bl _, H, I, rfl, q _⟩
end
end Wk

set_option Elab.async false
set_option linter.all false
set_option maxRecDepth 100000
set_option maxHeartbeats 2000000
namespace Wk
open PySem PySem.Spec PyProof.Rows L2 Evl
theorem eqv_ints : ∀ a b : List Int, PyData.eqvAll (a.map PyData.int) (b.map PyData.int) = decide (a = b)
  | [], [] => by simp [PyData.eqvAll]
  | [], _ :: _ => by simp [PyData.eqvAll]
  | _ :: _, [] => by simp [PyData.eqvAll]
  | x :: a, y :: b => by
    have ih := eqv_ints a b
    simp only [List.map_cons, PyData.eqvAll, PyData.eqv, ih]
    by_cases h : x = y
    · subst h; simp
    · have : (x == y) = false := by simpa using h
      simp [this, h]
theorem eqv_way {n r m q : Int} {d e : PyData} (h1 : wayB n r d = true) (h2 : wayB m q e = true) : PyData.eqv d e = decide (rts d = rts e) := by
  have e1 := (way_ints h1).1
  have e2 := (way_ints h2).1
  generalize hx : rts d = a at *
  generalize hy : rts e = b at *
  rw [e1, e2]
  show PyData.eqvAll _ _ = _
  exact eqv_ints a b
theorem inV_ints (x : Int) : ∀ ns : List Int, inV (.int x) (ns.map V.int) = decide (x ∈ ns)
  | [] => rfl
  | n :: ns => by
    have ih := inV_ints x ns
    unfold inV at *
    rw [List.map_cons, List.any_cons, ih]
    show ((n == x) || _) = _
    by_cases h : n = x
    · subst h; simp
    · have : (n == x) = false := by simpa using h
      rw [this]
      simp [Ne.symm h]
theorem cut_to (xs : List V) (i : Nat) (h : i ≤ xs.length) : cutV xs none (some (i : Int)) = xs.take i := by
  unfold cutV
  rw [HT.sIx_none, HT.sIx_nat, Nat.min_eq_left h]
  simp
theorem flat_ints (ns : List Int) : (ns.map V.int).all flatV = true := by
  rw [List.all_map, List.all_eq_true]
  intro x _
  rfl
theorem nd_take {α : Type} : ∀ {l : List α} {i : Nat} {x : α}, l.Nodup → l[i]? = some x → x ∉ l.take i
  | [], i, x, _, h, _ => by simp at h
  | y :: l, 0, x, _, _, hm => by simp at hm
  | y :: l, i + 1, x, hn, h, hm => by
    have hn' := List.nodup_cons.mp hn
    have h' : l[i]? = some x := by simpa using h
    rcases List.mem_cons.mp (show x ∈ y :: l.take i from hm) with e | e
    · exact hn'.1 (e ▸ List.mem_of_getElem? h')
    · exact nd_take hn'.2 h' e
theorem nd_snoc {α : Type} {l : List α} {x : α} (h : l.Nodup) (hx : x ∉ l) : (l ++ [x]).Nodup := by
  unfold List.Nodup
  rw [List.pairwise_append]
  refine ⟨h, List.pairwise_singleton _ _, fun a ha b hb => ?_⟩
  rw [List.mem_singleton] at hb
  intro e
  rw [← hb, ← e] at hx
  exact hx ha
theorem take_snoc {α : Type} {l : List α} {i : Nat} {x : α} (h : l[i]? = some x) : l.take (i + 1) = l.take i ++ [x] := by
  rw [List.take_add_one, h]
  rfl
theorem ev_inS {K : PySem.W.Frag} {σ : L2.St} {H : Hp} {ta tb : TE} {x : V} {xs : List V} (ha : Ev ta σ H x) (hb : EvS tb σ H xs) (hx : flatV x = true) (hf : xs.all flatV = true) : Ev (tOp (rIn K false) ta tb) σ H (.bl (inV x xs)) := fun H1 e Q q =>
  ha H1 e _ fun H2 e2 => hb H2 (e.trans e2) _ fun p H3 e3 hp => ⟨p, xs, rfl, .inr (st_of hp), hx, hf, q H3 (e2.trans e3)⟩
theorem any_rts {n r : Int} {d : PyData} (hd : wayB n r d = true) : ∀ {ds : List PyData}, ds.all (wayB n r) = true → (ds.any fun z => PyData.eqv z d) = decide (rts d ∈ ds.map rts)
  | [], _ => rfl
  | x :: ds, h => by
    have h' : wayB n r x = true ∧ ds.all (wayB n r) = true := by simpa using h
    rw [List.any_cons, any_rts hd h'.2, eqv_way h'.1 hd, List.map_cons]
    by_cases c : rts x = rts d
    · rw [decide_eq_true c, Bool.true_or]
      exact (decide_eq_true (by rw [c]; exact List.mem_cons_self)).symm
    · rw [decide_eq_false c, Bool.false_or]
      rw [decide_eq_decide]
      constructor
      · exact fun z => List.mem_cons_of_mem _ z
      · intro z
        rcases List.mem_cons.mp z with e | e
        · exact absurd e.symm c
        · exact e
theorem way_second {n r : Int} {w : PyData} (h : wayB n r w = true) : (rts w).getD 1 0 = 0 ↔ (rts w).length = 2 := by
  obtain ⟨_, _, h2, _, _, hlast, hnd⟩ := way_ints h
  generalize rts w = ns at *
  cases ns with
  | nil => simp at h2
  | cons a l =>
    cases l with
    | nil => simp at h2
    | cons b l =>
      cases l with
      | nil =>
        simp at hlast
        simp [hlast]
      | cons c l =>
        have hb : b ∉ c :: l := (List.nodup_cons.mp (List.nodup_cons.mp hnd).2).1
        have h0 : (0 : Int) ∈ c :: l := by
          have e : (c :: l).getLast? = some 0 := by
            rw [← hlast]
            simp [List.getLast?_cons_cons]
          exact List.mem_of_getLast? e
        constructor
        · intro z
          have z' : b = 0 := z
          rw [z'] at hb
          exact absurd h0 hb
        · intro z
          simp at z
/-- None, or the router -/
def dueV (o : Option Int) : V := match o with
  | none => .non
  | some r => .int r
/-- plain data: ints, texts, tuples of such -/
inductive Smp : Nat → PyData → Prop
  | int (n : Nat) (i : Int) : Smp n (.int i)
  | str (n : Nat) (z : Str) : Smp n (.str z)
  | tup (n : Nat) (ds : List PyData) : (∀ d ∈ ds, Smp n d) → ds.length ≤ 100 → Smp (n + 1) (.tuple ds)
section
variable {K : PySem.W.Frag} {σ : L2.St} {H : Hp} {ta : TE}
theorem ev_isi2 {v : V} {d : PyData} {n m : String} {b c : Bool} (h : Ev ta σ H v) (hd : Dq H v d) (h1 : kitB (tyN d) n = some b) (h2 : kitB (tyN d) m = some c) :
    Ev (tCB (rIsiT K) (tCons ta (tCons (tTup (tCons (tC (.ty n)) (tCons (tC (.ty m)) tNil))) tNil))) σ H (.bl (b || c)) := fun H1 e Q q =>
  h H1 e _ fun H2 e2 => ⟨by show 2 ≤ sizeLine; decide, fun p hp => ⟨v, p, [.ty n, .ty m], .type (tyN d), [.type n, .type m], b || c, rfl, upd_same, .cons (.ty n) (.cons (.ty m) .nil), (hd.mono ((e.trans e2).trans (Ex.new hp))).ty,
    kitAny_cons (kit_ty h1) (fun hb => kitAny_cons (kit_ty h2) (fun hc => by rw [hb, hc]; exact kitAny_nil) (fun hc => by rw [hc]; simp)) (fun hb => by rw [hb]; rfl), q _ (e2.trans (Ex.new hp))⟩⟩
end
theorem k_tl : kitB "tuple" "list" = some false := by decide +kernel
theorem k_tt : kitB "tuple" "tuple" = some true := by decide +kernel
theorem k_il : kitB "int" "list" = some false := by decide +kernel
theorem k_it : kitB "int" "tuple" = some false := by decide +kernel
theorem k_sl : kitB "str" "list" = some false := by decide +kernel
theorem k_st : kitB "str" "tuple" = some false := by decide +kernel
theorem k_ii : kitB "int" "int" = some true := by decide +kernel
theorem k_ib : kitB "int" "bool" = some false := by decide +kernel
theorem k_si : kitB "str" "int" = some false := by decide +kernel
theorem k_ss : kitB "str" "str" = some true := by decide +kernel
/-! the pool of numbers: the list at p with a count and the list at q of cells; G is what stays -/
structure Pl (G H : Hp) (p q : Addr) : Prop where
  ex : Ex G H
  gp : G p = none
  gq : G q = none
  ne : p ≠ q
  at_ : ∃ (n : Int) (cs : List Int), H p = some (.lst [.int n, .ref q]) ∧ H q = some (.lst (cs.map V.int)) ∧ cs ≠ [] ∧ cs.length ≤ 63
theorem Pl.np {G H : Hp} {p q a : Addr} (h : Pl G H p q) (ha : H a = none) : a ≠ p := fun z => by
  obtain ⟨n, cs, h1, _⟩ := h.at_
  rw [z, h1] at ha
  cases ha
theorem Pl.nq {G H : Hp} {p q a : Addr} (h : Pl G H p q) (ha : H a = none) : a ≠ q := fun z => by
  obtain ⟨n, cs, _, h2, _⟩ := h.at_
  rw [z, h2] at ha
  cases ha
theorem Pl.ext {G H H' : Hp} {p q : Addr} (h : Pl G H p q) (e : Ex H H') : Pl G H' p q := by
  obtain ⟨n, cs, h1, h2, r⟩ := h.at_
  exact ⟨h.ex.trans e, h.gp, h.gq, h.ne, n, cs, e _ _ h1, e _ _ h2, r⟩
/-- a new object that stays -/
theorem Pl.new {G H : Hp} {p q a : Addr} {o : HO} (h : Pl G H p q) (ha : H a = none) : Pl (upd G a o) (upd H a o) p q := by
  obtain ⟨n, cs, h1, h2, r⟩ := h.at_
  have np := h.np ha
  have nq := h.nq ha
  refine ⟨fun b u hb => ?_, by rw [upd_ne (Ne.symm np)]; exact h.gp, by rw [upd_ne (Ne.symm nq)]; exact h.gq, h.ne, n, cs, by rw [upd_ne (Ne.symm np)]; exact h1, by rw [upd_ne (Ne.symm nq)]; exact h2, r⟩
  by_cases c : b = a
  · rw [c, upd_same] at hb ⊢
    exact hb
  · rw [upd_ne c] at hb ⊢
    exact h.ex _ _ hb
/-- an object that does not stay is changed -/
theorem Pl.mut {G H : Hp} {p q a : Addr} {o : HO} (h : Pl G H p q) (ga : G a = none) (np : a ≠ p) (nq : a ≠ q) : Pl G (upd H a o) p q := by
  obtain ⟨n, cs, h1, h2, r⟩ := h.at_
  exact ⟨Ex.mut h.ex ga, h.gp, h.gq, h.ne, n, cs, by rw [upd_ne (Ne.symm np)]; exact h1, by rw [upd_ne (Ne.symm nq)]; exact h2, r⟩
/-- what an object holds now stays for a while -/
theorem Pl.hold {G H : Hp} {p q a : Addr} {o : HO} (h : Pl G H p q) (ha : H a = some o) (np : a ≠ p) (nq : a ≠ q) : Pl (upd G a o) H p q := by
  refine ⟨fun b u hb => ?_, by rw [upd_ne (Ne.symm np)]; exact h.gp, by rw [upd_ne (Ne.symm nq)]; exact h.gq, h.ne, h.at_⟩
  by_cases c : b = a
  · rw [c, upd_same] at hb
    cases hb
    rw [c]
    exact ha
  · rw [upd_ne c] at hb
    exact h.ex _ _ hb
/-- less stays -/
theorem Pl.less {G G' H : Hp} {p q : Addr} (h : Pl G H p q) (e : Ex G' G) : Pl G' H p q := ⟨e.trans h.ex, fresh_back e h.gp, fresh_back e h.gq, h.ne, h.at_⟩
theorem Ex.upd2 {G : Hp} {a : Addr} {o : HO} (h : G a = none) : Ex G (upd G a o) := Ex.new h
/-- all but the pool stays -/
def Off (p q : Addr) (H H' : Hp) : Prop := ∀ b o, b ≠ p → b ≠ q → H b = some o → H' b = some o
theorem Off.refl (p q : Addr) (H : Hp) : Off p q H H := fun _ _ _ _ h => h
theorem Off.trans {p q : Addr} {H H1 H2 : Hp} (a : Off p q H H1) (b : Off p q H1 H2) : Off p q H H2 := fun c o h1 h2 h => b c o h1 h2 (a c o h1 h2 h)
theorem Off.ex {p q : Addr} {H H1 : Hp} (e : Ex H H1) : Off p q H H1 := fun c o _ _ h => e c o h
open Classical in
noncomputable def Hd (H : Hp) (p q : Addr) : Hp := fun b => if b = p ∨ b = q then none else H b
theorem hd_none {H : Hp} {p q a : Addr} (h : Hd H p q a = none) (hp : a ≠ p) (hq : a ≠ q) : H a = none := by
  unfold Hd at h
  rw [if_neg (by simp [hp, hq])] at h
  exact h
theorem Pl.hd {G H : Hp} {p q : Addr} (h : Pl G H p q) : Pl (Hd H p q) H p q :=
  ⟨fun b o hb => by
    unfold Hd at hb
    split at hb
    · cases hb
    · exact hb, by unfold Hd; rw [if_pos (.inl rfl)], by unfold Hd; rw [if_pos (.inr rfl)], h.ne, h.at_⟩
theorem Pl.off {H H' : Hp} {p q : Addr} (h : Pl (Hd H p q) H' p q) : Off p q H H' := fun b o hp hq hb => h.ex b o (by unfold Hd; rw [if_neg (by simp [hp, hq])]; exact hb)
theorem Pl.back {G H H' : Hp} {p q : Addr} (h0 : Pl G H p q) (h : Pl (Hd H p q) H' p q) : Pl G H' p q := h.less fun b o hb => by
  have hp : b ≠ p := fun z => by rw [z, h0.gp] at hb; cases hb
  have hq : b ≠ q := fun z => by rw [z, h0.gq] at hb; cases hb
  unfold Hd
  rw [if_neg (by simp [hp, hq])]
  exact h0.ex _ _ hb
theorem eraseIdx_mp {α β : Type} (f : α → β) : ∀ (l : List α) (k : Nat), (l.map f).eraseIdx k = (l.eraseIdx k).map f
  | [], _ => rfl
  | _ :: _, 0 => rfl
  | x :: l, k + 1 => by
    show f x :: (l.map f).eraseIdx k = f x :: (l.eraseIdx k).map f
    rw [eraseIdx_mp f l k]
theorem seqIx {k n : Nat} (h : k < n) : seqIndex? (k : Int) n = some k := by
  have q := ixN_seq (n := n) (i := (k : Int)) (j := k) (by
    unfold ixN
    rw [if_pos (by omega), if_pos (by omega)]
    simp)
  exact q.1
theorem ix_listK {X : Cx} {K : PySem.W.Frag} (hK : X.K = K) : IxR X (rIxL K) := by
  subst hK
  exact ix_list
theorem ixNat {n : Nat} {x : Int} (h0 : 0 ≤ x) (h1 : x < n) : ixN n x = some x.toNat := by
  unfold ixN
  rw [if_pos h0, if_pos h1]
theorem at_ints {os : List Int} {j : Nat} (h : j < os.length) : atI (os.map V.int) (j : Int) = some (.int os[j]) := atI_nat (by rw [List.getElem?_map, List.getElem?_eq_getElem h]; rfl)
theorem g_name {i : Nat} {x : V} {σ : L2.St} {H : Hp} {k : L2.St → Hp → Prop} (h : k (σ.set i (some x)) H) : gName i x σ H k := h
theorem asg_lst1 {te : TE} {g : TG} {D : Ends} {σ : L2.St} {H : Hp} (h : te σ H fun x H1 => 1 ≤ sizeLine ∧ ∀ b, H1 b = none → g (.ref b) σ (upd H1 b (.lst [x])) D.nx) : tAsg (tLst (tCons te tNil)) g D σ H := h
theorem cb1 {r : List V → Hp → VK → Prop} {ta : TE} {σ : L2.St} {H : Hp} {Q : VK} (h : ta σ H fun x H1 => r [x] H1 Q) : tCB r (tCons ta tNil) σ H Q := h
theorem q_c {i : Nat} {v : V} {tz : TS} {D : Ends} {σ : L2.St} {H : Hp} (h : tz D (σ.set i (some v)) H) : tSeq (tAsg (tC v) (gName i)) tz D σ H := h
theorem call_tupleK {X : Cx} {K : PySem.W.Frag} (hK : X.K = K) : CallR X (.type "tuple") (fun xs H Q => ∃ p ys, xs = [.ref p] ∧ ((SqL K H p ys ∧ ∀ l, H l = none → Q (.ref l) (upd H l (.tup ys))) ∨ (SqT K H p ys ∧ Q (.ref p) H))) := by
  subst hK
  exact call_tuple_of
theorem ret_cb {r : List V → Hp → VK → Prop} {ta : TE} {D : Ends} {σ : L2.St} {H : Hp} (h : ta σ H fun x H1 => r [x] H1 D.rt) : tRet (tCB r (tCons ta tNil)) D σ H := h
/-! what stays grows by new things only -/
structure Gr (p q : Addr) (G H G' H' : Hp) : Prop where
  ex : Ex G G'
  nw : ∀ b, G b = none → H b ≠ none → G' b = none
  off : Off p q H H'
  pl : Pl G' H' p q
theorem Gr.refl {p q : Addr} {G H : Hp} (h : Pl G H p q) : Gr p q G H G H := ⟨Ex.refl _, fun _ h _ => h, Off.refl _ _ _, h⟩
theorem Gr.trans {p q : Addr} {G H G1 H1 G2 H2 : Hp} (a : Gr p q G H G1 H1) (b : Gr p q G1 H1 G2 H2) : Gr p q G H G2 H2 := by
  refine ⟨a.ex.trans b.ex, fun c hc hh => ?_, a.off.trans b.off, b.pl⟩
  by_cases cp : c = p
  · rw [cp]; exact b.pl.gp
  by_cases cq : c = q
  · rw [cq]; exact b.pl.gq
  refine b.nw c (a.nw c hc hh) ?_
  cases hx : H c with
  | none => exact absurd hx hh
  | some o => rw [a.off c o cp cq hx]; simp
theorem Gr.new {p q t : Addr} {G H : Hp} {o : HO} (h : Pl G H p q) (ht : H t = none) : Gr p q G H (upd G t o) (upd H t o) := by
  refine ⟨Ex.new (fresh_back h.ex ht), fun b hb hh => ?_, Off.ex (Ex.new ht), h.new ht⟩
  have nb : b ≠ t := fun z => hh (by rw [z]; exact ht)
  rw [upd_ne nb]
  exact hb
theorem Gr.ext {p q : Addr} {G H H' : Hp} (h : Pl G H p q) (e : Ex H H') : Gr p q G H G H' := ⟨Ex.refl _, fun _ h _ => h, Off.ex e, h.ext e⟩
theorem Gr.draw {p q : Addr} {G H H' : Hp} (h : Pl G H p q) (h' : Pl (Hd H p q) H' p q) : Gr p q G H G H' := ⟨Ex.refl _, fun _ h _ => h, h'.off, h.back h'⟩
/-! displays -/
def EvDt (p q : Addr) (te : TE) (σ : L2.St) (d : PyData) : Prop := ∀ G H, Pl G H p q → ∀ Q : VK, (∀ G' H' v, Gr p q G H G' H' → Dq G' v d → Q v H') → te σ H Q
def EvDA (p q : Addr) (ta : TA) (σ : L2.St) (ds : List PyData) : Prop := ∀ G H, Pl G H p q → ∀ Q : List V → Hp → Prop, (∀ G' H' vs, Gr p q G H G' H' → DqA G' vs ds → Q vs H') → ta σ H Q
section
variable {p q : Addr} {σ : L2.St} {te tb : TE} {ta : TA} {d : PyData} {ds es : List PyData}
theorem ed_c {v : V} (h : ∀ G, Dq G v d) : EvDt p q (tC v) σ d := fun G H hP Q k => k G H v (Gr.refl hP) (h G)
theorem ed_int {i : Nat} {x : Int} (h : σ[i]? = some (some (.int x))) : EvDt p q (tVar i) σ (.int x) := fun G H hP Q k => ⟨.int x, h, k G H _ (Gr.refl hP) (.int x)⟩
theorem ed_nil : EvDA p q tNil σ [] := fun G H hP Q k => k G H [] (Gr.refl hP) .nil
theorem ed_cons (h : EvDt p q te σ d) (hr : EvDA p q ta σ ds) : EvDA p q (tCons te ta) σ (d :: ds) := fun G H hP Q k =>
  h G H hP _ fun G1 H1 v g1 hv => hr G1 H1 g1.pl _ fun G2 H2 vs g2 hvs => k G2 H2 (v :: vs) (g1.trans g2) (.cons (hv.mono g2.ex) hvs)
theorem ed_tup (h : EvDA p q ta σ ds) (hl : ds.length ≤ 1000) : EvDt p q (tTup ta) σ (.tuple ds) := fun G H hP Q k =>
  h G H hP _ fun G1 H1 vs g1 hvs => ⟨by have := hvs.length; rw [sizeLine_eq]; omega, fun t ht => k (upd G1 t (.tup vs)) _ (.ref t) (g1.trans (Gr.new g1.pl ht)) (.tup upd_same (hvs.mono (Gr.new (o := .tup vs) g1.pl ht).ex))⟩
theorem ed_lst (h : EvDA p q ta σ ds) (hl : ds.length ≤ 1000) : EvDt p q (tLst ta) σ (.list ds) := fun G H hP Q k =>
  h G H hP _ fun G1 H1 vs g1 hvs => ⟨by have := hvs.length; rw [sizeLine_eq]; omega, fun t ht => k (upd G1 t (.lst vs)) _ (.ref t) (g1.trans (Gr.new g1.pl ht)) (.lst upd_same (hvs.mono (Gr.new (o := .lst vs) g1.pl ht).ex))⟩
theorem ed_dict : EvDt p q tDNewK σ (.dict []) := fun G H hP Q k t ht => k (upd G t (.dK [])) _ (.ref t) (Gr.new hP ht) (.dic upd_same)
/-- things + [..] -/
theorem ed_cat (G0 : Hp) {v : V} {i : Nat} (hv : σ[i]? = some (some v)) (h0 : Dq G0 v (.list ds)) (hb : EvDt p q tb σ (.list es)) (hl : ds.length + es.length ≤ 1000) {H : Hp} (hP : Pl G0 H p q) {Q : VK} (k : ∀ G' H' v, Gr p q G0 H G' H' → Dq G' v (.list (ds ++ es)) → Q v H') : tOp rCat (tVar i) tb σ H Q := by
  refine ⟨v, hv, hb G0 H hP _ fun G1 H1 u g1 hu => ?_⟩
  have h1 := h0.mono g1.ex
  cases h1 with
  | lst a1 a2 =>
    cases hu with
    | lst b1 b2 =>
      rename_i aa xs ab ys
      have l1 := a2.length
      have l2 := b2.length
      refine ⟨aa, ab, xs, ys, rfl, rfl, g1.pl.ex _ _ a1, g1.pl.ex _ _ b1, by rw [sizeLine_eq]; omega, fun t ht => ?_⟩
      have gn := Gr.new (o := .lst (xs ++ ys)) g1.pl ht
      exact k _ _ (.ref t) (g1.trans gn) (.lst upd_same ((a2.append b2).mono gn.ex))
end
theorem q_asgD {p q : Addr} {i : Nat} {te : TE} {tz : TS} {D : Ends} {σ : L2.St} {G H : Hp} {d : PyData} (h : EvDt p q te σ d) (hP : Pl G H p q) (k : ∀ G' H' v, Gr p q G H G' H' → Dq G' v d → tz D (σ.set i (some v)) H') : tSeq (tAsg te (gName i)) tz D σ H := h G H hP _ k
theorem q_catD {p q : Addr} {i j : Nat} {tb : TE} {tz : TS} {D : Ends} {σ : L2.St} {H : Hp} {ds es : List PyData} (G0 : Hp) {v : V} (hv : σ[i]? = some (some v)) (h0 : Dq G0 v (.list ds)) (hb : EvDt p q tb σ (.list es)) (hl : ds.length + es.length ≤ 1000) (hP : Pl G0 H p q) (k : ∀ G' H' v, Gr p q G0 H G' H' → Dq G' v (.list (ds ++ es)) → tz D (σ.set j (some v)) H') : tSeq (tAsg (tOp rCat (tVar i) tb) (gName j)) tz D σ H := ed_cat G0 hv h0 hb hl hP k
theorem DqA.set {G : Hp} {v : V} {d : PyData} (hv : Dq G v d) : ∀ {ds : List PyData} {vs : List V} (i : Nat), DqA G vs ds → DqA G (vs.set i v) (ds.set i d)
  | [], _, i, .nil => by simp; exact .nil
  | _ :: _, _, 0, .cons h t => .cons hv t
  | _ :: _, _, i + 1, .cons h t => .cons h (DqA.set hv i t)
theorem DqA.erase {G : Hp} : ∀ {ds : List PyData} {vs : List V} (i : Nat), DqA G vs ds → DqA G (vs.eraseIdx i) (ds.eraseIdx i)
  | [], _, i, .nil => by simp; exact .nil
  | _ :: _, _, 0, .cons h t => t
  | _ :: _, _, i + 1, .cons h t => .cons h (DqA.erase i t)
theorem layAll : ∀ {ds : List PyData}, PyData.canLayAll0 ds = true ↔ ∀ d ∈ ds, d.canLay0 = true
  | [] => by simp [PyData.canLayAll0]
  | d :: ds => by
    have ih := layAll (ds := ds)
    simp [PyData.canLayAll0, ih]
theorem depAll {k : Nat} : ∀ {ds : List PyData}, PyData.depthAll ds ≤ k ↔ ∀ d ∈ ds, d.depth ≤ k
  | [] => by simp [PyData.depthAll]
  | d :: ds => by
    have ih := depAll (k := k) (ds := ds)
    simp only [PyData.depthAll, List.mem_cons, forall_eq_or_imp, ← ih]
    omega
theorem cut_from (xs : List V) (i : Nat) (h : i ≤ xs.length) : cutV xs (some (i : Int)) none = xs.drop i := by
  unfold cutV
  rw [HT.sIx_nat, HT.sIx_none, Nat.min_eq_left h]
  exact List.take_of_length_le (by simp)
theorem call_listK {X : Cx} {K : PySem.W.Frag} (hK : X.K = K) : CallR X (.type "list") (rListS K) := by
  subst hK
  exact call_list_of
theorem ret_op {r : R2} {ta tb : TE} {D : Ends} {σ : L2.St} {H : Hp} (h : ta σ H fun x H1 => tb σ H1 fun y H2 => r x y H2 D.rt) : tRet (tOp r ta tb) D σ H := h
theorem call_listK2 {X : Cx} {K : PySem.W.Frag} (hK : X.K = K) : CallR X (.type "list") (fun xs H Q => ∃ p ys, xs = [.ref p] ∧ (SqL K H p ys ∨ SqT K H p ys) ∧ ∀ l, H l = none → Q (.ref l) (upd H l (.lst ys))) := by
  subst hK
  exact call_list_of
theorem smp_ints (ns : List Int) (h : ns.length ≤ 100) : Smp 1 (.tuple (ns.map PyData.int)) := .tup 0 _ (fun d hd => by
  obtain ⟨i, _, rfl⟩ := List.mem_map.mp hd
  exact .int 0 i) (by rw [List.length_map]; exact h)
theorem smp_row {n r : Int} {d : PyData} (h : rowB n r d = true) : Smp 2 d := by
  obtain ⟨ws, rfl, _, hl, h1, h2⟩ := row_lay h
  refine .tup 1 ws (fun w hw => ?_) (by omega)
  by_cases hr : r = 0
  · rw [h2 hr] at hw
    cases hw
  · have := way_ints (List.all_eq_true.mp (h1 hr) w hw)
    rw [this.1]
    exact smp_ints _ (by omega)
theorem due_good {rows : List PyData} (h : dueD (.tuple rows) = none) : 2 ≤ rows.length ∧ rows.length ≤ 8 ∧ Good rows := by
  obtain ⟨_, h1, h2, h3⟩ := due_none h
  refine ⟨h1, h2, ?_⟩
  unfold due2 at h3
  cases hf : fb ((itemsT (.tuple rows)).length : Int) 0 (itemsT (.tuple rows)) with
  | some r => rw [hf] at h3; cases h3
  | none => exact fb_Good hf
/-- for x in a list that is made on the way -/
theorem q_forC {K : PySem.W.Frag} {tl : TE} {g : TG} {tu tz : TS} {D : Ends} {σ : L2.St} {H : Hp} (C : Addr → List V → Hp → Prop) (h : ∀ Q : VK, (∀ l xs H1, C l xs H1 → Q (.ref l) H1) → tl σ H Q)
    (hC : ∀ l xs H1, C l xs H1 → SqL K H1 l xs ∧ ∃ Pv : Nat → L2.St → Hp → Prop, Pv 0 σ H1 ∧ (∀ i σ' H', i ≤ xs.length → Pv i σ' H' → SqL K H' l xs) ∧ (∀ i x σ' H', xs[i]? = some x → Pv i σ' H' → g x σ' H' fun σ2 H2 => tu { D with nx := Pv (i + 1), ct := Pv (i + 1), bk := tz D } σ2 H2) ∧ (∀ σ' H', Pv xs.length σ' H' → tz D σ' H')) : tSeq (tFor (iList K tl) g tu) tz D σ H :=
  h _ fun l xs H1 c => by
    obtain ⟨hs, Pv, h0, hl, ht, hd⟩ := hC l xs H1 c
    exact ⟨l, rfl, ⟨xs, hs⟩, for_list Pv h0 hl ht hd⟩
end Wk

set_option Elab.async false
set_option linter.all false
set_option maxRecDepth 100000
set_option maxHeartbeats 2000000
namespace Wk
open PySem PySem.Spec PyProof.Rows L2 Evl
/-! lists of ways, as plain rows of ints -/
abbrev Wy := List Int
def wd (w : Wy) : PyData := .tuple (w.map PyData.int)
def rd (row : List Wy) : PyData := .tuple (row.map wd)
def pd (rows : List (List Wy)) : PyData := .tuple (rows.map rd)
/-- a way of router r below n -/
structure WyOk (n r : Nat) (w : Wy) : Prop where
  l2 : 2 ≤ w.length
  l8 : w.length ≤ 8
  hd : w[0]? = some (r : Int)
  lt : w.getLast? = some 0
  nd : w.Nodup
  rg : ∀ x ∈ w, 0 ≤ x ∧ x < (n : Int)
/-- good lists -/
structure GW (rows : List (List Wy)) : Prop where
  goal : ∀ row, rows[0]? = some row → row = []
  nd : ∀ (i : Nat) (row : List Wy), rows[i]? = some row → row.Nodup
  ok : ∀ (i : Nat) (row : List Wy), rows[i]? = some row → ∀ w ∈ row, WyOk rows.length i w
  rest : ∀ (i : Nat) (row : List Wy), rows[i]? = some row → ∀ w ∈ row, w.drop 1 = [0] ∨ ∃ (j : Nat) (row' : List Wy), w[1]? = some (j : Int) ∧ rows[j]? = some row' ∧ w.drop 1 ∈ row'
theorem rts_wd (w : Wy) : rts (wd w) = w := by
  simp [rts, wd, itemsT, valI, Function.comp_def]
theorem wayB_of {n r : Nat} {w : Wy} (h : WyOk n r w) : wayB (n : Int) (r : Int) (wd w) = true := by
  have e : (itemsT (wd w)).map valI = w := rts_wd w
  have hl : (itemsT (wd w)).length = w.length := by simp [wd, itemsT]
  have ha : (itemsT (wd w)).all (isR (n : Int)) = true := by
    rw [List.all_eq_true]
    intro d hd
    simp only [wd, itemsT, List.mem_map] at hd
    obtain ⟨x, hx, rfl⟩ := hd
    have := h.rg x hx
    show (true && (decide (0 ≤ x) && decide (x ≤ (n : Int) - 1))) = true
    rw [decide_eq_true this.1, decide_eq_true (show x ≤ (n : Int) - 1 by omega)]
    rfl
  unfold wayB
  rw [e, hl, ha, decide_eq_true h.l2, decide_eq_true h.l8, decide_eq_true h.hd, decide_eq_true h.lt, decide_eq_true h.nd]
  rfl
theorem wd_inj {a b : Wy} (h : wd a = wd b) : a = b := by
  rw [← rts_wd a, ← rts_wd b, h]
theorem map_rts (row : List Wy) : (row.map wd).map rts = row := by
  rw [List.map_map]
  exact (List.map_congr_left fun w _ => rts_wd w).trans (List.map_id row)
theorem rowB_of {rows : List (List Wy)} (h : GW rows) (h6 : ∀ row ∈ rows, row.length ≤ 6) {i : Nat} {row : List Wy} (e : rows[i]? = some row) : rowB (rows.length : Int) (i : Int) (rd row) = true := by
  have hi : itemsT (rd row) = row.map wd := rfl
  have hl : (itemsT (rd row)).length = row.length := by rw [hi, List.length_map]
  unfold rowB
  rw [hl, decide_eq_true (h6 row (List.mem_of_getElem? e)), hi, map_rts]
  by_cases c : (i : Int) = 0
  · rw [if_pos c]
    have i0 : i = 0 := by omega
    subst i0
    rw [h.goal row e]
    rfl
  · rw [if_neg c, decide_eq_true (h.nd i row e)]
    have ha : (row.map wd).all (wayB (rows.length : Int) (i : Int)) = true := by
      rw [List.all_eq_true]
      intro d hd
      obtain ⟨w, hw, rfl⟩ := List.mem_map.mp hd
      exact wayB_of (h.ok i row e w hw)
    rw [ha]
    rfl
theorem eqv_wd (a b : Wy) : PyData.eqv (wd a) (wd b) = decide (a = b) := eqv_ints a b
theorem getD_rows {rows : List (List Wy)} {j : Nat} {row : List Wy} (h : rows[j]? = some row) : (rows.map rd).getD j .none = rd row := by
  rw [List.getD_eq_getElem?_getD, List.getElem?_map, h]
  rfl
theorem restB_of {rows : List (List Wy)} (h : GW rows) {i : Nat} {row : List Wy} (e : rows[i]? = some row) {w : Wy} (hw : w ∈ row) : restB (rows.map rd) (wd w) = true := by
  unfold restB
  rw [rts_wd]
  have ok := h.ok i row e w hw
  rcases h.rest i row e w hw with z | ⟨j, row', h1, h2, h3⟩
  · have e1 : w.getD 1 0 = 0 := by
      have : w[1]? = some 0 := by
        have q : (w.drop 1)[0]? = some 0 := by rw [z]; rfl
        rw [List.getElem?_drop] at q
        exact q
      rw [List.getD_eq_getElem?_getD, this]
      rfl
    rw [e1]
    rfl
  · have e1 : w.getD 1 0 = (j : Int) := by rw [List.getD_eq_getElem?_getD, h1]; rfl
    rw [e1, Int.toNat_natCast, getD_rows h2]
    have : (itemsT (rd row')).any (fun z => PyData.eqv z (.tuple ((w.drop 1).map PyData.int))) = true := by
      rw [List.any_eq_true]
      refine ⟨wd (w.drop 1), List.mem_map.mpr ⟨_, h3, rfl⟩, ?_⟩
      show PyData.eqv (wd (w.drop 1)) (wd (w.drop 1)) = true
      rw [eqv_wd, decide_eq_true rfl]
    rw [this, Bool.or_true]
theorem fb_none {n : Int} : ∀ {ds : List PyData} {j : Nat}, (∀ (i : Nat) (d : PyData), ds[i]? = some d → rowB n ((j + i : Nat) : Int) d = true) → fb n j ds = none
  | [], _, _ => rfl
  | d :: ds, j, h => by
    have h0 := h 0 d rfl
    rw [Nat.add_zero] at h0
    unfold fb
    rw [if_pos h0]
    exact fb_none fun i d' e => by
      have q := h (i + 1) d' (by simpa using e)
      rw [show j + 1 + i = j + (i + 1) by omega]
      exact q
theorem sb_none {rows : List PyData} : ∀ {ds : List PyData} {j : Nat}, (∀ d ∈ ds, (itemsT d).all (restB rows) = true) → sb rows j ds = none
  | [], _, _ => rfl
  | d :: ds, j, h => by
    unfold sb
    rw [if_pos (h d List.mem_cons_self)]
    exact sb_none fun x hx => h x (List.mem_cons_of_mem _ hx)
/-- good lists are let -/
theorem due_pd {rows : List (List Wy)} (h : GW rows) (h2 : 2 ≤ rows.length) (h8 : rows.length ≤ 8) (h6 : ∀ row ∈ rows, row.length ≤ 6) : dueD (pd rows) = none := by
  have hl : (itemsT (pd rows)).length = rows.length := by simp [pd, itemsT]
  unfold dueD
  rw [if_pos ⟨rfl, by rw [hl]; exact h2, by rw [hl]; exact h8⟩]
  unfold due2
  rw [hl]
  have hf : fb (rows.length : Int) 0 (itemsT (pd rows)) = none := fb_none fun i d e => by
    have e' : (rows.map rd)[i]? = some d := e
    rw [List.getElem?_map] at e'
    cases hr : rows[i]? with
    | none => rw [hr] at e'; cases e'
    | some row =>
      rw [hr] at e'
      cases e'
      rw [Nat.zero_add]
      exact rowB_of h h6 hr
  rw [hf]
  refine sb_none fun d hd => ?_
  obtain ⟨row, hr, rfl⟩ := List.mem_map.mp (show d ∈ rows.map rd from hd)
  rw [List.all_eq_true]
  intro x hx
  obtain ⟨w, hw, rfl⟩ := List.mem_map.mp (show x ∈ row.map wd from hx)
  obtain ⟨i, hi⟩ := List.mem_iff_getElem?.mp hr
  exact restB_of h hi hw
/-- an order: 0 first, unlike routers -/
structure OsOk (n : Nat) (os : List Int) : Prop where
  len : os.length = n
  nd : os.Nodup
  hd : os[0]? = some 0
  rg : ∀ x ∈ os, 0 ≤ x ∧ x < (n : Int)
theorem OsOk.ne {n : Nat} {os : List Int} (h : OsOk n os) {i j : Nat} {x : Int} (hi : os[i]? = some x) (hj : os[j]? = some x) : i = j := by
  have hil := (List.getElem?_eq_some_iff.mp hi).1
  exact (List.getElem?_inj hil h.nd).mp (hi.trans hj.symm)
/-- a way more in the row of r -/
theorem gw_add {rows : List (List Wy)} (h : GW rows) {r : Nat} {row : List Wy} (hr : rows[r]? = some row) (h0 : r ≠ 0) {b : Wy} (hb : b = [0] ∨ ∃ (j : Nat) (row' : List Wy), rows[j]? = some row' ∧ b ∈ row') (hn : (r : Int) ∉ b) (hl : b.length ≤ 7) (hw : ((r : Int) :: b) ∉ row) (i : Nat) :
    GW (rows.set r (row.take i ++ [(r : Int) :: b] ++ row.drop i)) := by
  have hrl := (List.getElem?_eq_some_iff.mp hr).1
  have hmem : ∀ w, w ∈ row.take i ++ [(r : Int) :: b] ++ row.drop i ↔ w ∈ row ∨ w = (r : Int) :: b := fun w => by
    have q : w ∈ row ↔ w ∈ row.take i ∨ w ∈ row.drop i := by
      rw [← List.mem_append, List.take_append_drop]
    simp only [List.mem_append, List.mem_singleton, q]
    constructor
    · rintro ((z | z) | z)
      · exact .inl (.inl z)
      · exact .inr z
      · exact .inl (.inr z)
    · rintro ((z | z) | z)
      · exact .inl (.inl z)
      · exact .inr z
      · exact .inl (.inr z)
  have hget : ∀ (k : Nat) (row' : List Wy), (rows.set r (row.take i ++ [(r : Int) :: b] ++ row.drop i))[k]? = some row' → (k = r ∧ row' = row.take i ++ [(r : Int) :: b] ++ row.drop i) ∨ (k ≠ r ∧ rows[k]? = some row') := fun k row' e => by
    by_cases c : r = k
    · subst c
      rw [List.getElem?_set_self hrl] at e
      exact .inl ⟨rfl, (Option.some.inj e).symm⟩
    · rw [List.getElem?_set_ne c] at e
      exact .inr ⟨fun z => c z.symm, e⟩
  have hup : ∀ (k : Nat) (row' : List Wy) (w : Wy), rows[k]? = some row' → w ∈ row' → ∃ row2, (rows.set r (row.take i ++ [(r : Int) :: b] ++ row.drop i))[k]? = some row2 ∧ w ∈ row2 := fun k row' w e hm => by
    by_cases c : r = k
    · subst c
      rw [hr] at e
      cases e
      exact ⟨_, List.getElem?_set_self hrl, (hmem w).mpr (.inl hm)⟩
    · exact ⟨row', by rw [List.getElem?_set_ne c]; exact e, hm⟩
  have hlen : (rows.set r (row.take i ++ [(r : Int) :: b] ++ row.drop i)).length = rows.length := List.length_set ..
  have hbok : WyOk rows.length r ((r : Int) :: b) := by
    have hrg0 : (0 : Int) ≤ r ∧ (r : Int) < rows.length := ⟨by omega, by omega⟩
    rcases hb with rfl | ⟨j, row', hj, hbj⟩
    · refine ⟨by simp, by simp, rfl, rfl, ?_, fun x hx => ?_⟩
      · exact List.nodup_cons.mpr ⟨hn, by simp⟩
      · rcases List.mem_cons.mp hx with z | z
        · rw [z]; exact hrg0
        · rw [List.mem_singleton.mp z]; omega
    · have ok := h.ok j row' hj b hbj
      refine ⟨by have := ok.l2; simp; omega, by simp; omega, rfl, ?_, List.nodup_cons.mpr ⟨hn, ok.nd⟩, fun x hx => ?_⟩
      · cases b with
        | nil => have := ok.l2; simp at this
        | cons y l => rw [List.getLast?_cons_cons]; exact ok.lt
      · rcases List.mem_cons.mp hx with z | z
        · rw [z]; exact hrg0
        · exact ok.rg x z
  refine ⟨fun row' e => ?_, fun k row' e => ?_, fun k row' e w hm => ?_, fun k row' e w hm => ?_⟩
  · rcases hget 0 row' e with ⟨z, _⟩ | ⟨_, z⟩
    · exact absurd z.symm h0
    · exact h.goal row' z
  · rcases hget k row' e with ⟨_, z⟩ | ⟨_, z⟩
    · rw [z]
      have nd := h.nd r row hr
      have p1 : (row.take i ++ [(r : Int) :: b] ++ row.drop i).Perm (((r : Int) :: b) :: row) := by
        have p2 : (row.take i ++ [(r : Int) :: b] ++ row.drop i).Perm ([(r : Int) :: b] ++ row.take i ++ row.drop i) := List.Perm.append_right _ List.perm_append_comm
        have e2 : [(r : Int) :: b] ++ row.take i ++ row.drop i = ((r : Int) :: b) :: row := by
          rw [List.append_assoc, List.take_append_drop]
          rfl
        rw [e2] at p2
        exact p2
      exact p1.nodup_iff.mpr (List.nodup_cons.mpr ⟨hw, nd⟩)
    · exact h.nd k row' z
  · rw [hlen]
    rcases hget k row' e with ⟨z1, z2⟩ | ⟨_, z⟩
    · subst z1
      rw [z2] at hm
      rcases (hmem w).mp hm with y | y
      · exact h.ok k row hr w y
      · rw [y]; exact hbok
    · exact h.ok k row' z w hm
  · have key : ∀ (k' : Nat) (row'' : List Wy), rows[k']? = some row'' → w ∈ row'' → w.drop 1 = [0] ∨ ∃ (j : Nat) (row2 : List Wy), w[1]? = some (j : Int) ∧ (rows.set r (row.take i ++ [(r : Int) :: b] ++ row.drop i))[j]? = some row2 ∧ w.drop 1 ∈ row2 := fun k' row'' e' hm' => by
      rcases h.rest k' row'' e' w hm' with y | ⟨j, row3, y1, y2, y3⟩
      · exact .inl y
      · obtain ⟨row4, y4, y5⟩ := hup j row3 _ y2 y3
        exact .inr ⟨j, row4, y1, y4, y5⟩
    rcases hget k row' e with ⟨z1, z2⟩ | ⟨_, z⟩
    · subst z1
      rw [z2] at hm
      rcases (hmem w).mp hm with y | y
      · exact key k row hr y
      · rw [y]
        rcases hb with rfl | ⟨j, row3, hj, hbj⟩
        · exact .inl rfl
        · obtain ⟨row4, y4, y5⟩ := hup j row3 b hj hbj
          exact .inr ⟨j, row4, by show b[0]? = _; exact (h.ok j row3 hj b hbj).hd, y4, y5⟩
    · exact key k row' z hm
end Wk

set_option Elab.async false
set_option linter.all false
set_option maxRecDepth 100000
set_option maxHeartbeats 2000000
namespace Wk
open PySem PySem.Spec PyProof.Rows L2 Evl
section
variable {P : Program} {w : World} {K : PySem.W.Frag} {mg : Str → Option Value} {base : Heap} {f : Addr} {fd : FuncData}
/-! _law_pool -/
def spPool (K : PySem.W.Frag) : Sp := fun vs H Q _ => ∃ (a : Addr) (ns : List Int), vs = [.ref a] ∧ SqL K H a (ns.map V.int) ∧ ns.length ≤ 63 ∧ ∀ H' p q, Pl H H' p q → Q (.ref p) H'
abbrev sPool : Stmt := top 34
abbrev nPool : List Str := ["_law_script", "_law_cells", "_law_cell"]
theorem scPool : FnScope nPool ["_law_script"] (defScope sPool) := ⟨rfl, rfl, rfl, by decide +kernel, rfl, by decide +kernel, by decide +kernel⟩
theorem ok_pool (B : Bl mg) (F : FnP K "_law_pool" sPool f fd) : FnOk P w K mg base CX0 1 f fd ["_law_script"] (spPool K) := by
  refine F.ok scPool (fun vs H Q E h => ?_) (fun cdv A outer s H vs Q E hr h => ?_)
  · obtain ⟨a, ns, rfl, _⟩ := h
    rfl
  · obtain ⟨a, ns, rfl, hs, hl, k⟩ := h
    have hu0 : (A.deeper (envOfC "_law_pool" (defScope sPool) s.heap.objs.size f cdv)).units < cLine := by have := hr.un; omega
    refine ⟨_, pss_cons (ps_setLc (i := 1) (own := [("_law_cell", 2)]) (g := gName 2) (tt := tYes) rfl scPool.nd rfl rfl (sw_true rfl rfl rfl (by decide +kernel)) (pi_list (pv 0)) (blkOk_by (N := nPool) (sc := defScope sPool) (by decide +kernel))
          (fun _ _ _ _ _ => pg_name (i := 2) scPool.nd rfl (Or.inl rfl)) (fun _ _ _ _ _ => pts_nil)
          (fun _ _ _ _ _ => pe_op op_add (pe_op op_mul pe_int (pe_callB call_abs (by rfl) B.abs boot_abs (pa_cons (pv 2) pa_nil))) (pe_callTy call_int1 (by rfl) B.int PyProof.Rows.boot_int (pa_cons (pe_cmpR op_lt (pv 2) pe_int (nomark _)) pa_nil))))
      (pss_cons (ps_if (pt_cmpR (op_eqEL hu0) (pv 1) (pe_lst pa_nil) (nomark _)) (pss_one (ps_set (i := 1) scPool.nd rfl (Or.inl rfl) (pe_lst (pa_cons pe_int pa_nil)))) pss_nil)
      (pss_one (ps_ret (pe_lst (pa_cons pe_int (pa_cons (pv 1) pa_nil)))))), ?_⟩
    have cell : ∀ (i : Nat) (x : V) (H1 : Hp), Ex H H1 → (ns.map V.int)[i]? = some x → Ev (tOp (rI0 fun i j => .int (i + j)) (tOp (rI CMul fun i j => .int (i * j)) (tC (.int 2)) (tCB (fun xs H Q => ∃ i, xs = [.int i] ∧ Q (.int (if i < 0 then -i else i)) H) (tCons (tVar 2) tNil)))
        (tCB (fun xs H Q => (∃ i, xs = [.int i] ∧ Q (.int i) H) ∨ ∃ k, xs = [.bl k] ∧ Q (.int (if k then 1 else 0)) H) (tCons (tOp (rI0 fun i j => .bl (decide (i < j))) (tVar 2) (tC (.int 0))) tNil))) [some (.ref a), none, some x] H1
        (.int (2 * (if ns.getD i 0 < 0 then -(ns.getD i 0) else ns.getD i 0) + (if decide (ns.getD i 0 < 0) = true then 1 else 0))) := fun i x H1 e hx => by
      rw [List.getElem?_map] at hx
      cases hn : ns[i]? with
      | none => rw [hn] at hx; cases hx
      | some n =>
        rw [hn] at hx
        have ex : x = .int n := (Option.some.inj hx).symm
        subst ex
        rw [show ns.getD i 0 = n by rw [List.getD_eq_getElem?_getD, hn]; rfl]
        refine ev_op (ev_op ev_c (ev_cb (ea_cons (ev_var rfl) ea_nil) fun H2 e2 Q2 q => ⟨n, rfl, q H2 (Ex.refl H2)⟩) (rv_I (.inl ⟨by decide, by decide⟩))) (ev_cb (ea_cons (ev_op (ev_var rfl) ev_c rv_I0) ea_nil) fun H2 e2 Q2 q => .inr ⟨_, rfl, q H2 (Ex.refl H2)⟩) rv_I0
    refine q_asgL (el_lcL (K := K) (j := 2) (vs := [2]) (fun _ => true) (fun i => .int (2 * (if ns.getD i 0 < 0 then -(ns.getD i 0) else ns.getD i 0) + (if decide (ns.getD i 0 < 0) = true then 1 else 0))) (ev_var rfl) hs (by rw [List.length_map]; omega) (fun x => rfl) (fun _ _ _ _ _ => et_yes) (fun i x H1 e hx _ => cell i x H1 e hx)) fun p1 H1 hp1 e1 hl1 => ?_
    rw [given_all, List.length_map] at hl1
    generalize hcs : (List.range ns.length).map (fun i => 2 * (if ns.getD i 0 < 0 then -(ns.getD i 0) else ns.getD i 0) + (if decide (ns.getD i 0 < 0) = true then 1 else 0)) = cs
    have hl2 : H1 p1 = some (.lst (cs.map V.int)) := by
      rw [hl1, ← hcs, List.map_map]
      rfl
    have hcl : cs.length = ns.length := by rw [← hcs]; simp
    have fin : ∀ (q : Addr) (H2 : Hp) (ds : List Int) (o : Option V), Ex H H2 → H q = none → H2 q = some (.lst (ds.map V.int)) → ds ≠ [] → ds.length ≤ 63 → tRet (tLst (tCons (tC (.int 0)) (tCons (tVar 1) tNil))) { nx := fun _ H' => Q .non H', rt := Q } [some (.ref a), some (.ref q), o] H2 := fun q H2 ds o e hq h2 hne hle => by
      refine s_retL (el_lst (ea_cons ev_c (ea_cons (ev_var rfl) ea_nil)) (by show 2 ≤ 100000; decide)) fun p H3 hp e3 h3 => k H3 p q ?_
      exact ⟨e.trans e3, fresh_back e hp, hq, (fun z => by rw [z, h2] at hp; cases hp), 0, ds, h3, e3 _ _ h2, hne, hle⟩
    refine q_when (b := (cs.map V.int).isEmpty) (et_test (ev_opL (xs := []) (ev_var rfl) (el_lst ea_nil (by simp)) fun p2 H2 hp2 e2 => fun H3 e3 Q2 q => ⟨p1, p2, _, rfl, rfl, sq_of ((e2.trans e3) _ _ hl2), sq_of (e3 _ _ hp2), q H3 (Ex.refl H3)⟩)) (fun hb H2 e2 => ?_) (fun hb H2 e2 => ?_)
    · refine s_asgL (el_lst (ea_cons ev_c ea_nil) (by show 1 ≤ 100000; decide)) fun p3 H3 hp3 e3 h3 => ?_
      exact fin p3 H3 [0] none ((e1.trans e2).trans e3) (fresh_back (e1.trans e2) hp3) h3 (by simp) (by simp)
    · refine fin p1 H2 cs none (e1.trans e2) hp1 (e2 _ _ hl2) (fun z => ?_) (by omega)
      rw [z] at hb
      simp at hb
/-! _law_draw -/
def spDraw : Sp := fun vs H Q _ => ∃ (G : Hp) (p q : Addr) (z : Int), vs = [.ref p, .int z] ∧ Pl G H p q ∧ 0 < z ∧ z ≤ 1000 ∧ ∀ H' (i : Int), Pl G H' p q → 0 ≤ i → i < z → Q (.int i) H'
abbrev sDraw : Stmt := top 35
abbrev nDraw : List Str := ["_law_pool_here", "_law_size", "_law_place", "_law_cell", "_law_number"]
theorem scDraw : FnScope nDraw ["_law_pool_here", "_law_size"] (defScope sDraw) := ⟨rfl, rfl, rfl, by decide +kernel, rfl, by decide +kernel, by decide +kernel⟩
theorem modP (a b : Int) (h : 0 < b) : 0 ≤ a % b ∧ a % b < b := ⟨Int.emod_nonneg _ (by omega), Int.emod_lt_of_pos _ h⟩
theorem ok_draw (B : Bl mg) (F : FnP K "_law_draw" sDraw f fd) : FnOk P w K mg base CX0 1 f fd ["_law_pool_here", "_law_size"] spDraw := by
  refine F.ok scDraw (fun vs H Q E h => ?_) (fun cdv A outer s H vs Q E hr h => ?_)
  · obtain ⟨G, p, q, z, rfl, _⟩ := h
    rfl
  · obtain ⟨G, p, q, z, rfl, hP, hz, hz2, k⟩ := h
    refine ⟨_, pss_cons (ps_asg (pe_op op_add (pe_ix ix_list (pv 0) pe_int (fun _ _ => rfl)) pe_int) (pg_sub (pv 0) pe_int set_list))
      (pss_cons (ps_set (i := 2) scDraw.nd rfl (Or.inl rfl) (pe_op op_mod (pe_callTy call_int1 (by rfl) B.int PyProof.Rows.boot_int (pa_cons (pe_ix ix_list (pv 0) pe_int (fun _ _ => rfl)) pa_nil)) (pe_callB call_len_seq (by rfl) B.len PySem.boot_len (pa_cons (pe_ix ix_list (pv 0) pe_int (fun _ _ => rfl)) pa_nil))))
      (pss_cons (ps_set (i := 3) scDraw.nd rfl (Or.inl rfl) (pe_ix ix_list (pe_ix ix_list (pv 0) pe_int (fun _ _ => rfl)) (pv 2) (fun _ _ => rfl)))
      (pss_cons (ps_if (pt_cmpR op_ge (pv 3) (pe_op op_pow pe_int pe_int) (nomark _))
          (pss_cons (ps_asg (pe_op op_fdiv (pv 3) (pv 1)) (pg_sub (pe_ix ix_list (pv 0) pe_int (fun _ _ => rfl)) (pv 2) set_list)) (pss_one (ps_ret (pe_op op_mod (pe_callTy call_int1 (by rfl) B.int PyProof.Rows.boot_int (pa_cons (pv 3) pa_nil)) (pv 1))))) pss_nil)
      (pss_cons (ps_set (i := 4) scDraw.nd rfl (Or.inl rfl) (pe_op op_mod (pe_callTy call_int1 (by rfl) B.int PyProof.Rows.boot_int (pa_cons (pe_op op_mul (pe_op op_add (pe_op op_add (pv 3) (pe_op op_mul pe_int (pe_ix ix_list (pv 0) pe_int (fun _ _ => rfl)))) pe_int) pe_int) pa_nil)) pe_int))
      (pss_cons (ps_set (i := 4) scDraw.nd rfl (Or.inl rfl) (pe_op op_mod (pe_callTy call_int1 (by rfl) B.int PyProof.Rows.boot_int (pa_cons (pe_op op_mul (pv 4) (pe_op op_add (pe_op op_fdiv (pv 4) pe_int) pe_int)) pa_nil)) pe_int))
      (pss_cons (ps_set (i := 4) scDraw.nd rfl (Or.inl rfl) (pe_op op_mod (pe_callTy call_int1 (by rfl) B.int PyProof.Rows.boot_int (pa_cons (pe_op op_mul (pv 4) (pe_op op_add (pe_op op_fdiv (pv 4) pe_int) pe_int)) pa_nil)) pe_int))
      (pss_one (ps_ret (pe_op op_mod (pe_callTy call_int1 (by rfl) B.int PyProof.Rows.boot_int (pa_cons (pv 4) pa_nil)) (pv 1)))))))))), ?_⟩
    obtain ⟨n, cs, h1, h2, hne, hle⟩ := hP.at_
    have hcl : 0 < cs.length := List.length_pos_iff.mpr hne
    refine ⟨.ref p, rfl, p, _, 0, .int n, rfl, rfl, sq_of h1, rfl, n, 1, rfl, rfl, .ref p, rfl, p, _, 0, 0, rfl, rfl, h1, rfl, ?_⟩
    -- the count is set
    generalize hH1 : upd H p (.lst ([V.int n, V.ref q].set 0 (.int (n + 1)))) = H1
    have p1 : H1 p = some (.lst [.int (n + 1), .ref q]) := by rw [← hH1]; exact upd_same
    have q1 : H1 q = some (.lst (cs.map V.int)) := by rw [← hH1, upd_ne (Ne.symm hP.ne)]; exact h2
    have P1 : Pl G H1 p q := ⟨by rw [← hH1]; exact Ex.mut hP.ex hP.gp, hP.gp, hP.gq, hP.ne, n + 1, cs, p1, q1, hne, hle⟩
    have pl0 := modP (n + 1) ((cs.map V.int).length : Int) (by rw [List.length_map]; omega)
    rw [List.length_map] at pl0
    obtain ⟨j, hj⟩ : ∃ j : Nat, (n + 1) % ((cs.map V.int).length : Int) = (j : Int) := ⟨((n + 1) % ((cs.map V.int).length : Int)).toNat, by rw [Int.toNat_of_nonneg]; rw [List.length_map]; exact pl0.1⟩
    have hjl : j < cs.length := by rw [List.length_map] at hj; omega
    refine ⟨.ref p, rfl, p, _, 0, .int (n + 1), rfl, rfl, sq_of p1, rfl, .inl ⟨n + 1, rfl, .ref p, rfl, p, _, 1, .ref q, rfl, rfl, sq_of p1, rfl, q, _, rfl, .inl (sq_of q1), n + 1, _, rfl, rfl, by rw [List.length_map]; omega, ?_⟩⟩
    change tSeq _ _ _ [some (.ref p), some (.int z), some (.int ((n + 1) % ((cs.map V.int).length : Int))), none, none] H1
    rw [hj]
    have hcj : (cs.map V.int)[j]? = some (.int cs[j]) := by rw [List.getElem?_map, List.getElem?_eq_getElem hjl]; rfl
    refine ⟨.ref p, rfl, p, _, 1, .ref q, rfl, rfl, sq_of p1, rfl, .int (j : Int), rfl, q, _, j, _, rfl, rfl, sq_of q1, atI_nat hcj, ?_⟩
    change tSeq _ _ _ [some (.ref p), some (.int z), some (.int (j : Int)), some (.int cs[j]), none] H1
    generalize cs[j] = c
    refine ⟨.int c, rfl, 10, 18, rfl, rfl, ⟨by decide, by decide, by decide⟩, c, _, rfl, rfl, _, rfl, ?_⟩
    refine ite2 (fun _ => ?_) (fun _ => ?_)
    · refine ⟨.int c, rfl, .int z, rfl, c, z, rfl, rfl, ⟨hz, by omega⟩, .ref p, rfl, p, _, 1, .ref q, rfl, rfl, sq_of p1, rfl, .int (j : Int), rfl, q, _, (j : Int), j, rfl, rfl, q1, ixN_nat (by rw [List.length_map]; exact hjl), ?_⟩
      have m := modP c z hz
      refine ⟨.int c, rfl, .inl ⟨c, rfl, .int z, rfl, c, z, rfl, rfl, hz, k _ _ ?_ m.1 m.2⟩⟩
      refine ⟨Ex.mut P1.ex hP.gq, hP.gp, hP.gq, hP.ne, n + 1, cs.set j (c / z), by rw [upd_ne hP.ne]; exact p1, by rw [upd_same, List.map_set], fun e => ?_, by rw [List.length_set]; exact hle⟩
      have := congrArg List.length e
      rw [List.length_set] at this
      exact hne (by simpa using this)
    · refine ⟨.int c, rfl, .ref p, rfl, p, _, 0, .int (n + 1), rfl, rfl, sq_of p1, rfl, 7919, n + 1, rfl, rfl, .inl ⟨by decide, by decide⟩, c, _, rfl, rfl, _, 1, rfl, rfl, _, 48271, rfl, rfl, .inr ⟨by decide, by decide⟩, .inl ⟨_, rfl, _, 2147483647, rfl, rfl, (show (0 : Int) < 2147483647 by decide), ?_⟩⟩
      have m1 := modP ((c + 7919 * (n + 1) + 1) * 48271) 2147483647 (by decide)
      change tSeq _ _ _ [some (.ref p), some (.int z), some (.int (j : Int)), some (.int c), some (.int (((c + 7919 * (n + 1) + 1) * 48271) % 2147483647))] H1
      generalize ((c + 7919 * (n + 1) + 1) * 48271) % 2147483647 = y1 at m1 ⊢
      refine ⟨.int y1, rfl, .int y1, rfl, y1, 1009, rfl, rfl, ⟨by decide, by decide⟩, _, 69621, rfl, rfl, y1, _, rfl, rfl, .inl ⟨by omega, by omega⟩, .inl ⟨_, rfl, _, 2147483647, rfl, rfl, (show (0 : Int) < 2147483647 by decide), ?_⟩⟩
      have m2 := modP (y1 * (y1 / 1009 + 69621)) 2147483647 (by decide)
      change tSeq _ _ _ [some (.ref p), some (.int z), some (.int (j : Int)), some (.int c), some (.int ((y1 * (y1 / 1009 + 69621)) % 2147483647))] H1
      generalize (y1 * (y1 / 1009 + 69621)) % 2147483647 = y2 at m2 ⊢
      refine ⟨.int y2, rfl, .int y2, rfl, y2, 2003, rfl, rfl, ⟨by decide, by decide⟩, _, 40692, rfl, rfl, y2, _, rfl, rfl, .inl ⟨by omega, by omega⟩, .inl ⟨_, rfl, _, 2147483399, rfl, rfl, (show (0 : Int) < 2147483399 by decide), ?_⟩⟩
      have m := modP ((y2 * (y2 / 2003 + 40692)) % 2147483399) z hz
      exact ⟨.int ((y2 * (y2 / 2003 + 40692)) % 2147483399), rfl, .inl ⟨_, rfl, .int z, rfl, _, z, rfl, rfl, hz, k _ _ P1 m.1 m.2⟩⟩
end
/-- a draw, as a call -/
theorem ev_draw {G H : Hp} {p q : Addr} {z : Int} {Q : VK} (h : Pl G H p q) (hz : 0 < z) (hz2 : z ≤ 1000) (k : ∀ H' (i : Int), Pl G H' p q → Off p q H H' → 0 ≤ i → i < z → Q (.int i) H') (E : XK) : spDraw [.ref p, .int z] H Q E :=
  ⟨Hd H p q, p, q, z, rfl, h.hd, hz, hz2, fun H' i hP h0 h1 => k H' i (h.back hP) hP.off h0 h1⟩
end Wk

set_option Elab.async false
set_option linter.all false
set_option maxRecDepth 100000
set_option maxHeartbeats 2000000
namespace Wk
open PySem PySem.Spec PyProof.Rows L2 Evl
/-! the list at R of the rows' lists -/
structure Rz (G H : Hp) (p q R : Addr) (rs : List Addr) (rows : List (List Wy)) : Prop where
  at_ : H R = some (.lst (rs.map V.ref))
  gR : G R = none
  Rp : R ≠ p
  Rq : R ≠ q
  nin : R ∉ rs
  nd : rs.Nodup
  len : rs.length = rows.length
  row : ∀ (i : Nat) (r : Addr) (row : List Wy), rs[i]? = some r → rows[i]? = some row → G r = none ∧ r ≠ p ∧ r ≠ q ∧ ∃ vs, H r = some (.lst vs) ∧ DqA G vs (row.map wd)
section
variable {G H H' : Hp} {p q R : Addr} {rs : List Addr} {rows : List (List Wy)}
theorem Rz.off (h : Rz G H p q R rs rows) (o : Off p q H H') : Rz G H' p q R rs rows := by
  refine ⟨o _ _ h.Rp h.Rq h.at_, h.gR, h.Rp, h.Rq, h.nin, h.nd, h.len, fun i r row hr hw => ?_⟩
  obtain ⟨g, rp, rq, vs, h1, h2⟩ := h.row i r row hr hw
  exact ⟨g, rp, rq, vs, o _ _ rp rq h1, h2⟩
theorem Rz.ext (h : Rz G H p q R rs rows) (e : Ex H H') : Rz G H' p q R rs rows := h.off (Off.ex e)
theorem Rz.at (h : Rz G H p q R rs rows) {i : Nat} (hi : i < rows.length) : ∃ r, rs[i]? = some r ∧ r ∈ rs := by
  have hl : i < rs.length := by rw [h.len]; exact hi
  exact ⟨rs[i], List.getElem?_eq_getElem hl, List.getElem_mem hl⟩
theorem Rz.mem (h : Rz G H p q R rs rows) {r : Addr} (hr : r ∈ rs) : G r = none ∧ r ≠ p ∧ r ≠ q ∧ ∃ vs, H r = some (.lst vs) := by
  obtain ⟨i, hi⟩ := List.mem_iff_getElem?.mp hr
  have hl := (List.getElem?_eq_some_iff.mp hi).1
  have hl2 : i < rows.length := by rw [← h.len]; exact hl
  obtain ⟨g, rp, rq, vs, h1, _⟩ := h.row i r _ hi (List.getElem?_eq_getElem hl2)
  exact ⟨g, rp, rq, vs, h1⟩
theorem Rz.new {t : Addr} {o : HO} (h : Rz G H p q R rs rows) (ht : H t = none) (gt : G t = none) : Rz (upd G t o) (upd H t o) p q R rs rows := by
  have h2 := h.ext (Ex.new (o := o) ht)
  have nR : R ≠ t := ne_of_none h.at_ ht
  refine ⟨h2.at_, by rw [upd_ne nR]; exact h.gR, h.Rp, h.Rq, h.nin, h.nd, h.len, fun i r row hr hw => ?_⟩
  obtain ⟨g, rp, rq, vs, h1, hd⟩ := h.row i r row hr hw
  have nr : r ≠ t := ne_of_none h1 ht
  exact ⟨by rw [upd_ne nr]; exact g, rp, rq, vs, by rw [upd_ne nr]; exact h1, hd.mono (Ex.new gt)⟩
theorem Rz.grow {G' : Hp} (h : Rz G H p q R rs rows) (e : Ex G G') (gR : G' R = none) (gr : ∀ r ∈ rs, G' r = none) : Rz G' H p q R rs rows := by
  refine ⟨h.at_, gR, h.Rp, h.Rq, h.nin, h.nd, h.len, fun i r row hr hw => ?_⟩
  obtain ⟨g, rp, rq, vs, h1, hd⟩ := h.row i r row hr hw
  exact ⟨gr r (List.mem_of_getElem? hr), rp, rq, vs, h1, hd.mono e⟩
/-- a row is changed -/
theorem Rz.mut {i : Nat} {r : Addr} {row' : List Wy} {vs : List V} (h : Rz G H p q R rs rows) (hr : rs[i]? = some r) (hd : DqA G vs (row'.map wd)) : Rz G (upd H r (.lst vs)) p q R rs (rows.set i row') := by
  have hm := List.mem_of_getElem? hr
  have nR : R ≠ r := fun z => h.nin (by rw [z]; exact hm)
  have hil : i < rs.length := (List.getElem?_eq_some_iff.mp hr).1
  refine ⟨by rw [upd_ne nR]; exact h.at_, h.gR, h.Rp, h.Rq, h.nin, h.nd, by rw [List.length_set]; exact h.len, fun k r2 row2 h2 w2 => ?_⟩
  by_cases c : i = k
  · subst c
    rw [hr] at h2
    cases h2
    rw [List.getElem?_set_self (by rw [← h.len]; exact hil)] at w2
    cases w2
    obtain ⟨g, rp, rq, _⟩ := h.mem hm
    exact ⟨g, rp, rq, vs, upd_same, hd⟩
  · rw [List.getElem?_set_ne c] at w2
    obtain ⟨g, rp, rq, vs2, h3, h4⟩ := h.row k r2 row2 h2 w2
    have nr : r2 ≠ r := fun z => c ((List.getElem?_inj hil h.nd).mp (by rw [hr, h2, z]))
    exact ⟨g, rp, rq, vs2, by rw [upd_ne nr]; exact h3, h4⟩
theorem nodup_set {α : Type} : ∀ {l : List α} {i : Nat} {b : α}, l.Nodup → b ∉ l → (l.set i b).Nodup
  | [], _, _, h, _ => h
  | x :: l, 0, b, h, hb => List.nodup_cons.mpr ⟨fun z => hb (List.mem_cons_of_mem _ z), (List.nodup_cons.mp h).2⟩
  | x :: l, i + 1, b, h, hb => by
    have h' := List.nodup_cons.mp h
    refine List.nodup_cons.mpr ⟨fun z => ?_, nodup_set h'.2 fun z => hb (List.mem_cons_of_mem _ z)⟩
    rcases List.mem_or_eq_of_mem_set z with y | y
    · exact h'.1 y
    · exact hb (by rw [← y]; exact List.mem_cons_self)
/-- a new list in the place of a row -/
theorem Rz.put {i : Nat} {b : Addr} {row' : List Wy} {vs : List V} (hP : Pl G H p q) (h : Rz G H p q R rs rows) (hi : i < rows.length) (hb : H b = none) (hd : DqA G vs (row'.map wd)) :
    Pl G (upd (upd H b (.lst vs)) R (.lst ((rs.map V.ref).set i (.ref b)))) p q ∧ Rz G (upd (upd H b (.lst vs)) R (.lst ((rs.map V.ref).set i (.ref b)))) p q R (rs.set i b) (rows.set i row') := by
  have e : Ex H (upd H b (.lst vs)) := Ex.new hb
  have h2 := h.ext e
  have gb := fresh_back hP.ex hb
  have bR : b ≠ R := Ne.symm (ne_of_none h.at_ hb)
  have hbn : b ∉ rs := fun z => by
    obtain ⟨_, _, _, vs', h1⟩ := h.mem z
    rw [hb] at h1
    cases h1
  have hil : i < rs.length := by rw [h.len]; exact hi
  refine ⟨(hP.ext e).mut h.gR h.Rp h.Rq, by rw [upd_same, List.map_set], h.gR, h.Rp, h.Rq, fun z => ?_, nodup_set h.nd hbn, by rw [List.length_set, List.length_set]; exact h.len, fun k r2 row2 h3 w2 => ?_⟩
  · rcases List.mem_or_eq_of_mem_set z with y | y
    · exact h.nin y
    · exact bR y.symm
  · by_cases c : i = k
    · subst c
      rw [List.getElem?_set_self hil] at h3
      cases h3
      rw [List.getElem?_set_self hi] at w2
      cases w2
      exact ⟨gb, hP.np hb, hP.nq hb, vs, by rw [upd_ne bR, upd_same], hd⟩
    · rw [List.getElem?_set_ne c] at h3 w2
      obtain ⟨g, rp, rq, vs2, h4, h5⟩ := h2.row k r2 row2 h3 w2
      have nr : r2 ≠ R := fun z => h.nin (by rw [← z]; exact List.mem_of_getElem? h3)
      exact ⟨g, rp, rq, vs2, by rw [upd_ne nr]; exact h4, h5⟩
end
theorem erase_perm {α : Type} : ∀ (l : List α) (m : Nat) (h : m < l.length), (l[m] :: l.eraseIdx m).Perm l
  | x :: l, 0, h => List.Perm.refl _
  | x :: l, m + 1, h => by
    have h' : m < l.length := by simpa using h
    exact (List.Perm.swap x l[m] (l.eraseIdx m)).trans ((erase_perm l m h').cons x)
section
variable {P : Program} {w : World} {K : PySem.W.Frag} {mg : Str → Option Value} {base : Heap} {f : Addr} {fd : FuncData}
/-! _law_order -/
def spOrder : Sp := fun vs H Q _ => ∃ (G : Hp) (p q : Addr) (n : Nat), vs = [.ref p, .int (n : Int)] ∧ Pl G H p q ∧ 2 ≤ n ∧ n ≤ 8 ∧ ∀ H' a (os : List Int), Pl G H' p q → Off p q H H' → H a = none → H' a = some (.lst (os.map V.int)) → OsOk n os → Q (.ref a) H'
abbrev sOrder : Stmt := top 36
abbrev nOrder : List Str := ["_law_pool_here", "_law_size", "_law_left", "_law_order_here", "_law_count"]
theorem scOrder : FnScope nOrder ["_law_pool_here", "_law_size"] (defScope sOrder) := ⟨rfl, rfl, rfl, by decide +kernel, rfl, by decide +kernel, by decide +kernel⟩
theorem ok_order (B : Bl mg) (C : Cal P w K mg base "_law_draw" ["_law_pool_here", "_law_size"] 1 spDraw) (F : FnP K "_law_order" sOrder f fd) : FnOk P w K mg base CX0 2 f fd ["_law_pool_here", "_law_size"] spOrder := by
  refine F.ok scOrder (fun vs H Q E h => ?_) (fun cdv A outer s H vs Q E hr h => ?_)
  · obtain ⟨G, p, q, n, rfl, _⟩ := h
    rfl
  · obtain ⟨G, p, q, n, rfl, hP, hn2, hn8, k⟩ := h
    refine ⟨_, pss_cons (ps_set (i := 2) scOrder.nd rfl (Or.inl rfl) (pe_listRg rfl (by rfl) B.list (prg_2 (by rfl) B.range pe_int (pv 1))))
      (pss_cons (ps_set (i := 3) scOrder.nd rfl (Or.inl rfl) (pe_lst (pa_cons pe_int pa_nil)))
      (pss_cons (ps_for (passes_of rfl) rfl (pi_range1 (by rfl) B.range (pa_cons (pe_op op_sub (pv 1) pe_int) pa_nil)) (pg_name (i := 4) scOrder.nd rfl (Or.inl rfl))
        (pss_one (ps_expr (pe_bm PySem.F.plainAttrs_list PySem.F.slot_list_append PySem.F.type_list_append mt_append (pv 3) (pa_cons
          (pe_bm PySem.F.plainAttrs_list PySem.F.slot_list_pop PySem.F.type_list_pop mt_popAt (pv 2) (pa_cons (pe_cal C hr (by rfl) (pa_cons (pv 0) (pa_cons (pe_callB call_len_seq (by rfl) B.len PySem.boot_len (pa_cons (pv 2) pa_nil)) pa_nil))) pa_nil)) pa_nil)))))
      (pss_one (ps_ret (pv 3))))), ?_⟩
    refine ⟨.int (n : Int), rfl, 1, (n : Int), rfl, rfl, RgOk.of_le (by decide) (by omega) (by decide) (by omega), fun a1 ha1 => ?_⟩
    refine ⟨by show 1 ≤ sizeLine; decide, fun a2 ha2 => ?_⟩
    have n12 : a1 ≠ a2 := fun z => by rw [← z, upd_same] at ha2; cases ha2
    have ha2' : H a2 = none := by rw [upd_ne (Ne.symm n12)] at ha2; exact ha2
    have ga1 := fresh_back hP.ex ha1
    have ga2 := fresh_back hP.ex ha2'
    have p1 := hP.np ha1
    have q1 := hP.nq ha1
    have p2 := hP.np ha2'
    have q2 := hP.nq ha2'
    have e0 : rgV 1 (n : Int) = ((List.range (n - 1)).map fun (i : Nat) => (1 : Int) + (i : Int)).map V.int := by
      unfold rgV
      rw [show ((n : Int) - 1).toNat = n - 1 by omega, List.map_map]
      rfl
    change tSeq _ _ _ [some (.ref p), some (.int (n : Int)), some (.ref a1), some (.ref a2), none] _
    refine q_forR1 (ea_cons (ev_op (ev_var rfl) ev_c rv_I0) ea_nil) (n := (n : Int) - 1) (by omega) (fun i σ' H' => ∃ (ls os : List Int) (o : Option V), σ' = [some (.ref p), some (.int (n : Int)), some (.ref a1), some (.ref a2), o] ∧ Pl G H' p q ∧ Off p q H H' ∧ H' a1 = some (.lst (ls.map V.int)) ∧ H' a2 = some (.lst (os.map V.int)) ∧ ls.length + i = n - 1 ∧ os.length = i + 1 ∧ (os ++ ls).Nodup ∧ os[0]? = some 0 ∧ ∀ x ∈ os ++ ls, 0 ≤ x ∧ x < n) ?_ ?_ ?_
    · intro H1 e1
      refine ⟨_, [0], none, rfl, ((hP.ext (Ex.new ha1)).ext (Ex.new ha2)).ext e1, Off.ex (((Ex.new ha1).trans (Ex.new ha2)).trans e1), e1 _ _ (by rw [upd_ne n12, upd_same, e0]), e1 _ _ upd_same, by simp, rfl, ?_, rfl, fun x hx => ?_⟩
      · refine List.nodup_cons.mpr ⟨fun z => ?_, ?_⟩
        · obtain ⟨i, hi, e⟩ := List.mem_map.mp (show (0 : Int) ∈ (List.range (n - 1)).map fun (i : Nat) => (1 : Int) + (i : Int) from z)
          omega
        · show ((List.range (n - 1)).map fun (i : Nat) => (1 : Int) + (i : Int)).Nodup
          unfold List.Nodup
          rw [List.pairwise_map]
          exact (List.nodup_range (n := n - 1)).imp (fun h e => h (by omega))
      · rcases List.mem_cons.mp (show x ∈ (0 : Int) :: (List.range (n - 1)).map fun (i : Nat) => (1 : Int) + (i : Int) from hx) with z | z
        · rw [z]; omega
        · obtain ⟨i, hi, rfl⟩ := List.mem_map.mp z
          have := List.mem_range.mp hi
          omega
    · rintro i σ' H1 hi ⟨ls, os, o, rfl, hP1, hO, h1, h2, hl, hol, b1, b2, b3⟩
      have hlp : 0 < ls.length := by omega
      refine ⟨.ref a2, rfl, .inl ⟨rfl, _, sq_of h2⟩, .ref a1, rfl, .inl ⟨rfl, _, sq_of h1⟩, .ref p, rfl, .ref a1, rfl, a1, _, rfl, .inl (sq_of h1), ?_⟩
      refine ⟨Hd H1 p q, p, q, ((ls.map V.int).length : Int), rfl, hP1.hd, by rw [List.length_map]; omega, by rw [List.length_map]; omega, fun H2 j hP0 hj0 hj1 => ?_⟩
      have hP2 := hP1.back hP0
      have hO2 := hP0.off
      rw [List.length_map] at hj1
      obtain ⟨m, rfl⟩ : ∃ m : Nat, j = (m : Int) := ⟨j.toNat, by omega⟩
      have hm : m < ls.length := by omega
      have h1' := hO2 _ _ p1 q1 h1
      have h2' := hO2 _ _ p2 q2 h2
      refine ⟨a1, _, (m : Int), m, .int ls[m], rfl, rfl, h1', by omega, by omega, by rw [List.length_map]; exact seqIx hm, by rw [List.getElem?_map, List.getElem?_eq_getElem hm]; rfl, ?_⟩
      refine ⟨a2, _, .int ls[m], rfl, rfl, by rw [upd_ne (Ne.symm n12)]; exact h2', by rw [List.length_map, sizeLine_eq]; omega, ?_⟩
      have hpm : ((os ++ [ls[m]]) ++ ls.eraseIdx m).Perm (os ++ ls) := by
        rw [List.append_assoc]
        exact (erase_perm ls m hm).append_left os
      refine ⟨ls.eraseIdx m, os ++ [ls[m]], _, rfl, (hP2.mut ga1 p1 q1).mut ga2 p2 q2, fun b u hb1 hb2 hb => ?_, by rw [upd_ne n12, upd_same, eraseIdx_mp], by rw [upd_same, List.map_append]; rfl, by rw [List.length_eraseIdx_of_lt hm]; omega, by simp; omega, hpm.nodup_iff.mpr b1, ?_, fun x hx => b3 x (hpm.mem_iff.mp hx)⟩
      · have nb1 : b ≠ a1 := ne_of_none hb ha1
        have nb2 : b ≠ a2 := ne_of_none hb ha2'
        rw [upd_ne nb2, upd_ne nb1]
        exact hO2 _ _ hb1 hb2 (hO _ _ hb1 hb2 hb)
      · rw [List.getElem?_append_left (by omega)]
        exact b2
    · rintro σ' H1 ⟨ls, os, o, rfl, hP1, hO, h1, h2, hl, hol, b1, b2, b3⟩
      have hls : ls = [] := List.length_eq_zero_iff.mp (by omega)
      subst hls
      rw [List.append_nil] at b1 b3
      exact ⟨.ref a2, rfl, k H1 a2 os hP1 hO ha2' h2 ⟨by omega, b1, b2, b3⟩⟩
end
end Wk

set_option Elab.async false
set_option linter.all false
set_option maxRecDepth 100000
set_option maxHeartbeats 2000000
namespace Wk
open PySem PySem.Spec PyProof.Rows L2 Evl
theorem GW.empty {rows : List (List Wy)} (h : ∀ row ∈ rows, row = []) : GW rows := by
  have key : ∀ (i : Nat) (row : List Wy), rows[i]? = some row → row = [] := fun i row e => h row (List.mem_of_getElem? e)
  refine ⟨fun row e => key 0 row e, fun i row e => by rw [key i row e]; exact List.nodup_nil, fun i row e w hw => ?_, fun i row e w hw => ?_⟩
  · rw [key i row e] at hw; cases hw
  · rw [key i row e] at hw; cases hw
/-! how many takings -/
def tks : List (List Wy) → Nat
  | [] => 1
  | r :: rs => (r.length + 1) * tks rs
theorem tks_pos : ∀ rows : List (List Wy), 1 ≤ tks rows
  | [] => Nat.le_refl 1
  | r :: rs => Nat.mul_pos (Nat.succ_pos _) (tks_pos rs)
theorem tks_set : ∀ {rows : List (List Wy)} {i : Nat} {row row' : List Wy}, rows[i]? = some row → tks (rows.set i row') * (row.length + 1) = tks rows * (row'.length + 1)
  | [], _, _, _, h => by simp at h
  | r :: rs, 0, row, row', h => by
    have e : r = row := by simpa using h
    subst e
    show (row'.length + 1) * tks rs * (r.length + 1) = (r.length + 1) * tks rs * (row'.length + 1)
    rw [Nat.mul_comm (row'.length + 1), Nat.mul_assoc, Nat.mul_comm (row'.length + 1), ← Nat.mul_assoc, Nat.mul_comm (tks rs)]
  | r :: rs, i + 1, row, row', h => by
    have h' : rs[i]? = some row := by simpa using h
    show (r.length + 1) * tks (rs.set i row') * (row.length + 1) = (r.length + 1) * tks rs * (row'.length + 1)
    rw [Nat.mul_assoc, tks_set h', ← Nat.mul_assoc]
theorem tks_set_le {rows : List (List Wy)} {i : Nat} {row' : List Wy} (hi : i < rows.length) : tks (rows.set i row') ≤ tks rows * (row'.length + 1) := by
  have h := tks_set (row' := row') (List.getElem?_eq_getElem hi)
  have h1 : tks (rows.set i row') * 1 ≤ tks (rows.set i row') * (rows[i].length + 1) := Nat.mul_le_mul_left _ (by omega)
  omega
theorem tks_empty : ∀ {rows : List (List Wy)}, (∀ row ∈ rows, row = []) → tks rows = 1
  | [], _ => rfl
  | r :: rs, h => by
    have e := h r List.mem_cons_self
    subst e
    show (0 + 1) * tks rs = 1
    rw [tks_empty fun x hx => h x (List.mem_cons_of_mem _ hx)]
theorem tks_append : ∀ (a b : List (List Wy)), tks (a ++ b) = tks a * tks b
  | [], b => by show tks b = 1 * tks b; rw [Nat.one_mul]
  | r :: a, b => by
    show (r.length + 1) * tks (a ++ b) = (r.length + 1) * tks a * tks b
    rw [tks_append a b, Nat.mul_assoc]
theorem tks_take {rows : List (List Wy)} {i : Nat} {row : List Wy} (h : rows[i]? = some row) : tks (rows.take (i + 1)) = tks (rows.take i) * (row.length + 1) := by
  rw [take_snoc h, tks_append]
  show _ * ((row.length + 1) * 1) = _
  rw [Nat.mul_one]
def tkM (n : Nat) : Nat := if n ≤ 5 then 81 else 128
/-- a ring that is being planted -/
structure RingI (n many : Nat) (os : List Int) (i : Nat) (rows : List (List Wy)) : Prop where
  len : rows.length = n
  shape : ∀ (j : Nat) (row : List Wy), rows[j]? = some row → row = [] ∨ ∃ (k : Nat) (x y : Int), 1 ≤ k ∧ k ≤ many ∧ os[k]? = some x ∧ os[k % many + 1]? = some y ∧ x = (j : Int) ∧ row = [[x, y, 0], [x, 0]]
  done : ∀ (k : Nat) (x : Int), 1 ≤ k → k ≤ i → os[k]? = some x → ∃ row, rows[x.toNat]? = some row ∧ [x, 0] ∈ row
  tk : tks rows ≤ 3 ^ i
theorem ring_start {n many : Nat} {os : List Int} {rows : List (List Wy)} (hl : rows.length = n) (h : ∀ row ∈ rows, row = []) : RingI n many os 0 rows :=
  ⟨hl, fun j row e => .inl (h row (List.mem_of_getElem? e)), fun k x h1 h2 => by omega, by rw [tks_empty h]; decide⟩
theorem ring_turn {n many : Nat} {os : List Int} {i : Nat} {rows : List (List Wy)} (ho : OsOk n os) (h : RingI n many os i rows) (hi : i + 1 ≤ many) {x y : Int} (hx : os[i + 1]? = some x) (hy : os[(i + 1) % many + 1]? = some y) : RingI n many os (i + 1) (rows.set x.toNat [[x, y, 0], [x, 0]]) := by
  have rx := ho.rg x (List.mem_of_getElem? hx)
  have hxl : x.toNat < rows.length := by rw [h.len]; omega
  refine ⟨by rw [List.length_set]; exact h.len, fun j row e => ?_, fun k z h1 h2 hz => ?_, by
    have z := tks_set_le (row' := [[x, y, 0], [x, 0]]) hxl
    have z2 := h.tk
    have e3 : ([[x, y, 0], [x, 0]] : List Wy).length + 1 = 3 := rfl
    rw [e3] at z
    rw [Nat.pow_succ]
    omega⟩
  · by_cases c : x.toNat = j
    · subst c
      rw [List.getElem?_set_self hxl] at e
      exact .inr ⟨i + 1, x, y, by omega, hi, hx, hy, by omega, (Option.some.inj e).symm⟩
    · rw [List.getElem?_set_ne c] at e
      exact h.shape j row e
  · by_cases c : k = i + 1
    · subst c
      rw [hx] at hz
      cases hz
      exact ⟨_, List.getElem?_set_self hxl, by simp⟩
    · obtain ⟨row, e1, e2⟩ := h.done k z h1 (by omega) hz
      have rz := ho.rg z (List.mem_of_getElem? hz)
      have ne : x.toNat ≠ z.toNat := fun q => c (ho.ne hz (by rw [hx]; congr 1; omega))
      exact ⟨row, by rw [List.getElem?_set_ne ne]; exact e1, e2⟩
theorem ring_end {n many : Nat} {os : List Int} {rows : List (List Wy)} (ho : OsOk n os) (h2 : 2 ≤ many) (hn : many + 1 ≤ n) (h : RingI n many os many rows) : GW rows ∧ ∀ row ∈ rows, row.length ≤ 2 := by
  have idx : ∀ k, 1 ≤ k → k ≤ many → 1 ≤ k % many + 1 ∧ k % many + 1 ≤ many ∧ k % many + 1 ≠ k := fun k k1 k2 => by
    by_cases c : k = many
    · subst c
      rw [Nat.mod_self]
      omega
    · rw [Nat.mod_eq_of_lt (by omega)]
      omega
  have nz : ∀ (k : Nat) (x : Int), 1 ≤ k → os[k]? = some x → x ≠ 0 := fun k x k1 hx z => by
    rw [z] at hx
    have := ho.ne hx ho.hd
    omega
  refine ⟨⟨fun row e => ?_, fun i row e => ?_, fun i row e w hw => ?_, fun i row e w hw => ?_⟩, fun row hr => ?_⟩
  · rcases h.shape 0 row e with z | ⟨k, x, y, k1, k2, hx, hy, e1, e2⟩
    · exact z
    · exact absurd e1 (nz k x k1 hx)
  · rcases h.shape i row e with z | ⟨k, x, y, k1, k2, hx, hy, e1, e2⟩
    · rw [z]; exact List.nodup_nil
    · rw [e2]
      simp
  · rcases h.shape i row e with z | ⟨k, x, y, k1, k2, hx, hy, e1, e2⟩
    · rw [z] at hw; cases hw
    · obtain ⟨m1, m2, m3⟩ := idx k k1 k2
      have x0 := nz k x k1 hx
      have y0 := nz _ y m1 hy
      have xy : x ≠ y := fun z => m3 (ho.ne hy (by rw [hx, z]))
      have rx := ho.rg x (List.mem_of_getElem? hx)
      have ry := ho.rg y (List.mem_of_getElem? hy)
      rw [h.len]
      rw [e2] at hw
      rcases List.mem_cons.mp hw with z | z
      · rw [z]
        refine ⟨by simp, by simp, by simp [e1], rfl, by simp [xy, x0, y0], fun u hu => ?_⟩
        simp only [List.mem_cons, List.not_mem_nil, or_false] at hu
        rcases hu with rfl | rfl | rfl <;> omega
      · rw [List.mem_singleton.mp z]
        refine ⟨by simp, by simp, by simp [e1], rfl, by simp [x0], fun u hu => ?_⟩
        simp only [List.mem_cons, List.not_mem_nil, or_false] at hu
        rcases hu with rfl | rfl <;> omega
  · rcases h.shape i row e with z | ⟨k, x, y, k1, k2, hx, hy, e1, e2⟩
    · rw [z] at hw; cases hw
    · obtain ⟨m1, m2, m3⟩ := idx k k1 k2
      have ry := ho.rg y (List.mem_of_getElem? hy)
      rw [e2] at hw
      rcases List.mem_cons.mp hw with z | z
      · rw [z]
        obtain ⟨row', r1, r2⟩ := h.done _ y m1 m2 hy
        refine .inr ⟨y.toNat, row', ?_, r1, r2⟩
        show some y = some ((y.toNat : Nat) : Int)
        congr 1
        omega
      · rw [List.mem_singleton.mp z]
        exact .inl rfl
  · obtain ⟨i, hi⟩ := List.mem_iff_getElem?.mp hr
    rcases h.shape i row hi with z | ⟨k, x, y, k1, k2, hx, hy, e1, e2⟩
    · rw [z]; simp
    · rw [e2]; simp
/-- a chain that is being planted -/
def chn (os : List Int) (k : Nat) : Wy := (os.take (k + 1)).reverse
structure ChI (n : Nat) (os : List Int) (i : Nat) (rows : List (List Wy)) : Prop where
  len : rows.length = n
  shape : ∀ (j : Nat) (row : List Wy), rows[j]? = some row → row = [] ∨ ∃ (k : Nat) (x : Int), 1 ≤ k ∧ k ≤ i ∧ os[k]? = some x ∧ x = (j : Int) ∧ row = [chn os k]
  done : ∀ (k : Nat) (x : Int), 1 ≤ k → k ≤ i → os[k]? = some x → rows[x.toNat]? = some [chn os k]
  tk : tks rows ≤ 2 ^ i
theorem ch_start {n : Nat} {os : List Int} {rows : List (List Wy)} (hl : rows.length = n) (h : ∀ row ∈ rows, row = []) : ChI n os 0 rows :=
  ⟨hl, fun j row e => .inl (h row (List.mem_of_getElem? e)), fun k x h1 h2 => by omega, by rw [tks_empty h]; decide⟩
theorem ch_turn {n : Nat} {os : List Int} {i : Nat} {rows : List (List Wy)} (ho : OsOk n os) (h : ChI n os i rows) {x : Int} (hx : os[i + 1]? = some x) : ChI n os (i + 1) (rows.set x.toNat [chn os (i + 1)]) := by
  have rx := ho.rg x (List.mem_of_getElem? hx)
  have hxl : x.toNat < rows.length := by rw [h.len]; omega
  refine ⟨by rw [List.length_set]; exact h.len, fun j row e => ?_, fun k z h1 h2 hz => ?_, by
    have z := tks_set_le (row' := [chn os (i + 1)]) hxl
    have z2 := h.tk
    have e3 : ([chn os (i + 1)] : List Wy).length + 1 = 2 := rfl
    rw [e3] at z
    rw [Nat.pow_succ]
    omega⟩
  · by_cases c : x.toNat = j
    · subst c
      rw [List.getElem?_set_self hxl] at e
      exact .inr ⟨i + 1, x, by omega, by omega, hx, by omega, (Option.some.inj e).symm⟩
    · rw [List.getElem?_set_ne c] at e
      rcases h.shape j row e with z | ⟨k, y, k1, k2, r⟩
      · exact .inl z
      · exact .inr ⟨k, y, k1, by omega, r⟩
  · by_cases c : k = i + 1
    · subst c
      rw [hx] at hz
      cases hz
      exact List.getElem?_set_self hxl
    · have e1 := h.done k z h1 (by omega) hz
      have rz := ho.rg z (List.mem_of_getElem? hz)
      have ne : x.toNat ≠ z.toNat := fun q => c (ho.ne hz (by rw [hx]; congr 1; omega))
      rw [List.getElem?_set_ne ne]
      exact e1
theorem chn_len {os : List Int} {k : Nat} (h : k < os.length) : (chn os k).length = k + 1 := by
  unfold chn
  rw [List.length_reverse, List.length_take]
  omega
theorem chn_get {os : List Int} {k i : Nat} (h : k < os.length) (hi : i ≤ k) : (chn os k)[i]? = os[k - i]? := by
  unfold chn
  rw [List.getElem?_reverse (by rw [List.length_take]; omega), List.length_take, Nat.min_eq_left (by omega), List.getElem?_take, if_pos (by omega)]
  congr 1
theorem chn_drop {os : List Int} {k : Nat} (h : k + 1 < os.length) : (chn os (k + 1)).drop 1 = chn os k := by
  have e : os.take (k + 1 + 1) = os.take (k + 1) ++ [os[k + 1]] := by
    rw [List.take_add_one, List.getElem?_eq_getElem h]
    rfl
  unfold chn
  rw [e, List.reverse_append]
  rfl
theorem ch_end {n : Nat} {os : List Int} {i : Nat} {rows : List (List Wy)} (ho : OsOk n os) (h8 : n ≤ 8) (h : ChI n os i rows) : GW rows ∧ ∀ row ∈ rows, row.length ≤ 2 := by
  have nz : ∀ (k : Nat) (x : Int), 1 ≤ k → os[k]? = some x → x ≠ 0 := fun k x k1 hx z => by
    rw [z] at hx
    have := ho.ne hx ho.hd
    omega
  have hol := ho.len
  refine ⟨⟨fun row e => ?_, fun i row e => ?_, fun i row e w hw => ?_, fun i row e w hw => ?_⟩, fun row hr => ?_⟩
  · rcases h.shape 0 row e with z | ⟨k, x, k1, k2, hx, e1, e2⟩
    · exact z
    · exact absurd e1 (nz k x k1 hx)
  · rcases h.shape i row e with z | ⟨k, x, k1, k2, hx, e1, e2⟩
    · rw [z]; exact List.nodup_nil
    · rw [e2]
      simp
  · rcases h.shape i row e with z | ⟨k, x, k1, k2, hx, e1, e2⟩
    · rw [z] at hw; cases hw
    · have hk := (List.getElem?_eq_some_iff.mp hx).1
      rw [h.len]
      rw [e2] at hw
      rw [List.mem_singleton.mp hw]
      refine ⟨by rw [chn_len hk]; omega, by rw [chn_len hk]; omega, by rw [chn_get hk (Nat.zero_le k), Nat.sub_zero, hx, e1], ?_, ?_, fun u hu => ?_⟩
      · rw [List.getLast?_eq_getElem?, chn_len hk, chn_get hk (by omega), show k - (k + 1 - 1) = 0 by omega]
        exact ho.hd
      · unfold chn List.Nodup
        rw [List.pairwise_reverse]
        exact ((List.take_sublist (k + 1) os).nodup ho.nd).imp (fun h e => h e.symm)
      · unfold chn at hu
        exact ho.rg u (List.mem_of_mem_take (List.mem_reverse.mp hu))
  · rcases h.shape i row e with z | ⟨k, x, k1, k2, hx, e1, e2⟩
    · rw [z] at hw; cases hw
    · have hk := (List.getElem?_eq_some_iff.mp hx).1
      rw [e2] at hw
      rw [List.mem_singleton.mp hw]
      obtain ⟨k', rfl⟩ : ∃ k', k = k' + 1 := ⟨k - 1, by omega⟩
      by_cases c : k' = 0
      · subst c
        left
        rw [chn_drop hk]
        cases os with
        | nil => simp at hk
        | cons a l =>
          have := ho.hd
          simp at this
          simp [chn, this]
      · right
        have hk' : k' < os.length := by omega
        have hy : os[k']? = some os[k'] := List.getElem?_eq_getElem hk'
        have ry := ho.rg _ (List.mem_of_getElem? hy)
        refine ⟨(os[k']).toNat, [chn os k'], ?_, h.done k' _ (by omega) (by omega) hy, by rw [chn_drop hk]; exact List.mem_singleton.mpr rfl⟩
        rw [chn_get hk (by omega), show k' + 1 - 1 = k' by omega, hy]
        congr 1
        omega
  · obtain ⟨j, hj⟩ := List.mem_iff_getElem?.mp hr
    rcases h.shape j row hj with z | ⟨k, x, k1, k2, hx, e1, e2⟩
    · rw [z]; simp
    · rw [e2]; simp
theorem chn_range {os : List Int} {i : Nat} (h : 1 + i < os.length) : (List.range (1 + (i : Int) + 1).toNat).map (fun s => os.getD (1 + i - s) 0) = chn os (i + 1) := by
  apply List.ext_getElem?
  intro j
  have e : (1 + (i : Int) + 1).toNat = i + 2 := by omega
  rw [e, List.getElem?_map]
  by_cases c : j < i + 2
  · rw [List.getElem?_range c, chn_get (by omega) (by omega)]
    have hl : 1 + i - j < os.length := by omega
    show some (os.getD (1 + i - j) 0) = os[i + 1 - j]?
    rw [List.getD_eq_getElem?_getD, show i + 1 - j = 1 + i - j by omega, List.getElem?_eq_getElem hl]
    rfl
  · rw [List.getElem?_eq_none (by simp; omega), List.getElem?_eq_none (by rw [chn_len (by omega)]; omega)]
    rfl
theorem tk_ring {rows : List (List Wy)} {n many : Nat} (h : tks rows ≤ 3 ^ many) (h4 : many ≤ 4) : tks rows ≤ tkM n := by
  have : (3 : Nat) ^ many ≤ 3 ^ 4 := Nat.pow_le_pow_right (by decide) h4
  have e : (3 : Nat) ^ 4 = 81 := by decide
  unfold tkM
  split <;> omega
theorem tk_ch {rows : List (List Wy)} {n i : Nat} (h8 : n ≤ 8) (hi : i + 1 ≤ n) (h : tks rows ≤ 2 ^ i) : tks rows ≤ tkM n := by
  unfold tkM
  split
  · have : (2 : Nat) ^ i ≤ 2 ^ 4 := Nat.pow_le_pow_right (by decide) (by omega)
    have e : (2 : Nat) ^ 4 = 16 := by decide
    omega
  · have : (2 : Nat) ^ i ≤ 2 ^ 7 := Nat.pow_le_pow_right (by decide) (by omega)
    have e : (2 : Nat) ^ 7 = 128 := by decide
    omega
section
variable {P : Program} {w : World} {K : PySem.W.Frag} {mg : Str → Option Value} {base : Heap} {f : Addr} {fd : FuncData}
/-! _law_planted -/
def spPlanted : Sp := fun vs H Q _ => ∃ (G : Hp) (p q : Addr) (n : Nat), vs = [.ref p, .int (n : Int)] ∧ Pl G H p q ∧ 2 ≤ n ∧ n ≤ 8 ∧ ∀ G' H' R rs rows, Ex G G' → Pl G' H' p q → Rz G' H' p q R rs rows → rows.length = n → GW rows → (∀ row ∈ rows, row.length ≤ 2) → tks rows ≤ tkM n → Q (.ref R) H'
abbrev sPlanted : Stmt := top 37
abbrev nPlanted : List Str := ["_law_pool_here", "_law_size", "_law_lists_here", "_law_kind", "_law_order_here", "_law_many", "_law_k", "_law_router", "_law_step"]
theorem scPlanted : FnScope nPlanted ["_law_pool_here", "_law_size"] (defScope sPlanted) := ⟨rfl, rfl, rfl, by decide +kernel, rfl, by decide +kernel, by decide +kernel⟩
theorem ok_planted (B : Bl mg) (C : Cal P w K mg base "_law_draw" ["_law_pool_here", "_law_size"] 1 spDraw) (C2 : Cal P w K mg base "_law_order" ["_law_pool_here", "_law_size"] 2 spOrder) (F : FnP K "_law_planted" sPlanted f fd) : FnOk P w K mg base CX0 3 f fd ["_law_pool_here", "_law_size"] spPlanted := by
  refine F.ok scPlanted (fun vs H Q E h => ?_) (fun cdv A outer s H vs Q E hr h => ?_)
  · obtain ⟨G, p, q, n, rfl, _⟩ := h
    rfl
  · obtain ⟨G, p, q, n, rfl, hP, hn2, hn8, k⟩ := h
    have hr1 : Room 1 _ := hr.mono (by decide)
    refine ⟨_, pss_cons (ps_setLc (i := 2) (own := [("_law_router", 7)]) (g := gName 7) (tt := tYes) rfl scPlanted.nd rfl rfl (sw_true rfl rfl rfl (by decide +kernel)) (pi_range1 (by rfl) B.range (pa_cons (pv 1) pa_nil)) (blkOk_by (N := nPlanted) (sc := defScope sPlanted) (by decide +kernel))
          (fun _ _ _ _ _ => pg_name (i := 7) scPlanted.nd rfl (Or.inl rfl)) (fun _ _ _ _ _ => pts_nil) (fun _ _ _ _ _ => pe_lst pa_nil))
      (pss_cons (ps_set (i := 3) scPlanted.nd rfl (Or.inl rfl) (pe_cal C hr1 (by rfl) (pa_cons (pv 0) (pa_cons pe_int pa_nil))))
      (pss_cons (ps_set (i := 4) scPlanted.nd rfl (Or.inr rfl) (pe_cal C2 hr (by rfl) (pa_cons (pv 0) (pa_cons (pv 1) pa_nil))))
      (pss_cut (ps_if (PW.pt (pw_and (pt_cmpR op_lt (pv 3) pe_int (nomark _)) (pw_and1 (pt_cmpR op_gt (pv 1) pe_int (nomark _)))))
          (pss_cons (ps_set (i := 5) scPlanted.nd rfl (Or.inl rfl) (pe_op op_add pe_int (pe_cal C hr1 (by rfl) (pa_cons (pv 0) (pa_cons (pe_callB (call_min2 rfl) (by rfl) B.min boot_min (pa_cons pe_int (pa_cons (pe_op op_sub (pv 1) pe_int) pa_nil))) pa_nil)))))
            (pss_one (ps_for (passes_of rfl) rfl (pi_range2 (by rfl) B.range (pa_cons pe_int (pa_cons (pe_op op_add (pv 5) pe_int) pa_nil))) (pg_name (i := 6) scPlanted.nd rfl (Or.inr rfl))
              (pss_one (ps_asg (pe_lst (pa_cons (pe_tup (pa_cons (pe_ix ix_list (pv 4) (pv 6) (fun _ _ => rfl)) (pa_cons (pe_ix ix_list (pv 4) (pe_op op_add (pe_op op_mod (pv 6) (pv 5)) pe_int) (fun _ _ => rfl)) (pa_cons pe_int pa_nil)))) (pa_cons (pe_tup (pa_cons (pe_ix ix_list (pv 4) (pv 6) (fun _ _ => rfl)) (pa_cons pe_int pa_nil))) pa_nil)))
                (pg_sub (pv 2) (pe_ix ix_list (pv 4) (pv 6) (fun _ _ => rfl)) set_list)))))) pss_nil)
      (pss_cut (ps_if (pt_cmpR op_eq (pv 3) pe_int (nomark _))
          (pss_one (ps_for (passes_of rfl) rfl (pi_range2 (by rfl) B.range (pa_cons pe_int (pa_cons (pv 1) pa_nil))) (pg_name (i := 6) scPlanted.nd rfl (Or.inr rfl))
            (pss_one (ps_asg (pe_lst (pa_cons (pe_callTy call_tuple_of (by rfl) B.tuple PyProof.Rows.boot_tuple (pa_cons (pe_lc (own := [("_law_step", 8)]) (g := gName 8) (tt := tYes) rfl scPlanted.nd (pi_range1 (by rfl) B.range (pa_cons (pe_op op_add (pv 6) pe_int) pa_nil)) (blkOk_by (N := nPlanted) (sc := defScope sPlanted) (by decide +kernel))
                (fun _ _ _ _ _ => pg_name (i := 8) scPlanted.nd rfl (Or.inl rfl)) (fun _ _ _ _ _ => pts_nil) (fun _ _ _ _ _ => pe_ix (ix_listK (K := K) rfl) (pv 4) (pe_op op_sub (pv 6) (pv 8)) (fun _ _ => rfl))) pa_nil)) pa_nil))
              (pg_sub (pv 2) (pe_ix ix_list (pv 4) (pv 6) (fun _ _ => rfl)) set_list))))) pss_nil)
      (pss_one (ps_ret (pv 2))))))), ?_⟩
    refine ⟨.int (n : Int), rfl, (n : Int), rfl, by omega, by omega, fun R hR => lc_range (lo := 0) (n := (n : Int).toNat) (fun i H' => ∃ rs : List Addr, Ex H H' ∧ H' R = some (.lst (rs.map V.ref)) ∧ rs.length = i ∧ R ∉ rs ∧ rs.Nodup ∧ ∀ r ∈ rs, H r = none ∧ H' r = some (.lst [])) ⟨[], Ex.new hR, upd_same, rfl, by simp, List.nodup_nil, by simp⟩ ?_ ?_⟩
    · rintro i H' hi ⟨rs, e, hRl, hl, hnin, hnd, hrow⟩
      refine ⟨rfl, Nat.zero_le _, fun b hb => ?_⟩
      have nRb : R ≠ b := ne_of_none hRl hb
      have hbn : b ∉ rs := fun z => by
        have := (hrow b z).2
        rw [hb] at this
        cases this
      refine ⟨_, by rw [upd_ne nRb]; exact hRl, by rw [List.length_map, sizeLine_eq]; omega, rs ++ [b], fun c o hc => ?_, by rw [upd_same, List.map_append]; rfl, by simp [hl], fun z => ?_, nd_snoc hnd hbn, fun r hr => ?_⟩
      · have h1 := e _ _ hc
        rw [upd_ne (ne_of_none hc hR), upd_ne (ne_of_none h1 hb)]
        exact h1
      · rcases List.mem_append.mp z with z | z
        · exact hnin z
        · exact nRb (List.mem_singleton.mp z)
      · rcases List.mem_append.mp hr with z | z
        · obtain ⟨r1, r2⟩ := hrow r z
          have nr : r ≠ R := fun c => hnin (by rw [← c]; exact z)
          exact ⟨r1, by rw [upd_ne nr, upd_ne (ne_of_none r2 hb)]; exact r2⟩
        · rw [List.mem_singleton.mp z]
          exact ⟨fresh_back e hb, by rw [upd_ne (Ne.symm nRb), upd_same]⟩
    rintro H1 ⟨rs, e1, hRl, hrl, hnin, hnd, hrow⟩
    have hrl' : rs.length = n := by omega
    have hP1 := hP.ext e1
    have hW1 : Rz G H1 p q R rs (List.replicate n []) := ⟨hRl, fresh_back hP.ex hR, hP.np hR, hP.nq hR, hnin, hnd, by rw [hrl', List.length_replicate], fun i r row hr hw => by
      have hm := hrow r (List.mem_of_getElem? hr)
      have er : row = [] := (List.mem_replicate.mp (List.mem_of_getElem? hw)).2
      subst er
      exact ⟨fresh_back hP.ex hm.1, hP.np hm.1, hP.nq hm.1, [], hm.2, .nil⟩⟩
    have hE0 : ∀ row ∈ List.replicate n ([] : List Wy), row = [] := fun row hm => (List.mem_replicate.mp hm).2
    refine ⟨.ref p, rfl, Hd H1 p q, p, q, 5, rfl, hP1.hd, by decide, by decide, fun H2 kd hP0 hk0 hk1 => ?_⟩
    have hP2 := hP1.back hP0
    have hW2 := hW1.off hP0.off
    refine ⟨.ref p, rfl, .int (n : Int), rfl, Hd H2 p q, p, q, n, rfl, hP2.hd, hn2, hn8, fun H3 a os hP00 hO3 ha h3 ho => ?_⟩
    have hP3 := hP2.back hP00
    have hW3 := hW2.off hP00.off
    have nap := hP2.np ha
    have naq := hP2.nq ha
    have gaN := fresh_back hP2.ex ha
    -- the order stays from now on
    have hP4 : Pl (upd G a (.lst (os.map V.int))) H3 p q := hP3.hold h3 nap naq
    have eG : Ex G (upd G a (.lst (os.map V.int))) := Ex.new gaN
    have hW4 : Rz (upd G a (.lst (os.map V.int))) H3 p q R rs (List.replicate n []) := hW3.grow eG (by rw [upd_ne (ne_of_none hW2.at_ ha)]; exact hW2.gR) (fun r hr => by
      obtain ⟨g, _, _, vs, h1⟩ := hW2.mem hr
      rw [upd_ne (ne_of_none h1 ha)]
      exact g)
    generalize hG1 : upd G a (.lst (os.map V.int)) = G1 at *
    have hGa : G1 a = some (.lst (os.map V.int)) := by rw [← hG1]; exact upd_same
    have hol := ho.len
    clear hP00 hP0 hO3 hW3 hP3 hW2 hP2 hW1 hP1
    refine ⟨fun σ' H' => ∃ (G' : Hp) (rs' : List Addr) (rows : List (List Wy)) (o5 o6 : Option V), σ' = [some (.ref p), some (.int (n : Int)), some (.ref R), some (.int kd), some (.ref a), o5, o6, none, none] ∧ Ex G1 G' ∧ Pl G' H' p q ∧ Rz G' H' p q R rs' rows ∧ rows.length = n ∧ ((kd < 2 ∧ (GW rows ∧ ∀ row ∈ rows, row.length ≤ 2) ∧ tks rows ≤ tkM n) ∨ ∀ row ∈ rows, row = []), ?_, ?_⟩
    · change tIfS _ _ _ _ [some (.ref p), some (.int (n : Int)), some (.ref R), some (.int kd), some (.ref a), none, none, none, none] H3
      refine s_when (b := decide (kd < 2) && decide ((n : Int) > 2)) (et_and (et_test (ev_op (ev_var rfl) ev_c rv_I0)) fun _ => et_test (ev_op (ev_var rfl) ev_c rv_I0)) (fun hb H4 e4 => ?_) (fun hb H4 e4 => ⟨G1, rs, _, none, none, rfl, Ex.refl _, hP4.ext e4, hW4.ext e4, by simp, .inr hE0⟩)
      have hn3 : 2 < n ∧ kd < 2 := by simp at hb; omega
      have hP5 := hP4.ext e4
      have hW5 := hW4.ext e4
      refine ⟨.ref p, rfl, .int (n : Int), rfl, (n : Int), 2, rfl, rfl, 3, (n : Int) - 2, rfl, Hd H4 p q, p, q, _, rfl, hP5.hd, ?_, ?_, fun H5 y hP0 hy0 hy1 => ⟨2, y, rfl, rfl, ?_⟩⟩
      · split <;> omega
      · split <;> omega
      have hy2 : 2 + y + 1 ≤ n := by split at hy1 <;> omega
      have hy4 : 2 + y ≤ 4 := by split at hy1 <;> omega
      have hP6 := hP5.back hP0
      have hW6 := hW5.off hP0.off
      refine g_name ?_
      obtain ⟨many, hmany⟩ : ∃ m : Nat, (2 : Int) + y = (m : Int) := ⟨(2 + y).toNat, by omega⟩
      refine s_forR2 (ea_cons ev_c (ea_cons (ev_op (ev_var rfl) ev_c rv_I0) ea_nil)) (by omega) (fun i σ' H' => ∃ (G' : Hp) (rs' : List Addr) (rows : List (List Wy)) (o6 : Option V), σ' = [some (.ref p), some (.int (n : Int)), some (.ref R), some (.int kd), some (.ref a), some (.int (2 + y)), o6, none, none] ∧ Ex G1 G' ∧ Pl G' H' p q ∧ Rz G' H' p q R rs' rows ∧ RingI n many os i rows) (fun H6 e6 => ⟨G1, rs, _, none, rfl, Ex.refl _, hP6.ext e6, hW6.ext e6, ring_start (by simp) hE0⟩) ?_ (fun σ' H' ⟨G', rs', rows, o6, e, h1, h2, h3, h4⟩ => by
        rw [show (2 + y + 1 - 1).toNat = many by omega] at h4
        exact ⟨G', rs', rows, _, o6, e, h1, h2, h3, h4.len, .inl ⟨hn3.2, ring_end ho (by omega) (by omega) h4, tk_ring h4.tk (by omega)⟩⟩)
      rintro i σ' H6 hi ⟨G', rs', rows, o6, rfl, eG', hP7, hW7, hI⟩
      change tAsg _ _ _ [some (.ref p), some (.int (n : Int)), some (.ref R), some (.int kd), some (.ref a), some (.int (2 + y)), some (.int (1 + (i : Int))), none, none] H6
      have hA : H6 a = some (.lst (os.map V.int)) := hP7.ex _ _ (eG' _ _ hGa)
      have hk1' : 1 + i < os.length := by omega
      have at1 : atI (os.map V.int) (1 + (i : Int)) = some (.int os[1 + i]) := by
        have q := at_ints hk1'
        rw [show ((1 + i : Nat) : Int) = 1 + (i : Int) by omega] at q
        exact q
      have hmn : (i + 1) % many < many := Nat.mod_lt _ (by omega)
      have hjl : (i + 1) % many + 1 < os.length := by omega
      have hj : (1 + (i : Int)) % (2 + y) + 1 = (((i + 1) % many + 1 : Nat) : Int) := by
        rw [hmany, show (1 : Int) + (i : Int) = ((i + 1 : Nat) : Int) by omega, ← Int.natCast_emod]
        omega
      have at2 : atI (os.map V.int) ((1 + (i : Int)) % (2 + y) + 1) = some (.int os[(i + 1) % many + 1]) := by rw [hj]; exact at_ints hjl
      have ho1 : os[i + 1]? = some os[1 + i] := by rw [show i + 1 = 1 + i by omega]; exact List.getElem?_eq_getElem hk1'
      have ho2 : os[(i + 1) % many + 1]? = some os[(i + 1) % many + 1] := List.getElem?_eq_getElem hjl
      have hx := ho.rg os[1 + i] (List.getElem_mem hk1')
      have hIt := ring_turn ho hI (by omega) ho1 ho2
      generalize os[1 + i] = x1 at *
      generalize os[(i + 1) % many + 1] = x2 at *
      refine ⟨.ref a, rfl, .int (1 + (i : Int)), rfl, a, _, _, .int x1, rfl, rfl, sq_of hA, at1, .ref a, rfl, .int (1 + (i : Int)), rfl, .int (2 + y), rfl, _, _, rfl, rfl, (show (0 : Int) < 2 + y by omega), _, 1, rfl, rfl, a, _, _, .int x2, rfl, rfl, sq_of hA, at2, by show 3 ≤ sizeLine; decide, fun t1 ht1 => ?_⟩
      have n1 : a ≠ t1 := ne_of_none hA ht1
      refine ⟨.ref a, rfl, .int (1 + (i : Int)), rfl, a, _, _, .int x1, rfl, rfl, sq_of (by rw [upd_ne n1]; exact hA), at1, by show 2 ≤ sizeLine; decide, fun t2 ht2 => ⟨by show 2 ≤ sizeLine; decide, fun b hb => ?_⟩⟩
      have gt1 := fresh_back hP7.ex ht1
      have hP8 := hP7.new (o := .tup [.int x1, .int x2, .int 0]) ht1
      have hW8 := hW7.new (o := .tup [.int x1, .int x2, .int 0]) ht1 gt1
      have gt2 := fresh_back hP8.ex ht2
      have hP9 := hP8.new (o := .tup [.int x1, .int 0]) ht2
      have hW9 := hW8.new (o := .tup [.int x1, .int 0]) ht2 gt2
      have hA9 := hP9.ex _ _ ((Ex.new gt2) _ _ ((Ex.new gt1) _ _ (eG' _ _ hGa)))
      have n12 : t1 ≠ t2 := fun z => by rw [← z, upd_same] at ht2; cases ht2
      have hdq : DqA (upd (upd G' t1 (.tup [.int x1, .int x2, .int 0])) t2 (.tup [.int x1, .int 0])) [.ref t1, .ref t2] ([[x1, x2, 0], [x1, 0]].map wd) :=
        .cons (.tup (by rw [upd_ne n12, upd_same]; rfl) (DqA.ints [x1, x2, 0])) (.cons (.tup upd_same (DqA.ints [x1, 0])) .nil)
      have hrn := hI.len
      obtain ⟨f1, f2⟩ := Rz.put (i := x1.toNat) hP9 hW9 (by omega) hb hdq
      have eb := Ex.new (o := .lst [V.ref t1, V.ref t2]) hb
      refine ⟨.ref R, rfl, .ref a, rfl, .int (1 + (i : Int)), rfl, a, _, _, .int x1, rfl, rfl, sq_of (eb _ _ hA9), at1, R, _, x1, x1.toNat, rfl, rfl, eb _ _ hW9.at_, by rw [List.length_map, hW7.len, hrn]; exact ixNat hx.1 hx.2, ?_⟩
      exact ⟨_, rs'.set x1.toNat b, _, _, rfl, (eG'.trans (Ex.new gt1)).trans (Ex.new gt2), f1, f2, hIt⟩
    · rintro σ' H4 ⟨G', rs', rows, o5, o6, rfl, eG', hP5, hW5, hrl5, hC⟩
      refine ⟨fun σ' H' => ∃ (G' : Hp) (rs' : List Addr) (rows : List (List Wy)) (o5 o6 : Option V), σ' = [some (.ref p), some (.int (n : Int)), some (.ref R), some (.int kd), some (.ref a), o5, o6, none, none] ∧ Ex G1 G' ∧ Pl G' H' p q ∧ Rz G' H' p q R rs' rows ∧ rows.length = n ∧ (GW rows ∧ ∀ row ∈ rows, row.length ≤ 2) ∧ tks rows ≤ tkM n, ?_, ?_⟩
      · refine s_when (b := decide (V.int kd = V.int 2)) (et_test (ev_op (ev_var rfl) ev_c (rv_eq rfl))) (fun hb H5 e5 => ?_) (fun hb H5 e5 => ⟨G', rs', rows, o5, o6, rfl, eG', hP5.ext e5, hW5.ext e5, hrl5, ?_⟩)
        rotate_left
        · rcases hC with z | z
          · exact z.2
          · exact ⟨⟨GW.empty z, fun row hm => by rw [z row hm]; simp⟩, by rw [tks_empty z]; unfold tkM; split <;> decide⟩
        have hE : ∀ row ∈ rows, row = [] := by
          have : kd = 2 := by have := of_decide_eq_true hb; injection this
          rcases hC with z | z
          · omega
          · exact z
        refine s_forR2 (ea_cons ev_c (ea_cons (ev_var rfl) ea_nil)) (by omega) (fun i σ' H' => ∃ (G' : Hp) (rs' : List Addr) (rows : List (List Wy)) (o5 o6 : Option V), σ' = [some (.ref p), some (.int (n : Int)), some (.ref R), some (.int kd), some (.ref a), o5, o6, none, none] ∧ Ex G1 G' ∧ Pl G' H' p q ∧ Rz G' H' p q R rs' rows ∧ ChI n os i rows) (fun H6 e6 => ⟨G', rs', rows, o5, o6, rfl, eG', (hP5.ext e5).ext e6, (hW5.ext e5).ext e6, ch_start hrl5 hE⟩) ?_ (fun σ' H' ⟨G', rs', rows, o5, o6, e, h1, h2, h3, h4⟩ => ⟨G', rs', rows, o5, o6, e, h1, h2, h3, h4.len, ch_end ho hn8 h4, tk_ch hn8 (by omega) h4.tk⟩)
        clear hP5 hW5 hrl5 eG' hC hE
        rintro i σ' H6 hi ⟨G', rs', rows, o5, o6, rfl, eG', hP7, hW7, hI⟩
        change tAsg _ _ _ [some (.ref p), some (.int (n : Int)), some (.ref R), some (.int kd), some (.ref a), o5, some (.int (1 + (i : Int))), none, none] H6
        have hA : H6 a = some (.lst (os.map V.int)) := hP7.ex _ _ (eG' _ _ hGa)
        have hk1' : 1 + i < os.length := by omega
        have at1 : atI (os.map V.int) (1 + (i : Int)) = some (.int os[1 + i]) := by
          have q := at_ints hk1'
          rw [show ((1 + i : Nat) : Int) = 1 + (i : Int) by omega] at q
          exact q
        have ho1 : os[i + 1]? = some os[1 + i] := by rw [show i + 1 = 1 + i by omega]; exact List.getElem?_eq_getElem hk1'
        have hx := ho.rg os[1 + i] (List.getElem_mem hk1')
        have hIt := ch_turn ho hI ho1
        generalize os[1 + i] = x1 at *
        have hlc := el_lcR1 (j := 8) (vs := [8]) (σ := [some (.ref p), some (.int (n : Int)), some (.ref R), some (.int kd), some (.ref a), o5, some (.int (1 + (i : Int))), none, none]) (H := H6) (t := tYes) (te := tOp (rIxL K) (tVar 4) (tOp (rI0 fun i j => .int (i - j)) (tVar 6) (tVar 8))) (ta := tCons (tOp (rI0 fun i j => .int (i + j)) (tVar 6) (tC (.int 1))) tNil) (n := 1 + (i : Int) + 1)
          (fun _ => true) (fun s => .int (os.getD (1 + i - s) 0)) (ea_cons (ev_op (ev_var rfl) ev_c rv_I0) ea_nil) (by omega) (fun x => rfl) (fun _ _ _ _ => et_yes) (fun s H7 e7 hs _ => by
            have hsl : 1 + i - s < os.length := by omega
            have q := at_ints hsl
            rw [show ((1 + i - s : Nat) : Int) = 1 + (i : Int) - (s : Int) by omega] at q
            rw [show os.getD (1 + i - s) 0 = os[1 + i - s] by rw [List.getD_eq_getElem?_getD, List.getElem?_eq_getElem hsl]; rfl]
            exact ev_op (ev_var rfl) (ev_op (ev_var rfl) (ev_var rfl) rv_I0) (rv_ixL (sq_of (e7 _ _ hA)) q))
        rw [given_all] at hlc
        have hlc2 : (List.range (1 + (i : Int) + 1).toNat).map (fun s => V.int (os.getD (1 + i - s) 0)) = (chn os (i + 1)).map V.int := by
          rw [← chn_range hk1', List.map_map]
          rfl
        rw [hlc2] at hlc
        refine asg_lst1 (cb1 (hlc H6 (Ex.refl H6) _ fun d1 H7 hd1 e7 hd7 => ?_))
        refine ⟨d1, _, rfl, .inl ⟨sq_of hd7, fun t1 ht1 => ⟨by show 1 ≤ sizeLine; decide, fun b hb => ?_⟩⟩⟩
        have hP8 := hP7.ext e7
        have hW8 := hW7.ext e7
        have gt1 := fresh_back hP8.ex ht1
        have hP9 := hP8.new (o := .tup ((chn os (i + 1)).map V.int)) ht1
        have hW9 := hW8.new (o := .tup ((chn os (i + 1)).map V.int)) ht1 gt1
        have hA9 := hP9.ex _ _ ((Ex.new gt1) _ _ (eG' _ _ hGa))
        have hdq : DqA (upd G' t1 (.tup ((chn os (i + 1)).map V.int))) [.ref t1] ([chn os (i + 1)].map wd) := .cons (.tup upd_same (DqA.ints (chn os (i + 1)))) .nil
        have hrn := hI.len
        obtain ⟨f1, f2⟩ := Rz.put (i := x1.toNat) hP9 hW9 (by omega) hb hdq
        have eb := Ex.new (o := .lst [V.ref t1]) hb
        refine ⟨.ref R, rfl, .ref a, rfl, .int (1 + (i : Int)), rfl, a, _, _, .int x1, rfl, rfl, sq_of (eb _ _ hA9), at1, R, _, x1, x1.toNat, rfl, rfl, eb _ _ hW9.at_, by rw [List.length_map, hW7.len, hrn]; exact ixNat hx.1 hx.2, ?_⟩
        exact ⟨_, rs'.set x1.toNat b, _, _, _, rfl, eG'.trans (Ex.new gt1), f1, f2, hIt⟩
      · rintro σ' H5 ⟨G', rs', rows, o5, o6, rfl, eG', hP6, hW6, hrl6, ⟨hG, h2⟩, htk⟩
        exact ⟨.ref R, rfl, k G' H5 R rs' rows (eG.trans eG') hP6 hW6 hrl6 hG h2 htk⟩
end
end Wk

set_option Elab.async false
set_option linter.all false
set_option maxRecDepth 100000
set_option maxHeartbeats 2000000
namespace Wk
open PySem PySem.Spec PyProof.Rows L2 Evl
theorem lay_wds (ws : List Wy) : PyData.canLayAll0 (ws.map wd) = true := layAll.mpr fun d hd => by
  obtain ⟨w, _, rfl⟩ := List.mem_map.mp hd
  simp [wd, PyData.canLay0, lay_ints]
theorem dep_wds (ws : List Wy) : PyData.depthAll (ws.map wd) ≤ 1 := depAll.mpr fun d hd => by
  obtain ⟨w, _, rfl⟩ := List.mem_map.mp hd
  simp [wd, PyData.depth, depth_ints]
theorem shaped_wds (ws : List Wy) : SeqAt.shaped (.list (ws.map wd)) = true := by
  unfold SeqAt.shaped
  have h1 := lay_wds ws
  have h2 := dep_wds ws
  have : decide ((PyData.list (ws.map wd)).depth ≤ 64) = true := decide_eq_true (by simp only [PyData.depth]; omega)
  rw [this]
  simp [PyData.canLay0, h1]
theorem any_wd (ws : List Wy) (x : Wy) : ((ws.map wd).any fun z => PyData.eqv z (wd x)) = decide (x ∈ ws) := by
  induction ws with
  | nil => rfl
  | cons a l ih =>
    rw [List.map_cons, List.any_cons, ih, eqv_wd]
    by_cases h : a = x
    · subst h; simp
    · rw [decide_eq_false h, Bool.false_or, decide_eq_decide]
      constructor
      · exact fun z => List.mem_cons_of_mem _ z
      · intro z
        rcases List.mem_cons.mp z with e | e
        · exact absurd e.symm h
        · exact e
theorem DqA.wds_inv {G : Hp} : ∀ {ws : List Wy} {vs : List V} {i : Nat} {v : V}, DqA G vs (ws.map wd) → vs[i]? = some v → ∃ w, ws[i]? = some w ∧ Dq G v (wd w) := fun {ws vs i v} h e => by
  obtain ⟨d, e1, e2⟩ := h.get e
  rw [List.getElem?_map] at e1
  cases hw : ws[i]? with
  | none => rw [hw] at e1; cases e1
  | some w =>
    rw [hw] at e1
    cases e1
    exact ⟨w, rfl, e2⟩
theorem wd_ref {G : Hp} {v : V} {w : Wy} (h : Dq G v (wd w)) : ∃ a, v = .ref a ∧ G a = some (.tup (w.map V.int)) := by
  unfold wd at h
  cases h with
  | tup h1 h2 => exact ⟨_, rfl, by rw [h1, h2.int_inv]⟩
theorem wd_of {G : Hp} {a : Addr} {w : Wy} (h : G a = some (.tup (w.map V.int))) : Dq G (.ref a) (wd w) := .tup h (DqA.ints w)
theorem tk_cap {a b l l' : Nat} {cap : Int} (h : a * (l + 1) = b * (l' + 1)) (hl : l' = l + 1) (hc : (b : Int) / ((l : Int) + 1) * ((l : Int) + 2) ≤ cap) : (a : Int) ≤ cap := by
  subst hl
  have h2 : (a : Int) * ((l : Int) + 1) = (b : Int) * ((l : Int) + 2) := by
    have z : ((a * (l + 1) : Nat) : Int) = ((b * (l + 1 + 1) : Nat) : Int) := by rw [h]
    rw [Int.natCast_mul, Int.natCast_mul] at z
    exact z
  generalize (a : Int) = A at *
  generalize (b : Int) = B at *
  generalize hL : (l : Int) = L at *
  have hL0 : 0 ≤ L := by omega
  have e1 : A * (L + 1) = A * L + A := by rw [Int.mul_add, Int.mul_one]
  have e2 : B * (L + 2) = B * L + B * 2 := by rw [Int.mul_add]
  have e3 : (A - B) * (L + 1) = A * L - B * L + (A - B) := by rw [Int.mul_add, Int.mul_one, Int.sub_mul]
  have e4 : (A - B) * (L + 2) = A * L - B * L + (A - B) * 2 := by rw [Int.mul_add, Int.sub_mul]
  have hB : B = (A - B) * (L + 1) := by omega
  have hd : B / (L + 1) = A - B := by
    conv => lhs; rw [hB]
    exact Int.mul_ediv_cancel _ (by omega)
  rw [hd, e4] at hc
  omega
/-- what may stand behind a new router -/
def Bs (rows : List (List Wy)) (b : Wy) : Prop := b = [0] ∨ ∃ (j : Nat) (row' : List Wy), rows[j]? = some row' ∧ b ∈ row'
section
variable {P : Program} {w : World} {K : PySem.W.Frag} {mg : Str → Option Value} {base : Heap} {f : Addr} {fd : FuncData}
/-! _law_add -/
def spAdd : Sp := fun vs H Q _ => ∃ (G : Hp) (p q R : Addr) (rs : List Addr) (rows : List (List Wy)) (L : Nat) (cap : Int), vs = [.ref p, .ref R, .int (L : Int), .int cap] ∧ Pl G H p q ∧ Rz G H p q R rs rows ∧ 2 ≤ rows.length ∧ rows.length ≤ 8 ∧ L ≤ 6 ∧ GW rows ∧ (∀ row ∈ rows, row.length ≤ L) ∧
  ∀ G' H' rows', Ex G G' → Pl G' H' p q → Rz G' H' p q R rs rows' → rows'.length = rows.length → GW rows' → (∀ row ∈ rows', row.length ≤ L) → ((tks rows : Int) ≤ cap → (tks rows' : Int) ≤ cap) → Q .non H'
abbrev sAdd : Stmt := top 38
abbrev nAdd : List Str := ["_law_pool_here", "_law_lists_here", "_law_limit", "_law_cap", "_law_bases", "_law_takings", "_law_row", "_law_router", "_law_base", "_law_place", "_law_way"]
theorem scAdd : FnScope nAdd ["_law_pool_here", "_law_lists_here", "_law_limit", "_law_cap"] (defScope sAdd) := ⟨rfl, rfl, rfl, by decide +kernel, rfl, by decide +kernel, by decide +kernel⟩
theorem ok_add (B : Bl mg) (C : Cal P w K mg base "_law_draw" ["_law_pool_here", "_law_size"] 1 spDraw) (F : FnP K "_law_add" sAdd f fd) : FnOk P w K mg base CX0 2 f fd ["_law_pool_here", "_law_lists_here", "_law_limit", "_law_cap"] spAdd := by
  refine F.ok scAdd (fun vs H Q E h => ?_) (fun cdv A outer s H vs Q E hr h => ?_)
  · obtain ⟨G, p, q, R, rs, rows, L, cap, rfl, _⟩ := h
    rfl
  · obtain ⟨G, p, q, R, rs, rows, L, cap, rfl, hP, hW, hn2, hn8, hL, hG, hrl, k⟩ := h
    have hu : (A.deeper (envOfC "_law_add" (defScope sAdd) s.heap.objs.size f cdv)).units + 65 < cLine := by have := hr.un; omega
    refine ⟨_, pss_cons (ps_set (i := 4) scAdd.nd rfl (Or.inl rfl) (pe_lst (pa_cons (pe_tup (pa_cons pe_int pa_nil)) pa_nil)))
      (pss_cons (ps_set (i := 5) scAdd.nd rfl (Or.inl rfl) pe_int)
      (pss_cons (ps_for (passes_of rfl) rfl (pi_list (pv 1)) (pg_name (i := 6) scAdd.nd rfl (Or.inl rfl))
        (pss_cons (ps_set (i := 4) scAdd.nd rfl (Or.inl rfl) (pe_op op_cat (pv 4) (pv 6)))
          (pss_one (ps_set (i := 5) scAdd.nd rfl (Or.inl rfl) (pe_op op_mul (pv 5) (pe_op op_add (pe_callB call_len_seq (by rfl) B.len PySem.boot_len (pa_cons (pv 6) pa_nil)) pe_int))))))
      (pss_cons (ps_set (i := 7) scAdd.nd rfl (Or.inl rfl) (pe_op op_add pe_int (pe_cal C hr (by rfl) (pa_cons (pv 0) (pa_cons (pe_op op_sub (pe_callB call_len_seq (by rfl) B.len PySem.boot_len (pa_cons (pv 1) pa_nil)) pe_int) pa_nil)))))
      (pss_cons (ps_set (i := 8) scAdd.nd rfl (Or.inl rfl) (pe_ix ix_list (pv 4) (pe_cal C hr (by rfl) (pa_cons (pv 0) (pa_cons (pe_callB call_len_seq (by rfl) B.len PySem.boot_len (pa_cons (pv 4) pa_nil)) pa_nil))) (fun _ _ => rfl)))
      (pss_cons (ps_set (i := 6) scAdd.nd rfl (Or.inl rfl) (pe_ix ix_list (pv 1) (pv 7) (fun _ _ => rfl)))
      (pss_cons (ps_set (i := 9) scAdd.nd rfl (Or.inl rfl) (pe_cal C hr (by rfl) (pa_cons (pv 0) (pa_cons (pe_op op_add (pe_callB call_len_seq (by rfl) B.len PySem.boot_len (pa_cons (pv 6) pa_nil)) pe_int) pa_nil))))
      (pss_cons (ps_if (PW.pt (pw_or (pt_cmpR op_in_seq (pv 7) (pv 8) rfl) (pw_or (pt_cmpR op_gt (pe_callB call_len_seq (by rfl) B.len PySem.boot_len (pa_cons (pv 8) pa_nil)) pe_int (nomark _)) (pw_or1 (pt_cmpR op_ge (pe_callB call_len_seq (by rfl) B.len PySem.boot_len (pa_cons (pv 6) pa_nil)) (pv 2) (nomark _)))))) (pss_one ps_retN) pss_nil)
      (pss_cons (ps_set (i := 10) scAdd.nd rfl (Or.inl rfl) (pe_op op_catA (pe_tup (pa_cons (pv 7) pa_nil)) (pv 8)))
      (pss_one (ps_if (PW.pt (pw_and (pt_cmpR (op_notInD hu) (pv 10) (pv 6) rfl) (pw_and1 (pt_cmpR op_le (pe_op op_mul (pe_op op_fdiv (pv 5) (pe_op op_add (pe_callB call_len_seq (by rfl) B.len PySem.boot_len (pa_cons (pv 6) pa_nil)) pe_int)) (pe_op op_add (pe_callB call_len_seq (by rfl) B.len PySem.boot_len (pa_cons (pv 6) pa_nil)) pe_int)) (pv 3) (nomark _)))))
          (pss_one (ps_expr (pe_bm PySem.F.plainAttrs_list PySem.F.slot_list_insert PySem.F.type_list_insert mt_insert (pv 6) (pa_cons (pv 9) (pa_cons (pv 10) pa_nil))))) pss_nil)))))))))), ?_⟩
    refine ⟨by show 1 ≤ sizeLine; decide, fun t0 ht0 => ⟨by show 1 ≤ sizeLine; decide, fun b0 hb0 => ?_⟩⟩
    have gt0 := fresh_back hP.ex ht0
    have hP1 := hP.new (o := .tup [.int 0]) ht0
    have hW1 := hW.new (o := .tup [.int 0]) ht0 gt0
    have eG : Ex G (upd G t0 (.tup [.int 0])) := Ex.new gt0
    have eb := Ex.new (o := .lst [V.ref t0]) hb0
    have hd0 : DqA (upd G t0 (.tup [.int 0])) [.ref t0] ([[0]].map wd) := .cons (.tup upd_same (DqA.ints [0])) .nil
    generalize upd G t0 (.tup [.int 0]) = G1 at *
    have hP2 := hP1.ext eb
    have hW2 := hW1.ext eb
    refine g_name (q_c ?_)
    refine q_forL (K := K) (ev_var rfl) (sq_of hW2.at_) (fun i σ' H' => ∃ (b : Addr) (bs : List V) (ws : List Wy) (tk : Int) (o : Option V), σ' = [some (.ref p), some (.ref R), some (.int (L : Int)), some (.int cap), some (.ref b), some (.int tk), o, none, none, none, none] ∧ Pl G1 H' p q ∧ Rz G1 H' p q R rs rows ∧ H' b = some (.lst bs) ∧ b ≠ p ∧ b ≠ q ∧ DqA G1 bs (ws.map wd) ∧ (∀ b ∈ ws, Bs rows b) ∧ 1 ≤ ws.length ∧ ws.length ≤ 1 + 6 * i ∧ tk = (tks (rows.take i) : Int))
      (fun H3 e3 => ⟨b0, _, [[0]], 1, none, rfl, hP2.ext e3, hW2.ext e3, e3 _ _ upd_same, hP1.np hb0, hP1.nq hb0, hd0, fun d hd => .inl (List.mem_singleton.mp hd), by simp, by simp, rfl⟩) (fun i σ' H' _ p => by
        obtain ⟨_, _, _, _, _, _, _, h, _⟩ := p
        exact sq_of h.at_) ?_ ?_
    · rintro i x σ' H3 hx ⟨b, bs, ws, tk, o, rfl, hP3, hW3, hb, nbp, nbq, hd, hdi, hd1, hdl, htk⟩
      obtain ⟨r, hr1, rfl⟩ : ∃ r, rs[i]? = some r ∧ x = V.ref r := by
        rw [List.getElem?_map] at hx
        cases hq : rs[i]? with
        | none => rw [hq] at hx; cases hx
        | some r => rw [hq] at hx; exact ⟨r, rfl, (Option.some.inj hx).symm⟩
      have hil : i < rs.length := (List.getElem?_eq_some_iff.mp hr1).1
      have hil2 : i < rows.length := by rw [← hW3.len]; exact hil
      have hrw : rows[i]? = some rows[i] := List.getElem?_eq_getElem hil2
      obtain ⟨gr, rp, rq, vs, h1, h2⟩ := hW3.row i r _ hr1 hrw
      have hl2 := hrl _ (List.getElem_mem hil2)
      generalize rows[i] = row at *
      have lb := hd.length
      have lv := h2.length
      rw [List.length_map] at lb lv
      refine g_name ?_
      refine ⟨.ref b, rfl, .ref r, rfl, b, r, bs, vs, rfl, rfl, hb, h1, by rw [sizeLine_eq]; omega, fun b2 hb2 => ?_⟩
      have e2 := Ex.new (o := .lst (bs ++ vs)) hb2
      refine ⟨.int tk, rfl, .ref r, rfl, r, vs, rfl, .inl (sq_of (e2 _ _ h1)), _, 1, rfl, rfl, tk, _, rfl, rfl, .inr ⟨by omega, by omega⟩, ?_⟩
      exact ⟨b2, _, ws ++ row, _, _, rfl, hP3.ext e2, hW3.ext e2, upd_same, hP3.np hb2, hP3.nq hb2, by rw [List.map_append]; exact hd.append h2, fun d hx => (List.mem_append.mp hx).elim (hdi d) (fun z => .inr ⟨i, row, hrw, z⟩), by simp; omega, by simp; omega, by rw [tks_take hrw, htk, lv]; push_cast; rfl⟩
    · rintro σ' H3 ⟨b, bs, ws, tk, o, rfl, hP3, hW3, hb, nbp, nbq, hd, hdi, hd1, hdl, htk⟩
      have hrn : rs.length = rows.length := hW3.len
      rw [List.length_map, hrn, List.take_length] at htk
      rw [List.length_map] at hdl
      have lb := hd.length
      rw [List.length_map] at lb
      refine ⟨.ref p, rfl, .ref R, rfl, R, _, rfl, .inl (sq_of hW3.at_), _, 1, rfl, rfl, Hd H3 p q, p, q, _, rfl, hP3.hd, by rw [List.length_map]; omega, by rw [List.length_map]; omega, fun H4 y hP0 hy0 hy1 => ⟨1, y, rfl, rfl, ?_⟩⟩
      rw [List.length_map] at hy1
      have hP4 := hP3.back hP0
      have hW4 := hW3.off hP0.off
      have hb4 := hP0.off _ _ nbp nbq hb
      refine g_name ?_
      refine ⟨.ref b, rfl, .ref p, rfl, .ref b, rfl, b, bs, rfl, .inl (sq_of hb4), Hd H4 p q, p, q, _, rfl, hP4.hd, by omega, by omega, fun H5 z hP00 hz0 hz1 => ?_⟩
      have hP5 := hP4.back hP00
      have hW5 := hW4.off hP00.off
      have hb5 := hP00.off _ _ nbp nbq hb4
      obtain ⟨zn, rfl⟩ : ∃ m : Nat, z = (m : Int) := ⟨z.toNat, by omega⟩
      have hzl : zn < bs.length := by omega
      have hbz : bs[zn]? = some bs[zn] := List.getElem?_eq_getElem hzl
      obtain ⟨ns, eds, hdz⟩ := hd.wds_inv hbz
      have hns := hdi ns (List.mem_of_getElem? eds)
      generalize bs[zn] = bv at *
      obtain ⟨ba, rfl, hbt⟩ := wd_ref hdz
      refine ⟨b, bs, (zn : Int), .ref ba, rfl, rfl, sq_of hb5, atI_nat hbz, ?_⟩
      refine g_name ?_
      obtain ⟨rn, hrn'⟩ : ∃ m : Nat, (1 : Int) + y = (m : Int) := ⟨(1 + y).toNat, by omega⟩
      have hrl' : rn < rs.length := by omega
      have hrr : (rs.map V.ref)[rn]? = some (.ref rs[rn]) := by rw [List.getElem?_map, List.getElem?_eq_getElem hrl']; rfl
      have hrs : rs[rn]? = some rs[rn] := List.getElem?_eq_getElem hrl'
      have hrl2 : rn < rows.length := by omega
      have hrw : rows[rn]? = some rows[rn] := List.getElem?_eq_getElem hrl2
      generalize rs[rn] = r at *
      refine ⟨.ref R, rfl, .int (1 + y), rfl, R, _, _, .ref r, rfl, rfl, sq_of hW5.at_, by rw [hrn']; exact atI_nat hrr, ?_⟩
      refine g_name ?_
      obtain ⟨gr, rp, rq, vs, h1, h2⟩ := hW5.row rn r _ hrs hrw
      have hl2 := hrl _ (List.getElem_mem hrl2)
      generalize rows[rn] = row at *
      have lv := h2.length
      rw [List.length_map] at lv
      refine ⟨.ref p, rfl, .ref r, rfl, r, vs, rfl, .inl (sq_of h1), _, 1, rfl, rfl, Hd H5 p q, p, q, _, rfl, hP5.hd, by omega, by omega, fun H6 pl hP000 hpl0 hpl1 => ?_⟩
      have hP6 := hP5.back hP000
      have hW6 := hW5.off hP000.off
      have h16 := hP000.off _ _ rp rq h1
      refine g_name ?_
      change tSeq _ _ _ [some (.ref p), some (.ref R), some (.int (L : Int)), some (.int cap), some (.ref b), some (.int tk), some (.ref r), some (.int (1 + y)), some (.ref ba), some (.int pl), none] H6
      have hB : ∀ {H7 : Hp}, Ex H6 H7 → H7 ba = some (.tup (ns.map V.int)) := fun {H7} e => e _ _ (hP6.ex _ _ hbt)
      have hlb : Ev (tCB (rLenS K) (tCons (tVar 8) tNil)) [some (.ref p), some (.ref R), some (.int (L : Int)), some (.int cap), some (.ref b), some (.int tk), some (.ref r), some (.int (1 + y)), some (.ref ba), some (.int pl), none] H6 (.int ((ns.map V.int).length : Int)) := ev_lenT (ev_var rfl) (st_of (hB (Ex.refl H6)))
      have hlr : Ev (tCB (rLenS K) (tCons (tVar 6) tNil)) [some (.ref p), some (.ref R), some (.int (L : Int)), some (.int cap), some (.ref b), some (.int tk), some (.ref r), some (.int (1 + y)), some (.ref ba), some (.int pl), none] H6 (.int (vs.length : Int)) := ev_len (ev_var rfl) (sq_of h16)
      refine q_when (b := inV (.int (1 + y)) (ns.map V.int) || (decide (((ns.map V.int).length : Int) > 7) || decide ((vs.length : Int) ≥ (L : Int)))) (et_or (et_test (ev_op (ev_var rfl) (ev_var rfl) (rv_isT (st_of (hB (Ex.refl H6))) rfl (flat_ints ns)))) fun _ => et_or (et_test (ev_op hlb ev_c rv_I0)) fun _ => et_test (ev_op hlr (ev_var rfl) rv_I0)) (fun hb7 H7 e7 => k G1 H7 rows eG (hP6.ext e7) (hW6.ext e7) rfl hG hrl id) (fun hb7 H7 e7 => ?_)
      rw [inV_ints] at hb7
      simp only [Bool.or_eq_false_iff, decide_eq_false_iff_not, List.length_map] at hb7
      obtain ⟨hb70, hb71, hb72⟩ := hb7
      have hP7 := hP6.ext e7
      have hW7 := hW6.ext e7
      have h17 := e7 _ _ h16
      have hns7 : ns.length ≤ 7 := by omega
      have hvl : vs.length < L := by omega
      have hns1 : 1 ≤ ns.length := by
        rcases hns with z | ⟨j, row', z1, z2⟩
        · rw [z]; simp
        · have := (hG.ok j row' z1 ns z2).l2; omega
      refine ⟨.int (1 + y), rfl, by show 1 ≤ sizeLine; decide, fun t1 ht1 => ?_⟩
      have gt1 := fresh_back hP7.ex ht1
      have e8 := Ex.new (o := .tup [V.int (1 + y)]) ht1
      refine ⟨.ref ba, rfl, t1, ba, _, _, rfl, rfl, st_of upd_same, st_of (hB (e7.trans e8)), (by rw [List.length_map, sizeLine_eq]; show 1 + ns.length ≤ 16777216; omega), (fun z => by cases z), fun _ z => ?_, fun _ _ t2 ht2 => ?_⟩
      · rw [List.map_eq_nil_iff] at z
        rw [z] at hns1
        simp at hns1
      have hP8 := hP7.ext e8
      have hW8 := hW7.ext e8
      have gt2 := fresh_back hP8.ex ht2
      have hP9 := hP8.new (o := .tup ([V.int (1 + y)] ++ ns.map V.int)) ht2
      have hW9 := hW8.new (o := .tup ([V.int (1 + y)] ++ ns.map V.int)) ht2 gt2
      have e9 := Ex.new (o := .tup ([V.int (1 + y)] ++ ns.map V.int)) ht2
      have hw9 : Dq (upd G1 t2 (.tup ([V.int (1 + y)] ++ ns.map V.int))) (.ref t2) (wd ((1 + y) :: ns)) := .tup upd_same (DqA.ints ((1 + y) :: ns))
      have eG2 : Ex G1 (upd G1 t2 (.tup ([V.int (1 + y)] ++ ns.map V.int))) := Ex.new gt2
      have h19 := e9 _ _ (e8 _ _ h17)
      refine g_name ?_
      generalize upd G1 t2 (.tup ([V.int (1 + y)] ++ ns.map V.int)) = G2 at *
      generalize upd (upd H7 t1 (.tup [V.int (1 + y)])) t2 (.tup ([V.int (1 + y)] ++ ns.map V.int)) = H9 at *
      have h2' := h2.mono eG2
      have hlr9 : Ev (tCB (rLenS K) (tCons (tVar 6) tNil)) [some (.ref p), some (.ref R), some (.int (L : Int)), some (.int cap), some (.ref b), some (.int tk), some (.ref r), some (.int (1 + y)), some (.ref ba), some (.int pl), some (.ref t2)] H9 (.int (vs.length : Int)) := ev_len (ev_var rfl) (sq_of h19)
      have hbb : EvT (tTest (tOp (rNotInD K) (tVar 10) (tVar 6))) [some (.ref p), some (.ref R), some (.int (L : Int)), some (.int cap), some (.ref b), some (.int tk), some (.ref r), some (.int (1 + y)), some (.ref ba), some (.int pl), some (.ref t2)] H9 (!decide ((1 + y) :: ns ∈ row)) := by
        rw [← any_wd]
        refine et_test (ev_op (ev_var rfl) (ev_var rfl) fun H10 e10 Q2 q => ⟨wd ((1 + y) :: ns), row.map wd, Dq.dp (SeqAt.canLay_of_shaped (shaped_ints _)) (hw9.mono (hP9.ex.trans e10)), .lst (sq_of (e10 _ _ h19)) (DqA.dp (lay_wds row) (h2'.mono (hP9.ex.trans e10))), shaped_ints _, shaped_wds row, q H10 (Ex.refl H10)⟩)
      refine s_when (b := !decide ((1 + y) :: ns ∈ row) && decide (tk / ((vs.length : Int) + 1) * ((vs.length : Int) + 2) ≤ cap)) (et_and hbb fun _ => et_test (ev_op (ev_op (ev_op (ev_var rfl) (ev_op hlr9 ev_c rv_I0) (rv_I ⟨by omega, by omega⟩)) (ev_op hlr9 ev_c rv_I0) (rv_I (.inr ⟨by omega, by omega⟩))) (ev_var rfl) rv_I0)) (fun hb10 H10 e10 => ?_) (fun hb10 H10 e10 => k G2 H10 rows (eG.trans eG2) (hP9.ext e10) (hW9.ext e10) rfl hG hrl id)
      have h110 := e10 _ _ h19
      have hP10 := hP9.ext e10
      have hW10 := hW9.ext e10
      have hnin : (1 + y) :: ns ∉ row := by
        simp only [Bool.and_eq_true, Bool.not_eq_true', decide_eq_false_iff_not] at hb10
        exact hb10.1
      refine ⟨.ref r, rfl, .inl ⟨rfl, _, sq_of h110⟩, .int pl, rfl, .ref t2, rfl, r, vs, pl, .ref t2, rfl, rfl, h110, by rw [sizeLine_eq]; omega, hpl0, by omega, ?_⟩
      rw [hrn'] at hw9 hnin hb70
      have hdn : DqA G2 (vs.take pl.toNat ++ [.ref t2] ++ vs.drop pl.toNat) ((row.take pl.toNat ++ [(rn : Int) :: ns] ++ row.drop pl.toNat).map wd) := by
        rw [List.map_append, List.map_append, List.map_take, List.map_drop]
        exact ((h2'.take _).append (.cons hw9 .nil)).append (h2'.drop _)
      refine k G2 _ (rows.set rn (row.take pl.toNat ++ [(rn : Int) :: ns] ++ row.drop pl.toNat)) (eG.trans eG2) (hP10.mut (hW10.row rn r _ hrs hrw).1 rp rq) (hW10.mut hrs hdn) (List.length_set ..) (gw_add hG hrw (by omega) hns hb70 hns7 hnin _) (fun row2 hm => ?_) fun _ => ?_
      rotate_left
      · have z := tks_set (row' := row.take pl.toNat ++ [(rn : Int) :: ns] ++ row.drop pl.toNat) hrw
        have hc := (Bool.and_eq_true_iff.mp hb10).2
        exact tk_cap z (by simp; omega) (by rw [← lv, ← htk]; exact of_decide_eq_true hc)
      rcases List.mem_or_eq_of_mem_set hm with z | z
      · exact hrl row2 z
      · rw [z]
        simp
        omega
/-! _law_lists -/
def spLists : Sp := fun vs H Q _ => ∃ (G : Hp) (p q : Addr) (M L : Nat) (cap : Int), vs = [.ref p, .int (M : Int), .int (L : Int), .int cap] ∧ Pl G H p q ∧ 2 ≤ M ∧ M ≤ 8 ∧ 2 ≤ L ∧ L ≤ 6 ∧ (∀ n, n ≤ M → (tkM n : Int) ≤ cap) ∧ ∀ G' H' v rows, Ex G G' → Pl G' H' p q → Dq G' v (pd rows) → 2 ≤ rows.length → rows.length ≤ M → GW rows → (∀ row ∈ rows, row.length ≤ L) → (tks rows : Int) ≤ cap → Q v H'
abbrev sLists : Stmt := top 39
abbrev nLists : List Str := ["_law_pool_here", "_law_most", "_law_limit", "_law_cap", "_law_size", "_law_lists_here", "_law_count", "_law_row"]
theorem scLists : FnScope nLists ["_law_pool_here", "_law_most", "_law_limit", "_law_cap"] (defScope sLists) := ⟨rfl, rfl, rfl, by decide +kernel, rfl, by decide +kernel, by decide +kernel⟩
/-- tuple(row) for each row: the new tuples stay -/
structure Tupz (G0 H : Hp) (p q R : Addr) (rs : List Addr) (rows : List (List Wy)) (D : Addr) (i : Nat) : Prop where
  ex : ∃ (G : Hp) (ts : List V), Ex G0 G ∧ Pl G H p q ∧ Rz G H p q R rs rows ∧ H D = some (.lst ts) ∧ G D = none ∧ D ≠ p ∧ D ≠ q ∧ DqA G ts ((rows.take i).map rd)
theorem tupz_start {G H : Hp} {p q R D : Addr} {rs : List Addr} {rows : List (List Wy)} (hP : Pl G H p q) (hW : Rz G H p q R rs rows) (hD : H D = none) : Tupz G (upd H D (.lst [])) p q R rs rows D 0 :=
  ⟨G, [], Ex.refl _, hP.ext (Ex.new hD), hW.ext (Ex.new hD), upd_same, fresh_back hP.ex hD, hP.np hD, hP.nq hD, .nil⟩
theorem tupz_turn {K : PySem.W.Frag} {G0 H : Hp} {p q R D r : Addr} {rs : List Addr} {rows : List (List Wy)} {i : Nat} (hi : i < 1000) (h : Tupz G0 H p q R rs rows D i) (hr : rs[i]? = some r) (hDr : D ∉ rs) (hDR : D ≠ R) :
    ∃ pa ys, [V.ref r] = [.ref pa] ∧ ((SqL K H pa ys ∧ ∀ l, H l = none → ∃ acc, (upd H l (.tup ys)) D = some (.lst acc) ∧ acc.length < sizeLine ∧ Tupz G0 (upd (upd H l (.tup ys)) D (.lst (acc ++ [.ref l]))) p q R rs rows D (i + 1)) ∨
      (SqT K H pa ys ∧ ∃ acc, H D = some (.lst acc) ∧ acc.length < sizeLine ∧ Tupz G0 (upd H D (.lst (acc ++ [.ref pa]))) p q R rs rows D (i + 1))) := by
  obtain ⟨G, ts, eG, hP, hW, hD, gD, Dp, Dq', hts⟩ := h.ex
  have hil : i < rs.length := (List.getElem?_eq_some_iff.mp hr).1
  have hil2 : i < rows.length := by rw [← hW.len]; exact hil
  have hrw : rows[i]? = some rows[i] := List.getElem?_eq_getElem hil2
  obtain ⟨gr, rp, rq, vs, h1, h2⟩ := hW.row i r _ hr hrw
  refine ⟨r, vs, rfl, .inl ⟨sq_of h1, fun l hl' => ?_⟩⟩
  have gl := fresh_back hP.ex hl'
  have nDl : D ≠ l := ne_of_none hD hl'
  have hP1 := hP.new (o := .tup vs) hl'
  have hW1 := hW.new (o := .tup vs) hl' gl
  have tl := hts.length
  rw [List.length_map, List.length_take] at tl
  refine ⟨ts, by rw [upd_ne nDl]; exact hD, by rw [sizeLine_eq]; omega, upd G l (.tup vs), ts ++ [.ref l], eG.trans (Ex.new gl), hP1.mut (by rw [upd_ne nDl]; exact gD) Dp Dq', ?_, upd_same, by rw [upd_ne nDl]; exact gD, Dp, Dq', ?_⟩
  · refine ⟨by rw [upd_ne (Ne.symm hDR)]; exact hW1.at_, hW1.gR, hW1.Rp, hW1.Rq, hW1.nin, hW1.nd, hW1.len, fun k r' row' hr' hw' => ?_⟩
    obtain ⟨g', rp', rq', vs', h1', h2'⟩ := hW1.row k r' row' hr' hw'
    have nr : r' ≠ D := fun z => hDr (by rw [← z]; exact List.mem_of_getElem? hr')
    exact ⟨g', rp', rq', vs', by rw [upd_ne nr]; exact h1', h2'⟩
  · rw [take_snoc hrw, List.map_append]
    exact (hts.mono (Ex.new gl)).append (.cons (.tup upd_same (h2.mono (Ex.new gl))) .nil)
theorem ok_lists (B : Bl mg) (C : Cal P w K mg base "_law_draw" ["_law_pool_here", "_law_size"] 1 spDraw) (C2 : Cal P w K mg base "_law_planted" ["_law_pool_here", "_law_size"] 3 spPlanted) (C3 : Cal P w K mg base "_law_add" ["_law_pool_here", "_law_lists_here", "_law_limit", "_law_cap"] 2 spAdd) (F : FnP K "_law_lists" sLists f fd) : FnOk P w K mg base CX0 5 f fd ["_law_pool_here", "_law_most", "_law_limit", "_law_cap"] spLists := by
  refine F.ok scLists (fun vs H Q E h => ?_) (fun cdv A outer s H vs Q E hr h => ?_)
  · obtain ⟨G, p, q, M, L, cap, rfl, _⟩ := h
    rfl
  · obtain ⟨G, p, q, M, L, cap, rfl, hP, hM2, hM8, hL2, hL6, hcap, k⟩ := h
    have hr1 : Room 1 _ := hr.mono (by decide)
    have hr2 : Room 2 _ := hr.mono (by decide)
    refine ⟨_, pss_cons (ps_set (i := 4) scLists.nd rfl (Or.inl rfl) (pe_op op_add pe_int (pe_cal C hr1 (by rfl) (pa_cons (pv 0) (pa_cons (pe_op op_sub (pv 1) pe_int) pa_nil)))))
      (pss_cons (ps_set (i := 5) scLists.nd rfl (Or.inl rfl) (pe_cal C2 hr (by rfl) (pa_cons (pv 0) (pa_cons (pv 4) pa_nil))))
      (pss_cons (ps_for (passes_of rfl) rfl (pi_range1 (by rfl) B.range (pa_cons (pe_cal C hr1 (by rfl) (pa_cons (pv 0) (pa_cons pe_int pa_nil))) pa_nil)) (pg_name (i := 6) scLists.nd rfl (Or.inl rfl))
        (pss_one (ps_expr (pe_cal C3 hr2 (by rfl) (pa_cons (pv 0) (pa_cons (pv 5) (pa_cons (pv 2) (pa_cons (pv 3) pa_nil))))))))
      (pss_one (ps_ret (pe_callTy call_tuple_of (by rfl) B.tuple PyProof.Rows.boot_tuple (pa_cons (pe_lc (own := [("_law_row", 7)]) (g := gName 7) (tt := tYes) rfl scLists.nd (pi_list (pv 5)) (blkOk_by (N := nLists) (sc := defScope sLists) (by decide +kernel))
          (fun _ _ _ _ _ => pg_name (i := 7) scLists.nd rfl (Or.inl rfl)) (fun _ _ _ _ _ => pts_nil) (fun _ _ _ _ _ => pe_callTy (call_tupleK (K := K) rfl) (by rfl) B.tuple PyProof.Rows.boot_tuple (pa_cons (pv 7) pa_nil))) pa_nil)))))), ?_⟩
    refine ⟨.ref p, rfl, .int (M : Int), rfl, (M : Int), 1, rfl, rfl, Hd H p q, p, q, _, rfl, hP.hd, by omega, by omega, fun H1 y hP0 hy0 hy1 => ⟨2, y, rfl, rfl, ?_⟩⟩
    have hP1 := hP.back hP0
    obtain ⟨n, hn⟩ : ∃ n : Nat, (2 : Int) + y = (n : Int) := ⟨(2 + y).toNat, by omega⟩
    refine g_name ?_
    refine ⟨.ref p, rfl, .int (2 + y), rfl, G, p, q, n, by rw [hn]; rfl, hP1, by omega, by omega, fun G1 H2 R rs rows eG hP2 hW2 hrl hG hr2' htk => ?_⟩
    refine g_name ?_
    refine ⟨.ref p, rfl, Hd H2 p q, p, q, 16, rfl, hP2.hd, by decide, by decide, fun H3 cnt hP00 hc0 hc1 => ⟨cnt, rfl, by omega, by omega, for_range (lo := 0) (n := cnt.toNat) (fun i σ' H' => ∃ (G' : Hp) (rows : List (List Wy)) (o : Option V), σ' = [some (.ref p), some (.int (M : Int)), some (.int (L : Int)), some (.int cap), some (.int (2 + y)), some (.ref R), o, none] ∧ Ex G G' ∧ Pl G' H' p q ∧ Rz G' H' p q R rs rows ∧ rows.length = n ∧ GW rows ∧ (∀ row ∈ rows, row.length ≤ L) ∧ (tks rows : Int) ≤ cap) ⟨G1, rows, none, rfl, eG, hP2.back hP00, hW2.off hP00.off, hrl, hG, fun row hm => Nat.le_trans (hr2' row hm) hL2, Int.le_trans (Int.ofNat_le.mpr htk) (hcap n (by omega))⟩ ?_ ?_⟩⟩
    · rintro i σ' H4 hi ⟨G', rows', o, rfl, eG', hP4, hW4, hl4, hG4, hr4, ht4⟩
      exact ⟨.ref p, rfl, .ref R, rfl, .int (L : Int), rfl, .int cap, rfl, G', p, q, R, rs, rows', L, cap, rfl, hP4, hW4, by omega, by omega, hL6, hG4, hr4, fun G2 H5 rows2 eG2 hP5 hW5 hl5 hG5 hr5 ht5 => ⟨G2, rows2, _, rfl, eG'.trans eG2, hP5, hW5, by omega, hG5, hr5, ht5 ht4⟩⟩
    · clear hW2 hG hr2'
      rintro σ' H4 ⟨G', rows', o, rfl, eG', hP4, hW4, hl4, hG4, hr4, ht4⟩
      dsimp only
      refine ret_cb ?_
      refine ⟨.ref R, rfl, R, rfl, ⟨_, sq_of hW4.at_⟩, fun D hD => lc_list (K := K) (xs := rs.map V.ref) (fun i H' => Tupz G' H' p q R rs rows' D i) (tupz_start hP4 hW4 hD) (fun i H' _ h => ?_) ?_ ?_⟩
      · obtain ⟨G5, ts, _, _, hW, _⟩ := h.ex
        exact sq_of hW.at_
      · rintro i x H5 hx h
        obtain ⟨r, hr1, rfl⟩ : ∃ r, rs[i]? = some r ∧ x = V.ref r := by
          rw [List.getElem?_map] at hx
          cases hq : rs[i]? with
          | none => rw [hq] at hx; cases hx
          | some r => rw [hq] at hx; exact ⟨r, rfl, (Option.some.inj hx).symm⟩
        have hil := (List.getElem?_eq_some_iff.mp hr1).1
        have hln := hW4.len
        refine ⟨rfl, .ref r, rfl, ?_⟩
        exact tupz_turn (K := K) (by omega) h hr1 (fun z => by
          obtain ⟨_, _, _, _, h1⟩ := hW4.mem z
          rw [hD] at h1
          cases h1) (Ne.symm (ne_of_none hW4.at_ hD))
      · intro H5 h
        obtain ⟨G5, ts, eG5, hP5, hW5, hD5, gD5, Dp5, Dq5, hts⟩ := h.ex
        rw [List.length_map, hW4.len, List.take_length] at hts
        refine ⟨D, ts, rfl, .inl ⟨sq_of hD5, fun t ht => ?_⟩⟩
        have gt := fresh_back hP5.ex ht
        exact k (upd G5 t (.tup ts)) _ (.ref t) rows' ((eG'.trans eG5).trans (Ex.new gt)) (hP5.new ht) (.tup upd_same (hts.mono (Ex.new gt))) (by omega) (by omega) hG4 hr4 ht4
end
end Wk

set_option Elab.async false
set_option linter.all false
set_option maxRecDepth 100000
set_option maxHeartbeats 2000000
namespace Wk
open PySem PySem.Spec PyProof.Rows L2 Evl
mutual
theorem Dp.up {K : PySem.W.Frag} {G H : Hp} (e : Ex G H) : ∀ {d : PyData} {v : V}, Dp K G v d → Dp K H v d
  | .none, _, .non => .non
  | .bool _, _, .bl b => .bl b
  | .int _, _, .int i => .int i
  | .str _, _, .str x => .str x
  | .list _, _, .lst h a => .lst (ex_l e h) (DpAll.up e a)
  | .tuple _, _, .tup h a => .tup (ex_t e h) (DpAll.up e a)
theorem DpAll.up {K : PySem.W.Frag} {G H : Hp} (e : Ex G H) : ∀ {ds : List PyData} {vs : List V}, DpAll K G vs ds → DpAll K H vs ds
  | [], _, .nil => .nil
  | _ :: _, _, .cons h t => .cons (Dp.up e h) (DpAll.up e t)
end
theorem dpa_len {K : PySem.W.Frag} {G : Hp} : ∀ {ds : List PyData} {vs : List V}, DpAll K G vs ds → vs.length = ds.length
  | [], _, .nil => rfl
  | _ :: _, _, .cons _ t => congrArg Nat.succ (dpa_len t)
theorem dpa_at {K : PySem.W.Frag} {G : Hp} : ∀ {ds : List PyData} {vs : List V} {i : Nat} {d : PyData}, DpAll K G vs ds → ds[i]? = some d → ∃ v, vs[i]? = some v ∧ Dp K G v d
  | [], _, i, d, .nil, e => by simp at e
  | x :: _, v :: _, 0, d, .cons h t, e => ⟨v, rfl, by simp at e; subst e; exact h⟩
  | _ :: _, _ :: _, i + 1, d, .cons h t, e => by
    obtain ⟨v, e1, e2⟩ := dpa_at t (i := i) (by simpa using e)
    exact ⟨v, by simpa using e1, e2⟩
theorem dpa_app {K : PySem.W.Frag} {G : Hp} : ∀ {ds es : List PyData} {vs us : List V}, DpAll K G vs ds → DpAll K G us es → DpAll K G (vs ++ us) (ds ++ es)
  | [], _, _, _, .nil, h => h
  | _ :: _, _, _, _, .cons h t, u => .cons h (dpa_app t u)
theorem dpa_ints {K : PySem.W.Frag} {G : Hp} : ∀ {ns : List Int} {vs : List V}, DpAll K G vs (ns.map PyData.int) → vs = ns.map V.int
  | [], _, .nil => rfl
  | _ :: _, _, .cons (.int n) t => by rw [dpa_ints t]; rfl
theorem dp_wd {K : PySem.W.Frag} {G : Hp} {v : V} {w : Wy} (h : Dp K G v (wd w)) : ∃ a, v = .ref a ∧ SqT K G a (w.map V.int) := by
  unfold wd at h
  cases h with
  | tup h1 h2 =>
    rw [dpa_ints h2] at h1
    exact ⟨_, rfl, h1⟩
theorem dp_of_wd {K : PySem.W.Frag} {G : Hp} {a : Addr} {w : Wy} (h : SqT K G a (w.map V.int)) : Dp K G (.ref a) (wd w) := .tup h (DqA.dp (lay_ints w) (DqA.ints w))
section
variable {K : PySem.W.Frag} {σ : L2.St} {H : Hp} {te tl : TE}
/-- [e for i, x in enumerate(t)] -/
theorem el_lcEnT {a : Addr} {xs : List V} {i j : Nat} {vs : List Nat} (v : Nat → V) (h : Ev tl σ H (.ref a)) (hx : SqT K H a xs) (hz : xs.length ≤ 40000) (hw : ∀ x y, wipe (((wipe σ vs).set i (some x)).set j (some y)) vs = wipe σ vs)
    (he : ∀ (k : Nat) (x : V) H1, Ex H H1 → xs[k]? = some x → Ev te (((wipe σ vs).set i (some (.int (k : Nat)))).set j (some x)) H1 (v k)) :
    EvL (tLc (iEnumT K (tCons tl tNil)) (gTup K 2 (gCons (gName i) (gCons (gName j) gNil))) tYes te vs) σ H (given xs.length (fun _ => true) v) := fun H0 e Q q => h H0 e _ fun H1 e1 => ⟨a, xs, rfl, ex_t (e.trans e1) hx, fun Dl hD =>
  lc_it (walk_enumT (K := K) (a := a) (xs := xs)) (Cw H1 (fun _ => true) v Dl) ⟨hD, Ex.new hD, upd_same⟩ (fun i H' _ p => ex_t ((e.trans e1).trans p.2.1) hx)
    (fun k z H' H2 hk p y => by
      obtain ⟨T, u, y, rfl, hT, rfl, hu, hy⟩ := y
      cases hu
      have eT : Ex H' (upd H' T (.tup [.int (k : Nat), y])) := Ex.new hT
      refine ⟨T, _, rfl, st_of upd_same, rfl, g_two ⟨hw _ _, ?_⟩⟩
      exact cw_turn ⟨p.1, p.2.1.trans eT, eT _ _ p.2.2⟩ (by omega) et_yes (fun _ => he k y H1 (e.trans e1) hy))
    (fun H' p => q Dl H' (fresh_back e1 p.1) (e1.trans p.2.1) p.2.2)⟩
theorem ev_allEnT {a : Addr} {xs : List V} {i j : Nat} {vs : List Nat} (g : Nat → Bool) (h : Ev tl σ H (.ref a)) (hx : SqT K H a xs) (hz : xs.length ≤ 40000) (hw : ∀ x y, wipe (((wipe σ vs).set i (some x)).set j (some y)) vs = wipe σ vs)
    (he : ∀ (k : Nat) (x : V) H1, Ex H H1 → xs[k]? = some x → Ev te (((wipe σ vs).set i (some (.int (k : Nat)))).set j (some x)) H1 (.bl (g k))) :
    Ev (tCB (rAll K) (tCons (tLc (iEnumT K (tCons tl tNil)) (gTup K 2 (gCons (gName i) (gCons (gName j) gNil))) tYes te vs) tNil)) σ H (.bl (((List.range xs.length).map g).all id)) :=
  ev_allL (by
    have q := el_lcEnT (K := K) (te := te) (fun k => .bl (g k)) h hx hz hw he
    rw [given_all] at q
    rw [List.map_map]
    exact q)
/-- a tuple that is read: an old one, a new one, one of the module's -/
def EvQ (K : PySem.W.Frag) (te : TE) (σ : L2.St) (H : Hp) (xs : List V) : Prop := ∀ H1, Ex H H1 → ∀ Q : VK, (∀ p H2, Ex H1 H2 → SqT K H2 p xs → Q (.ref p) H2) → te σ H1 Q
theorem eq_sl {a : Addr} {xs : List V} {tl th : TO} {lo hi : Option Int} (h : Ev te σ H (.ref a)) (h1 : EvO tl σ H lo) (h2 : EvO th σ H hi) (hs : SqT K H a xs) : EvQ K (tSl (rSlA K) te tl th) σ H (cutV xs lo hi) := fun H1 e Q q =>
  h H1 e _ fun H2 e2 => h1 H2 (e.trans e2) _ fun H3 e3 => h2 H3 ((e.trans e2).trans e3) _ fun H4 e4 => by
    have hs4 := ex_t (((e.trans e2).trans e3).trans e4) hs
    refine ⟨a, xs, rfl, hs4, fun hw => ?_, fun hw p hp => q p _ (((e2.trans e3).trans e4).trans (Ex.new hp)) (st_of upd_same)⟩
    have ec : cutV xs lo hi = xs := by
      unfold cutV
      rw [hw.1, hw.2]
      simp
    rw [ec] at q
    exact q a H4 ((e2.trans e3).trans e4) hs4
theorem ev_opQ {ta tb : TE} {r : R2} {x z : V} {xs : List V} (ha : Ev ta σ H x) (hb : EvQ K tb σ H xs) (hr : ∀ p H1, SqT K H1 p xs → Ex H H1 → RV r x (.ref p) H1 z) : Ev (tOp r ta tb) σ H z := fun H1 e Q q =>
  ha H1 e _ fun H2 e2 => hb H2 (e.trans e2) _ fun p H3 e3 hp => hr p H3 hp ((e.trans e2).trans e3) H3 (Ex.refl H3) Q fun H4 e4 => q H4 ((e2.trans e3).trans e4)
/-- for x in a tuple that is told on the way -/
theorem q_forCT {g : TG} {tu tz : TS} {D : Ends} (C : Addr → List V → Hp → Prop) (h : ∀ Q : VK, (∀ l xs H1, C l xs H1 → Q (.ref l) H1) → tl σ H Q)
    (hC : ∀ l xs H1, C l xs H1 → SqT K H1 l xs ∧ ∃ Pv : Nat → L2.St → Hp → Prop, Pv 0 σ H1 ∧ (∀ i σ' H', i ≤ xs.length → Pv i σ' H' → SqT K H' l xs) ∧ (∀ i x σ' H', xs[i]? = some x → Pv i σ' H' → g x σ' H' fun σ2 H2 => tu { D with nx := Pv (i + 1), ct := Pv (i + 1), bk := tz D } σ2 H2) ∧ (∀ σ' H', Pv xs.length σ' H' → tz D σ' H')) : tSeq (tFor (iTup K tl) g tu) tz D σ H :=
  h _ fun l xs H1 c => by
    obtain ⟨hs, Pv, h0, hl, ht, hd⟩ := hC l xs H1 c
    exact ⟨l, rfl, ⟨xs, hs⟩, for_tup Pv h0 hl ht hd⟩
end
/-! wishes in the heap -/
structure WO (CW : Addr) (H : Hp) (v : V) (rows : List (List Wy)) : Prop where
  ex : ∃ w dx lv, v = .ref w ∧ H w = some (.ins CW dx (wf (rows.length : Int) lv)) ∧ Dq H lv (pd rows)
  g : GW rows
  n2 : 2 ≤ rows.length
  n8 : rows.length ≤ 8
  r6 : ∀ row ∈ rows, row.length ≤ 6
theorem WO.up {CW : Addr} {H H' : Hp} {v : V} {rows : List (List Wy)} (h : WO CW H v rows) (e : Ex H H') : WO CW H' v rows := by
  obtain ⟨w, dx, lv, h1, h2, h3⟩ := h.ex
  exact ⟨⟨w, dx, lv, h1, e _ _ h2, h3.mono e⟩, h.g, h.n2, h.n8, h.r6⟩
theorem ev_wsize {K : PySem.W.Frag} {mg : Str → Option Value} {CW : Addr} {σ : L2.St} {H : Hp} {te : TE} {v : V} {rows : List (List Wy)} (T : WTx K mg CW) (h : Ev te σ H v) (hw : WO CW H v rows) : Ev (tFld K te "size") σ H (.int (rows.length : Int)) := fun H1 e Q q =>
  h H1 e _ fun H2 e2 => by
    obtain ⟨w, dx, lv, rfl, h2, h3⟩ := (hw.up (e.trans e2)).ex
    exact ⟨w, CW, dx, _, _, rfl, h2, T.cl, T.nS, wf_size _ _, q H2 e2⟩
/-- wishes.ways(router) -/
theorem t_ways {CW CN : Addr} {W : L2.St → XK} {σ : L2.St} {H : Hp} {ta ti : TE} {v : V} {rows : List (List Wy)} {i : Nat} {row : List Wy} {Q : VK} (ha : Ev ta σ H v) (hw : WO CW H v rows) (hi : Ev ti σ H (.int (i : Int))) (hr : rows[i]? = some row) (k : ∀ u H', Ex H H' → Dq H' u (rd row) → Q u H') :
    tMeAt CW "ways" (spWays CW CN) W ta (tCons ti tNil) σ H Q := ha H (Ex.refl H) _ fun H1 e1 => by
  obtain ⟨w, dx, lv, rfl, h2, h3⟩ := (hw.up e1).ex
  refine ⟨w, dx, _, rfl, h2, wf_no _ _ (by decide +kernel) (by decide +kernel), hi H1 e1 _ fun H2 e2 => ?_⟩
  have hil := (List.getElem?_eq_some_iff.mp hr).1
  have hR : isR (((rows.map rd).length : Nat) : Int) (.int (i : Int)) = true := by
    rw [List.length_map]
    show (true && (decide (0 ≤ (i : Int)) && decide ((i : Int) ≤ (rows.length : Int) - 1))) = true
    rw [decide_eq_true (show 0 ≤ (i : Int) by omega), decide_eq_true (show (i : Int) ≤ (rows.length : Int) - 1 by omega)]
    rfl
  refine ⟨w, dx, lv, .int (i : Int), .int (i : Int), rows.map rd, rfl, by rw [List.length_map]; exact e2 _ _ h2, h3.mono e2, .int _, fun _ u d H3 hd hu e3 => ?_, fun z => ?_⟩
  · have ed : d = rd row := by
      rw [show (valI (.int (i : Int))).toNat = i by simp [valI], List.getElem?_map, hr] at hd
      exact (Option.some.inj hd).symm
    subst ed
    exact k u H3 ((e1.trans e2).trans e3) (hu.mono e3)
  · rw [hR] at z
    cases z
/-! data or wishes -/
def Tg (CW : Addr) (H : Hp) (v : V) : Option PyData → Prop
  | some d => Dq H v d
  | none => ∃ a dx fs, v = .ref a ∧ H a = some (.ins CW dx fs)
theorem Tg.up {CW : Addr} {H H' : Hp} {v : V} {o : Option PyData} (h : Tg CW H v o) (e : Ex H H') : Tg CW H' v o := by
  cases o with
  | some d => exact Dq.mono e h
  | none =>
    obtain ⟨a, dx, fs, h1, h2⟩ := h
    exact ⟨a, dx, fs, h1, e _ _ h2⟩
/-- what isinstance asks of the class -/
structure ITx (K : PySem.W.Frag) (CW : Addr) : Prop where
  cl : Cls K CW
  ha : PySem.W.findIn K (.ref CW) "__class__" = some (some (.builtin "object.__class__"))
  hn : PySem.W.specialIn K (.builtin "object.__class__") "__get__" = some (some (.builtin "getset_descriptor.__get__"))
  ht : PySem.W.takesIn K (.builtin "object.__class__") = some true
  hm : PySem.W.mroIn K CW (.type "object") = some true
  kt : PySem.W.kitOne K (.ref CW) (.type "tuple") = some false
def tgT : Option PyData → Bool
  | some d => isTu d
  | none => false
theorem ev_isiT {K : PySem.W.Frag} {CW : Addr} {σ : L2.St} {H : Hp} {ta : TE} {v : V} {o : Option PyData} (T : ITx K CW) (h : Ev ta σ H v) (hv : Tg CW H v o) : Ev (tCB (rIsi K) (tCons ta (tCons (tC (.ty "tuple")) tNil))) σ H (.bl (tgT o)) := by
  cases o with
  | some d => exact ev_isi h hv (kit_tup d)
  | none =>
    obtain ⟨a, dx, fs, rfl, h2⟩ := hv
    exact fun H1 e Q q => h H1 e _ fun H2 e2 => ⟨.ref a, .ty "tuple", .ref CW, .type "tuple", false, rfl, .ty "tuple", .base (.ins ((e.trans e2) _ _ h2) T.cl T.ha T.hn T.ht T.hm), T.kt, q H2 e2⟩
/-! takings, as plain rows -/
def od : Option Wy → PyData
  | none => .none
  | some w => wd w
def chW (rows : List (List Wy)) (i : Nat) : List Wy := if i = 0 then [[0]] else rows.getD i [] ++ [[]]
structure TkO (rows : List (List Wy)) (t : List (Option Wy)) : Prop where
  len : t.length = rows.length
  ok : ∀ (i : Nat) (x : Wy), t[i]? = some (some x) → x ∈ chW rows i
def hit (t : List (Option Wy)) (w : Wy) : Bool := decide (t.getD (w.getD 1 0).toNat none = some (w.drop 1))
def csL (t : List (Option Wy)) (own : Wy) : List Wy → Bool
  | [] => false
  | w :: ws => if w = own then false else if hit t w = true then true else csL t own ws
def csB (rows : List (List Wy)) (t : List (Option Wy)) (i : Nat) : Bool := match t.getD i none with
  | none => false
  | some own => if own ≠ [] ∧ t.getD (own.getD 1 0).toNat none ≠ none ∧ hit t own = false then true else csL t own (rows.getD i [])
theorem csL_drop {t : List (Option Wy)} {own : Wy} : ∀ {ws : List Wy} {i : Nat} {w : Wy}, ws[i]? = some w → csL t own (ws.drop i) = if w = own then false else if hit t w = true then true else csL t own (ws.drop (i + 1))
  | [], i, w, h => by simp at h
  | x :: ws, 0, w, h => by
    simp at h
    subst h
    rfl
  | x :: ws, i + 1, w, h => by
    simp only [List.drop_succ_cons]
    exact csL_drop (by simpa using h)
theorem ways_in {rows : List (List Wy)} (hG : GW rows) {i : Nat} {row : List Wy} {w : Wy} (hr : rows[i]? = some row) (hw : w ∈ row) : ∃ j : Nat, w[1]? = some (j : Int) ∧ w.getD 1 0 = (j : Int) ∧ j < rows.length ∧ w ≠ [] := by
  have ok := hG.ok i row hr w hw
  have h1 : w[1]? = some (w[1]'(by have := ok.l2; omega)) := List.getElem?_eq_getElem _
  have rg := ok.rg _ (List.mem_of_getElem? h1)
  generalize w[1]'(by have := ok.l2; omega) = x at *
  refine ⟨x.toNat, by rw [h1]; congr 1; omega, by rw [List.getD_eq_getElem?_getD, h1]; show x = _; omega, by omega, fun z => ?_⟩
  have := ok.l2
  rw [z] at this
  simp at this
theorem shaped_wd (w : Wy) : SeqAt.shaped (wd w) = true := shaped_ints w
theorem shaped_od (o : Option Wy) : SeqAt.shaped (od o) = true := by
  cases o with
  | none => rfl
  | some w => exact shaped_wd w
theorem eqv_od (o : Option Wy) (w : Wy) : PyData.eqv (od o) (wd w) = decide (o = some w) := by
  cases o with
  | none => simp [od, wd, PyData.eqv]
  | some u =>
    show PyData.eqv (wd u) (wd w) = _
    rw [eqv_wd]
    simp
end Wk

set_option Elab.async false
set_option linter.all false
set_option maxRecDepth 100000
set_option maxHeartbeats 2000000
namespace Wk
open PySem PySem.Spec PyProof.Rows L2 Evl
/-- wishes' methods and names, for one who calls them -/
structure WC (P : Program) (w : World) (K : PySem.W.Frag) (mg : Str → Option Value) (base : Heap) (CW CN : Addr) : Prop where
  tx : WTx K mg CW
  it : ITx K CW
  wy : ∃ (fM : Addr) (fd : FuncData), Meth K CW "ways" fM ∧ FnOk P w K mg base (L2.CX P w) 5 fM fd ["self", "router"] (spWays CW CN) ∧ Binds K fd ["self", "router"] []
def intsB (d : PyData) : Bool := isTu d && (itemsT d).all isI
theorem intsB_wd {d : PyData} (h : intsB d = true) : d = wd (rts d) := by
  unfold intsB at h
  obtain ⟨h1, h2⟩ := Bool.and_eq_true_iff.mp h
  cases d <;> first | (simp [isTu] at h1; done) | skip
  rename_i ds
  have h2' : ds.all isI = true := h2
  unfold wd rts itemsT
  congr 1
  clear h1 h2 h
  induction ds with
  | nil => rfl
  | cons x l ih =>
    have h3 : isI x = true ∧ l.all isI = true := by simpa using h2'
    show x :: l = .int (valI x) :: (l.map valI).map PyData.int
    rw [← ih h3.2, ← isI_eq h3.1]
def chB (rows : List (List Wy)) (i : Nat) (d : PyData) : Bool := intsB d && decide (rts d ∈ chW rows i)
def tgN (n : Int) : Option PyData → Bool
  | some d => isTu d && decide (V.int ((itemsT d).length : Int) = V.int n)
  | none => false
def tkB (rows : List (List Wy)) (o : Option PyData) : Bool := tgN (rows.length : Int) o && match o with
  | some d => ((List.range (itemsT d).length).map fun k => (((itemsT d)[k]?).map (chB rows k)).getD false).all id
  | none => true
section
variable {P : Program} {w : World} {K : PySem.W.Frag} {mg : Str → Option Value} {base : Heap} {f : Addr} {fd : FuncData} {CW CN : Addr}
/-! is_tuple_of, is_integer_tuple -/
abbrev spTupOf (CW : Addr) : Sp := spP fun H vs z => ∃ (n : Int) (v : V) (o : Option PyData), vs = [.int n, v] ∧ Tg CW H v o ∧ z = .bl (tgN n o)
abbrev sTupOf : Stmt := top 9
theorem scTupOf : FnScope ["many", "thing"] ["many", "thing"] (defScope sTupOf) := ⟨rfl, rfl, rfl, by decide +kernel, rfl, by decide +kernel, by decide +kernel⟩
theorem ok_tupOf (B : Bl mg) (T : ITx K CW) (F : FnP K "is_tuple_of" sTupOf f fd) : FnOk P w K mg base CX0 1 f fd ["many", "thing"] (spTupOf CW) := by
  refine F.ok scTupOf (fun vs H Q E h => ?_) (fun cdv A outer s H vs Q E hr h => ?_)
  · obtain ⟨z, ⟨n, v, o, rfl, _⟩, _⟩ := h
    rfl
  · obtain ⟨z, ⟨n, v, o, rfl, hv, rfl⟩, k⟩ := h
    refine ⟨_, pss_one (ps_ret (pe_and (pe_callB call_isi (by rfl) B.isi boot_isinstance (pa_cons (pv 1) (pa_cons (pe_bltn (v := .ty "tuple") (by rfl) B.tuple PyProof.Rows.boot_tuple rfl) pa_nil)))
      (pe_one (pe_cmpR op_eq (pe_callB call_len_seq (by rfl) B.len PySem.boot_len (pa_cons (pv 1) pa_nil)) (pv 0) (nomark _))))), ?_⟩
    have e : tgN n o = (tgT o && tgN n o) := by
      cases o with
      | none => rfl
      | some d =>
        show (isTu d && _) = (isTu d && (isTu d && _))
        cases isTu d <;> rfl
    rw [e] at k
    refine s_ret (ev_andV (ev_isiT T (ev_var rfl) hv) fun ht => ?_) k
    cases o with
    | none => cases ht
    | some d =>
      have ht' : isTu d = true := ht
      have hv' : Dq H v d := hv
      cases hv' <;> first | (simp [isTu] at ht'; done) | skip
      rename_i a xs ds h1 h2
      have q := ev_op (H := H) (σ := start ["many", "thing"] [.int n, .ref a]) (ev_lenT (K := K) (ta := tVar 1) (ev_var rfl) (st_of h1)) (ev_var (i := 0) rfl) (rv_eq (x := .int (xs.length : Int)) (y := .int n) rfl)
      rw [h2.length] at q
      exact q
/-! choices, is_choice -/
def spChoices (K : PySem.W.Frag) (CW : Addr) : Sp := fun vs H Q _ => ∃ (v : V) (i : Nat) (rows : List (List Wy)), vs = [v, .int (i : Int)] ∧ WO CW H v rows ∧ i < rows.length ∧ ∀ H' l us, Ex H H' → H l = none → H' l = some (.lst us) → DpAll K H' us ((chW rows i).map wd) → Q (.ref l) H'
abbrev sChoices : Stmt := top 17
theorem scChoices : FnScope ["wishes", "router"] ["wishes", "router"] (defScope sChoices) := ⟨rfl, rfl, rfl, by decide +kernel, rfl, by decide +kernel, by decide +kernel⟩
theorem ok_choices (B : Bl mg) (W : WC P w K mg base CW CN) {ag : Addr} (hG : mg "GOAL_WAY" = some (.ref ag)) (hGt : ∀ H, SqT K H ag [.int 0]) (F : FnP K "choices" sChoices f fd) : FnOk P w K mg base CX0 6 f fd ["wishes", "router"] (spChoices K CW) := by
  obtain ⟨fM, fdM, me, FM, bM⟩ := W.wy
  refine F.ok scChoices (fun vs H Q E h => ?_) (fun cdv A outer s H vs Q E hr h => ?_)
  · obtain ⟨v, i, rows, rfl, _⟩ := h
    rfl
  · obtain ⟨v, i, rows, rfl, hw, hi, k⟩ := h
    refine ⟨_, pss_cons (ps_if (pt_cmpR op_eq (pv 1) pe_int (nomark _)) (pss_one (ps_ret (pe_lst (pa_cons (pe_glob (v := .ref ag) (by rfl) hG rfl) pa_nil)))) pss_nil)
      (pss_one (ps_ret (pe_op op_cat (pe_callTy (call_listK2 (K := K) rfl) (by rfl) B.list PyProof.Rows.boot_list (pa_cons (pe_meAt (pv 0) W.tx.cl me FM hr bM (fun σ => passAt takes0 σ) (pa_cons (pv 1) pa_nil)) pa_nil)) (pe_lst (pa_cons (pe_tup pa_nil) pa_nil))))), ?_⟩
    refine q_when (b := decide (V.int (i : Int) = V.int 0)) (et_test (ev_op (ev_var rfl) ev_c (rv_eq rfl))) (fun hb H1 e1 => ?_) (fun hb H1 e1 => ?_)
    · have i0 : i = 0 := by have := of_decide_eq_true hb; injection this; omega
      subst i0
      refine ⟨by show 1 ≤ sizeLine; decide, fun l hl => k _ l _ (e1.trans (Ex.new hl)) (fresh_back e1 hl) upd_same ?_⟩
      exact .cons (dp_of_wd (w := [0]) (hGt _)) .nil
    · have i0 : i ≠ 0 := fun z => by rw [z] at hb; simp at hb
      have hrw : rows[i]? = some rows[i] := List.getElem?_eq_getElem hi
      have hec : chW rows i = rows[i] ++ [[]] := by
        unfold chW
        rw [if_neg i0, List.getD_eq_getElem?_getD, hrw]
        rfl
      have hr6 := hw.r6 _ (List.getElem_mem hi)
      rw [hec] at k
      generalize rows[i] = row at *
      refine ret_op (cb1 (t_ways (σ := start ["wishes", "router"] [v, .int (i : Int)]) (ev_var rfl) (hw.up e1) (ev_var rfl) hrw fun u H2 e2 hu => ?_))
      unfold rd at hu
      cases hu with
      | tup h1 h2 =>
        rename_i a xs
        have hxl := h2.length
        rw [List.length_map] at hxl
        refine ⟨a, xs, rfl, .inr (st_of h1), fun l hl => ⟨by show 0 ≤ sizeLine; decide, fun t ht => ⟨by show 1 ≤ sizeLine; decide, fun b hb2 => ?_⟩⟩⟩
        have e3 := Ex.new (o := .lst xs) hl
        have e4 := Ex.new (o := .tup ([] : List V)) ht
        have e5 := Ex.new (o := .lst [V.ref t]) hb2
        refine ⟨l, b, xs, [.ref t], rfl, rfl, e5 _ _ (e4 _ _ upd_same), upd_same, by rw [sizeLine_eq]; show xs.length + 1 ≤ _; omega, fun c hc => ?_⟩
        have e6 := Ex.new (o := .lst (xs ++ [V.ref t])) hc
        have e36 := ((e3.trans e4).trans e5).trans e6
        refine k _ c _ ((e1.trans e2).trans e36) ?_ upd_same ?_
        · exact fresh_back ((e1.trans e2).trans ((e3.trans e4).trans e5)) hc
        · rw [List.map_append]
          refine dpa_app (DpAll.up e36 (DqA.dp (lay_wds row) h2)) (.cons (dp_of_wd (w := []) (st_of ?_)) .nil)
          exact (e5.trans e6) _ _ upd_same
end
end Wk

set_option Elab.async false
set_option linter.all false
set_option maxRecDepth 100000
set_option maxHeartbeats 2000000
namespace Wk
open PySem PySem.Spec PyProof.Rows L2 Evl
theorem int_dec (a b : Int) : decide (V.int a = V.int b) = decide (a = b) := by
  rw [decide_eq_decide]
  exact ⟨fun z => by injection z, fun z => by rw [z]⟩
theorem dp_od_none {K : PySem.W.Frag} {H : Hp} {v : V} (h : Dp K H v (od none)) : v = .non := by
  cases h
  rfl
/-! items[way[1]] and way[1:], way at an address -/
section
variable {K : PySem.W.Frag} {σ : L2.St} {H : Hp}
theorem ev_second {tw : TE} {a : Addr} {w : Wy} {j : Nat} (hw : Ev tw σ H (.ref a)) (ha : SqT K H a (w.map V.int)) (hj : w[1]? = some (j : Int)) : Ev (tOp (rIxT K) tw (tC (.int 1))) σ H (.int (j : Int)) :=
  ev_op hw ev_c (rv_ixT ha (atI_nat (j := 1) (by rw [List.getElem?_map, hj]; rfl)))
theorem ev_at {ti tj : TE} {b : Addr} {xs : List V} {j : Nat} {x : V} (hi : Ev ti σ H (.ref b)) (hb : SqT K H b xs) (hj : Ev tj σ H (.int (j : Int))) (hx : xs[j]? = some x) : Ev (tOp (rIxT K) ti tj) σ H x := ev_op hi hj (rv_ixT hb (atI_nat hx))
theorem eq_tail {tw : TE} {a : Addr} {w : Wy} (hw : Ev tw σ H (.ref a)) (ha : SqT K H a (w.map V.int)) : EvQ K (tSl (rSlA K) tw (tPart (tC (.int 1))) tNoPart) σ H ((w.drop 1).map V.int) := by
  rw [← drop1]
  exact eq_sl hw (eo_some ev_c) eo_none ha
theorem ev_eqTail {tx ts : TE} {x : V} {o : Option Wy} {u : Wy} (hx : Ev tx σ H x) (hd : Dp K H x (od o)) (hs : EvQ K ts σ H (u.map V.int)) : Ev (tOp (rEqD K) tx ts) σ H (.bl (decide (o = some u))) := by
  rw [← eqv_od]
  exact ev_opQ hx hs fun p H1 hp e => fun H2 e2 Q2 q => ⟨od o, wd u, Dp.up (e.trans e2) hd, dp_of_wd (ex_t e2 hp), shaped_od o, shaped_wd u, q H2 (Ex.refl H2)⟩
theorem ev_neTail {tx ts : TE} {x : V} {o : Option Wy} {u : Wy} (hx : Ev tx σ H x) (hd : Dp K H x (od o)) (hs : EvQ K ts σ H (u.map V.int)) : Ev (tOp (rNeD K) tx ts) σ H (.bl (!decide (o = some u))) := by
  rw [← eqv_od]
  exact ev_opQ hx hs fun p H1 hp e => fun H2 e2 Q2 q => ⟨od o, wd u, Dp.up (e.trans e2) hd, dp_of_wd (ex_t e2 hp), shaped_od o, shaped_wd u, q H2 (Ex.refl H2)⟩
theorem ev_eqWy {tx ty : TE} {x y : V} {a b : Wy} (hx : Ev tx σ H x) (hy : Ev ty σ H y) (hd : Dp K H x (wd a)) (he : Dp K H y (wd b)) : Ev (tOp (rEqD K) tx ty) σ H (.bl (decide (a = b))) := by
  rw [← eqv_wd]
  exact ev_op hx hy fun H2 e2 Q2 q => ⟨wd a, wd b, Dp.up e2 hd, Dp.up e2 he, shaped_wd a, shaped_wd b, q H2 (Ex.refl H2)⟩
end
section
variable {P : Program} {w : World} {K : PySem.W.Frag} {mg : Str → Option Value} {base : Heap} {f : Addr} {fd : FuncData} {CW CN : Addr}
/-! cannot_stay -/
abbrev spStay (K : PySem.W.Frag) (CW : Addr) : Sp := spP fun H vs z => ∃ (wv iv : V) (i : Nat) (rows : List (List Wy)) (t : List (Option Wy)), vs = [wv, iv, .int (i : Int)] ∧ WO CW H wv rows ∧ Dp K H iv (.tuple (t.map od)) ∧ TkO rows t ∧ 1 ≤ i ∧ i < rows.length ∧ z = .bl (csB rows t i)
abbrev sStay : Stmt := top 19
abbrev nStay : List Str := ["wishes", "items", "router", "own", "way"]
theorem scStay : FnScope nStay ["wishes", "items", "router"] (defScope sStay) := ⟨rfl, rfl, rfl, by decide +kernel, rfl, by decide +kernel, by decide +kernel⟩
theorem ok_stay (B : Bl mg) (W : WC P w K mg base CW CN) (F : FnP K "cannot_stay" sStay f fd) : FnOk P w K mg base CX0 6 f fd ["wishes", "items", "router"] (spStay K CW) := by
  obtain ⟨fM, fdM, me, FM, bM⟩ := W.wy
  refine F.ok scStay (fun vs H Q E h => ?_) (fun cdv A outer s H vs Q E hr h => ?_)
  · obtain ⟨z, ⟨wv, iv, i, rows, t, rfl, _⟩, _⟩ := h
    rfl
  · obtain ⟨z, ⟨wv, iv, i, rows, t, rfl, hw, hv, ht, hi1, hin, rfl⟩, k⟩ := h
    have hu : (A.deeper (envOfC "cannot_stay" (defScope sStay) s.heap.objs.size f cdv)).units + 64 < cLine := by have := hr.un; omega
    have hu0 : (A.deeper (envOfC "cannot_stay" (defScope sStay) s.heap.objs.size f cdv)).units < cLine := by omega
    refine ⟨_, pss_cons (ps_set (i := 3) scStay.nd rfl (Or.inl rfl) (pe_ix ix_tup (pv 1) (pv 2) (fun _ _ => rfl)))
      (pss_cons (ps_if (pt_cmpR op_isN (pv 3) pe_non (nomark _)) (pss_one (ps_ret pe_bl)) pss_nil)
      (pss_cons (ps_if (PW.pt (pw_and (pt_cmpR (op_neEU hu0) (pv 3) (pe_tup pa_nil) (nomark _)) (pw_and (pt_cmpR op_notN (pe_ix ix_tup (pv 1) (pe_ix ix_tup (pv 3) pe_int (fun _ _ => rfl)) (fun _ _ => rfl)) pe_non (nomark _)) (pw_and1 (pt_cmpR (op_neD hu) (pe_ix ix_tup (pv 1) (pe_ix ix_tup (pv 3) pe_int (fun _ _ => rfl)) (fun _ _ => rfl)) (pe_slice sl_tupA (pv 3) (po_some pe_int) po_none) (nomark _)))))) (pss_one (ps_ret pe_bl)) pss_nil)
      (pss_cons (ps_for (passes_of rfl) rfl (pi_tup (pe_meAt (pv 0) W.tx.cl me FM hr bM (fun σ => passAt takes0 σ) (pa_cons (pv 2) pa_nil))) (pg_name (i := 4) scStay.nd rfl (Or.inl rfl))
        (pss_cons (ps_if (pt_cmpR (op_eqD hu) (pv 4) (pv 3) (nomark _)) (pss_one (ps_ret pe_bl)) pss_nil)
        (pss_one (ps_if (pt_cmpR (op_eqD hu) (pe_ix ix_tup (pv 1) (pe_ix ix_tup (pv 4) pe_int (fun _ _ => rfl)) (fun _ _ => rfl)) (pe_slice sl_tupA (pv 4) (po_some pe_int) po_none) (nomark _)) (pss_one (ps_ret pe_bl)) pss_nil))))
      (pss_one (ps_ret pe_bl))))), ?_⟩
    have hG := hw.g
    have hil : i < t.length := by rw [ht.len]; exact hin
    have hti : t[i]? = some t[i] := List.getElem?_eq_getElem hil
    have etg : t.getD i none = t[i] := by rw [List.getD_eq_getElem?_getD, hti]; rfl
    have hrw : rows[i]? = some rows[i] := List.getElem?_eq_getElem hin
    have erg : rows.getD i [] = rows[i] := by rw [List.getD_eq_getElem?_getD, hrw]; rfl
    unfold csB at k
    rw [etg, erg] at k
    generalize hox : t[i] = o at *
    generalize rows[i] = row at *
    cases hv with
    | tup hb hxs =>
      rename_i b xs
      have hxl := dpa_len hxs
      rw [List.length_map] at hxl
      obtain ⟨x, hx, hdx⟩ := dpa_at (i := i) (d := od o) hxs (by rw [List.getElem?_map, hti]; rfl)
      refine q_asg (ev_at (K := K) (ev_var (i := 1) rfl) hb (ev_var (i := 2) rfl) hx) fun H1 e1 => ?_
      change tSeq _ _ _ [some wv, some (.ref b), some (.int (i : Int)), some x, none] H1
      cases o with
      | none =>
        have ex := dp_od_none hdx
        subst ex
        refine q_when (b := decide (V.non = V.non)) (et_test (ev_op (ev_var rfl) ev_c fun H2 e2 Q2 q => ⟨rfl, q H2 (Ex.refl H2)⟩)) (fun hb2 H2 e2 => s_ret ev_c fun H3 e3 => k H3 ((e1.trans e2).trans e3)) (fun z => by simp at z)
      | some own =>
        obtain ⟨ao, rfl, hao⟩ := dp_wd hdx
        refine q_when (b := decide (V.ref ao = V.non)) (et_test (ev_op (ev_var rfl) ev_c fun H2 e2 Q2 q => ⟨rfl, q H2 (Ex.refl H2)⟩)) (fun z => by simp at z) (fun _ H2 e2 => ?_)
        have k' : ∀ (H' : Hp), Ex H H' → Q (.bl (if own ≠ [] ∧ t.getD (own.getD 1 0).toNat none ≠ none ∧ hit t own = false then true else csL t own row)) H' := k
        clear k
        -- the items of a way in some row
        have item : ∀ (u : Wy) (r : Nat) (row' : List Wy), rows[r]? = some row' → u ∈ row' → ∃ (j : Nat) (y : V) (oj : Option Wy), u[1]? = some (j : Int) ∧ (u.getD 1 0).toNat = j ∧ xs[j]? = some y ∧ Dp K H y (od oj) ∧ t.getD j none = oj := fun u r row' h1 h2 => by
          obtain ⟨j, j1, j2, j3, _⟩ := ways_in hG h1 h2
          have hjl : j < t.length := by rw [ht.len]; exact j3
          have htj : t[j]? = some t[j] := List.getElem?_eq_getElem hjl
          obtain ⟨y, y1, y2⟩ := dpa_at (i := j) (d := od t[j]) hxs (by rw [List.getElem?_map, htj]; rfl)
          exact ⟨j, y, t[j], j1, by rw [j2]; rfl, y1, y2, by rw [List.getD_eq_getElem?_getD, htj]; rfl⟩
        have hown : own ≠ [] → own ∈ row := fun hne => by
          have q := ht.ok i own hti
          unfold chW at q
          rw [if_neg (by omega), erg] at q
          rcases List.mem_append.mp q with z | z
          · exact z
          · exact absurd (List.mem_singleton.mp z) hne
        have vi : ∀ {H3 : Hp} {o4 : Option V}, Ev (tVar 1) [some wv, some (.ref b), some (.int (i : Int)), some (.ref ao), o4] H3 (.ref b) := ev_var rfl
        have vo : ∀ {H3 : Hp} {o4 : Option V}, Ev (tVar 3) [some wv, some (.ref b), some (.int (i : Int)), some (.ref ao), o4] H3 (.ref ao) := ev_var rfl
        refine q_when (b := decide (own ≠ [] ∧ t.getD (own.getD 1 0).toNat none ≠ none ∧ hit t own = false)) ?_ (fun hb2 H3 e3 => s_ret ev_c fun H4 e4 => ?_) (fun hb2 H3 e3 => ?_)
        · by_cases hne : own = []
          · refine et_is (et_and (a := false) (b := false) (et_test (ev_is (v := .bl (!(own.map V.int).isEmpty)) (ev_opU vo (eu_tup ea_nil (by simp)) fun c H3 hc e3 => fun H4 e4 Q2 q => ⟨ao, c, own.map V.int, rfl, rfl, ex_t (((e1.trans e2).trans e3).trans e4) hao, st_of (e4 _ _ hc), q H4 (Ex.refl H4)⟩) (by rw [hne]; rfl))) (fun z => by cases z)) (by simp [hne])
          · obtain ⟨j, y, oj, j1, j2, j3, j4, j5⟩ := item own i row hrw (hown hne)
            have e12 := e1.trans e2
            have hsec : Ev (tOp (rIxT K) (tVar 1) (tOp (rIxT K) (tVar 3) (tC (.int 1)))) [some wv, some (.ref b), some (.int (i : Int)), some (.ref ao), none] H2 y := ev_at vi (ex_t e12 hb) (ev_second vo (ex_t e12 hao) j1) j3
            refine et_is (et_and (a := true) (b := (!decide (y = V.non)) && !decide (oj = some (own.drop 1))) (et_test (ev_is (v := .bl (!(own.map V.int).isEmpty)) (ev_opU vo (eu_tup ea_nil (by simp)) fun c H3 hc e3 => fun H4 e4 Q2 q => ⟨ao, c, own.map V.int, rfl, rfl, ex_t ((e12.trans e3).trans e4) hao, st_of (e4 _ _ hc), q H4 (Ex.refl H4)⟩) (by cases own <;> first | exact absurd rfl hne | rfl)))
              (fun _ => et_and (et_test (ev_op hsec ev_c fun H3 e3 Q2 q => ⟨rfl, q H3 (Ex.refl H3)⟩)) fun _ => et_test (ev_neTail hsec (Dp.up e12 j4) (eq_tail vo (ex_t e12 hao))))) ?_
            rw [j2, j5]
            have hh : hit t own = decide (oj = some (own.drop 1)) := by unfold hit; rw [j2, j5]
            rw [hh]
            cases oj with
            | none =>
              rw [dp_od_none j4]
              simp
            | some u =>
              obtain ⟨_, rfl, _⟩ := dp_wd j4
              by_cases c : u = own.drop 1
              · simp [c]
              · simp [c, hne]
        · rw [if_pos (of_decide_eq_true hb2)] at k'
          exact k' H4 (((e1.trans e2).trans e3).trans e4)
        · have kk : ∀ (H' : Hp), Ex H H' → Q (.bl (csL t own row)) H' := fun H' e' => by
            have q := k' H' e'
            rw [if_neg (of_decide_eq_false hb2)] at q
            exact q
          clear k' hb2
          have e13 := (e1.trans e2).trans e3
          refine q_forCT (K := K) (fun l ys H4 => Ex H3 H4 ∧ H4 l = some (.tup ys) ∧ DqA H4 ys (row.map wd)) (fun Q2 kq => t_ways (ev_var (i := 0) rfl) (hw.up e13) (ev_var (i := 2) rfl) hrw fun u H4 e4 hu => ?_) ?_
          · unfold rd at hu
            cases hu with
            | tup u1 u2 => exact kq _ _ _ ⟨e4, u1, u2⟩
          rintro l ys H4 ⟨e4, hl, hys⟩
          have hyl := hys.length
          rw [List.length_map] at hyl
          refine ⟨st_of hl, fun m σ' H' => Ex H4 H' ∧ (∃ o4, σ' = [some wv, some (.ref b), some (.int (i : Int)), some (.ref ao), o4]) ∧ csL t own row = csL t own (row.drop m), ⟨Ex.refl _, ⟨_, rfl⟩, rfl⟩, fun m σ' H' _ p => st_of (p.1 _ _ hl), ?_, ?_⟩
          · rintro m y σ' H5 hy ⟨e5, ⟨o4, rfl⟩, hd⟩
            obtain ⟨u, hu1, hu2⟩ := hys.wds_inv hy
            have hum := List.mem_of_getElem? hu1
            obtain ⟨au, rfl, hau⟩ := wd_ref hu2
            have hdrop := csL_drop (t := t) (own := own) hu1
            obtain ⟨j, yj, oj, j1, j2, j3, j4, j5⟩ := item u i row hrw hum
            have e15 := (e13.trans e4).trans e5
            have hau5 := e5 _ _ hau
            refine g_name ?_
            change tSeq _ _ _ [some wv, some (.ref b), some (.int (i : Int)), some (.ref ao), some (.ref au)] H5
            refine q_when (b := decide (u = own)) (et_test (ev_eqWy (ev_var rfl) vo (dp_of_wd (st_of hau5)) (dp_of_wd (ex_t e15 hao)))) (fun hb6 H6 e6 => s_ret ev_c fun H7 e7 => ?_) (fun hb6 H6 e6 => ?_)
            · rw [hd, hdrop, if_pos (of_decide_eq_true hb6)] at kk
              exact kk H7 ((e15.trans e6).trans e7)
            · rw [if_neg (of_decide_eq_false hb6)] at hdrop
              have e16 := e15.trans e6
              have vu : Ev (tVar 4) [some wv, some (.ref b), some (.int (i : Int)), some (.ref ao), some (.ref au)] H6 (.ref au) := ev_var rfl
              have hau6 : SqT K H6 au (u.map V.int) := st_of (e6 _ _ hau5)
              have hsec := ev_at (K := K) vi (ex_t e16 hb) (ev_second vu hau6 j1) j3
              have hh : hit t u = decide (oj = some (u.drop 1)) := by unfold hit; rw [j2, j5]
              rw [hh] at hdrop
              refine s_when (b := decide (oj = some (u.drop 1))) (et_test (ev_eqTail hsec (Dp.up e16 j4) (eq_tail vu hau6))) (fun hb7 H7 e7 => s_ret ev_c fun H8 e8 => ?_) (fun hb7 H7 e7 => ?_)
              · rw [hd, hdrop, if_pos hb7] at kk
                exact kk H8 ((e16.trans e7).trans e8)
              · rw [if_neg (by rw [hb7]; decide)] at hdrop
                exact ⟨(e5.trans e6).trans e7, ⟨_, rfl⟩, by rw [hd, hdrop]⟩
          · rintro σ' H5 ⟨e5, ⟨o4, rfl⟩, hd⟩
            rw [hd, hyl, List.drop_length] at kk
            exact s_ret ev_c fun H6 e6 => kk H6 (((e13.trans e4).trans e5).trans e6)
/-! first_that_cannot_stay -/
/-- the least router, from i on, that cannot stay -/
def fcs (rows : List (List Wy)) (t : List (Option Wy)) : Nat → Nat → Option Int
  | 0, _ => none
  | m + 1, i => if csB rows t i = true then some (i : Int) else fcs rows t m (i + 1)
def fcsV : Option Int → V
  | none => .non
  | some r => .int r
abbrev spFirst (K : PySem.W.Frag) (CW : Addr) : Sp := spP fun H vs z => ∃ (wv iv : V) (rows : List (List Wy)) (t : List (Option Wy)), vs = [wv, iv] ∧ WO CW H wv rows ∧ Dp K H iv (.tuple (t.map od)) ∧ TkO rows t ∧ z = fcsV (fcs rows t (rows.length - 1) 1)
abbrev sFirst : Stmt := top 20
abbrev nFirst : List Str := ["wishes", "items", "router"]
theorem scFirst : FnScope nFirst ["wishes", "items"] (defScope sFirst) := ⟨rfl, rfl, rfl, by decide +kernel, rfl, by decide +kernel, by decide +kernel⟩
theorem ok_first (B : Bl mg) (W : WC P w K mg base CW CN) (C : Cal P w K mg base "cannot_stay" ["wishes", "items", "router"] 6 (spStay K CW)) (F : FnP K "first_that_cannot_stay" sFirst f fd) : FnOk P w K mg base CX0 7 f fd ["wishes", "items"] (spFirst K CW) := by
  refine F.ok scFirst (fun vs H Q E h => ?_) (fun cdv A outer s H vs Q E hr h => ?_)
  · obtain ⟨z, ⟨wv, iv, rows, t, rfl, _⟩, _⟩ := h
    rfl
  · obtain ⟨z, ⟨wv, iv, rows, t, rfl, hw, hv, ht, rfl⟩, k⟩ := h
    refine ⟨_, pss_cons (ps_for (passes_of rfl) rfl (pi_range2 (by rfl) B.range (pa_cons pe_int (pa_cons (pe_fld (pv 0) rfl) pa_nil))) (pg_name (i := 2) scFirst.nd rfl (Or.inl rfl))
        (pss_one (ps_if (pt_val (pe_cal C hr (by rfl) (pa_cons (pv 0) (pa_cons (pv 1) (pa_cons (pv 2) pa_nil))))) (pss_one (ps_ret (pv 2))) pss_nil)))
      (pss_one (ps_ret pe_non)), ?_⟩
    have n8 := hw.n8
    have n2 := hw.n2
    refine q_forR2 (ea_cons ev_c (ea_cons (ev_wsize W.tx (ev_var rfl) hw) ea_nil)) (by omega) (fun i σ' H' => Ex H H' ∧ (∃ o, σ' = [some wv, some iv, o]) ∧ fcs rows t (rows.length - 1) 1 = fcs rows t (rows.length - 1 - i) (1 + i)) (fun H1 e1 => ⟨e1, ⟨_, rfl⟩, rfl⟩) ?_ ?_
    · rintro i σ' H1 hi ⟨e1, ⟨o, rfl⟩, hf⟩
      change tIfS _ _ _ _ [some wv, some iv, some (.int (1 + (i : Int)))] H1
      have hin : 1 + i < rows.length := by omega
      have er : fcs rows t (rows.length - 1 - i) (1 + i) = if csB rows t (1 + i) = true then some ((1 + i : Nat) : Int) else fcs rows t (rows.length - 1 - (i + 1)) (1 + (i + 1)) := by
        rw [show rows.length - 1 - i = (rows.length - 1 - (i + 1)) + 1 by omega]
        rfl
      rw [show (1 : Int) + (i : Int) = ((1 + i : Nat) : Int) by omega]
      refine s_when (b := csB rows t (1 + i)) (et_B (ev_call (ea_cons (ev_var rfl) (ea_cons (ev_var rfl) (ea_cons (ev_var rfl) ea_nil))) (spP_v fun H2 e2 => ⟨wv, iv, 1 + i, rows, t, rfl, hw.up (e1.trans e2), Dp.up (e1.trans e2) hv, ht, by omega, hin, rfl⟩))) (fun hb H2 e2 => s_ret (ev_var rfl) fun H3 e3 => ?_) (fun hb H2 e2 => ⟨e1.trans e2, ⟨_, rfl⟩, ?_⟩)
      · rw [hf, er, if_pos hb] at k
        exact k H3 ((e1.trans e2).trans e3)
      · rw [hf, er, if_neg (by rw [hb]; simp)]
    · rintro σ' H1 ⟨e1, ⟨o, rfl⟩, hf⟩
      have er : fcs rows t (rows.length - 1) 1 = none := by
        rw [hf, show rows.length - 1 - ((rows.length : Int) - 1).toNat = 0 by omega]
        rfl
      rw [er] at k
      exact s_ret ev_c fun H2 e2 => k H2 (e1.trans e2)
end
end Wk

set_option Elab.async false
set_option linter.all false
set_option maxRecDepth 100000
set_option maxHeartbeats 2000000
namespace Wk
open PySem PySem.Spec PyProof.Rows L2 Evl
/-- the items of a taking that is a datum -/
def tkOf (d : PyData) : List (Option Wy) := (itemsT d).map fun x => some (rts x)
theorem all_range {α : Type} {ds : List α} {g : Nat → α → Bool} (h : ((List.range ds.length).map fun k => ((ds[k]?).map (g k)).getD false).all id = true) {k : Nat} {x : α} (e : ds[k]? = some x) : g k x = true := by
  have hk := (List.getElem?_eq_some_iff.mp e).1
  have q := List.all_eq_true.mp h _ (List.mem_map.mpr ⟨k, List.mem_range.mpr hk, rfl⟩)
  rw [e] at q
  exact q
theorem tk_ok {rows : List (List Wy)} {d : PyData} (h : tkB rows (some d) = true) : d = .tuple ((tkOf d).map od) ∧ TkO rows (tkOf d) ∧ (itemsT d).length = rows.length ∧ ∀ k x, (itemsT d)[k]? = some x → chB rows k x = true := by
  obtain ⟨h1, h2⟩ := Bool.and_eq_true_iff.mp h
  obtain ⟨h3, h4⟩ := Bool.and_eq_true_iff.mp (show (isTu d && decide (V.int ((itemsT d).length : Int) = V.int (rows.length : Int))) = true from h1)
  have hn : (itemsT d).length = rows.length := by have := of_decide_eq_true h4; injection this; omega
  cases d <;> first | (simp [isTu] at h3; done) | skip
  rename_i ds
  have hc : ∀ k x, ds[k]? = some x → chB rows k x = true := fun k x e => all_range (g := chB rows) h2 e
  refine ⟨?_, ⟨by unfold tkOf; rw [List.length_map]; exact hn, fun i x e => ?_⟩, hn, hc⟩
  · congr 1
    unfold tkOf
    rw [List.map_map]
    refine (List.map_id ds).symm.trans (List.map_congr_left fun x hx => ?_)
    obtain ⟨k, hk⟩ := List.mem_iff_getElem?.mp hx
    exact intsB_wd (Bool.and_eq_true_iff.mp (hc k x hk)).1
  · unfold tkOf at e
    rw [List.getElem?_map] at e
    cases hd : (itemsT (.tuple ds))[i]? with
    | none => rw [hd] at e; cases e
    | some y =>
      rw [hd] at e
      have e' : rts y = x := by injection (Option.some.inj e)
      rw [← e']
      exact of_decide_eq_true (Bool.and_eq_true_iff.mp (hc i y hd)).2
def outB (rows : List (List Wy)) (o : Option PyData) : Bool := tkB rows o && match o with
  | some d => decide (fcs rows (tkOf d) (rows.length - 1) 1 = none)
  | none => true
/-! the law's own words -/
def best (t : List (Option Wy)) : List Wy → Wy
  | [] => []
  | w :: ws => if hit t w = true then w else best t ws
theorem best_drop {t : List (Option Wy)} : ∀ {ws : List Wy} {i : Nat} {w : Wy}, ws[i]? = some w → best t (ws.drop i) = if hit t w = true then w else best t (ws.drop (i + 1))
  | [], i, w, h => by simp at h
  | x :: ws, 0, w, h => by
    simp at h
    subst h
    rfl
  | x :: ws, i + 1, w, h => by
    simp only [List.drop_succ_cons]
    exact best_drop (by simpa using h)
theorem best_in {t : List (Option Wy)} : ∀ ws : List Wy, best t ws = [] ∨ best t ws ∈ ws ∧ hit t (best t ws) = true
  | [] => .inl rfl
  | w :: ws => by
    unfold best
    by_cases h : hit t w = true
    · rw [if_pos h]; exact .inr ⟨List.mem_cons_self, h⟩
    · rw [if_neg h]
      rcases best_in ws with z | ⟨z1, z2⟩
      · exact .inl z
      · exact .inr ⟨List.mem_cons_of_mem _ z1, z2⟩
theorem csL_best {t : List (Option Wy)} {own : Wy} : ∀ ws : List Wy, (own ∈ ws → hit t own = true) → (own ∉ ws → own = []) → (∀ w ∈ ws, w ≠ []) → (csL t own ws = false ↔ own = best t ws)
  | [], _, h2, _ => by
    have := h2 (by simp)
    simp [csL, best, this]
  | w :: ws, h1, h2, h3 => by
    unfold csL best
    by_cases c : w = own
    · subst c
      rw [if_pos rfl, if_pos (h1 List.mem_cons_self)]
      simp
    · rw [if_neg c]
      by_cases hh : hit t w = true
      · rw [if_pos hh, if_pos hh]
        simp [Ne.symm c]
      · rw [if_neg hh, if_neg hh]
        refine csL_best ws (fun z => h1 (List.mem_cons_of_mem _ z)) (fun z => h2 fun y => ?_) (fun x hx => h3 x (List.mem_cons_of_mem _ hx))
        rcases List.mem_cons.mp y with q | q
        · exact c q.symm
        · exact z q
theorem csB_best {rows : List (List Wy)} {t : List (Option Wy)} (hG : GW rows) (ht : TkO rows t) (hs : ∀ x ∈ t, x ≠ none) {i : Nat} (h1 : 1 ≤ i) (h2 : i < rows.length) : csB rows t i = false ↔ t.getD i none = some (best t (rows.getD i [])) := by
  have hil : i < t.length := by rw [ht.len]; exact h2
  have hti : t[i]? = some t[i] := List.getElem?_eq_getElem hil
  have etg : t.getD i none = t[i] := by rw [List.getD_eq_getElem?_getD, hti]; rfl
  have hrw : rows[i]? = some rows[i] := List.getElem?_eq_getElem h2
  have erg : rows.getD i [] = rows[i] := by rw [List.getD_eq_getElem?_getD, hrw]; rfl
  cases ho : t[i] with
  | none => exact absurd ho (hs _ (List.getElem_mem hil))
  | some own =>
    rw [ho] at hti etg
    have hch := ht.ok i own hti
    unfold chW at hch
    rw [if_neg (by omega), erg] at hch
    unfold csB
    rw [etg, erg]
    generalize rows[i] = row at *
    have hne : ∀ w ∈ row, w ≠ [] := fun w hw => by
      obtain ⟨_, _, _, _, z⟩ := ways_in hG hrw hw
      exact z
    have nn : ∀ w ∈ row, t.getD (w.getD 1 0).toNat none ≠ none := fun w hw => by
      obtain ⟨j, _, j2, j3, _⟩ := ways_in hG hrw hw
      have hjl : j < t.length := by rw [ht.len]; exact j3
      rw [j2, show ((j : Int)).toNat = j from rfl, List.getD_eq_getElem?_getD, List.getElem?_eq_getElem hjl]
      exact hs _ (List.getElem_mem hjl)
    show (if own ≠ [] ∧ t.getD (own.getD 1 0).toNat none ≠ none ∧ hit t own = false then true else csL t own row) = false ↔ some own = some (best t row)
    rw [Option.some.injEq]
    rcases List.mem_append.mp hch with hm | hm
    · by_cases hh : hit t own = true
      · rw [if_neg (by rw [hh]; simp)]
        exact csL_best row (fun _ => hh) (fun z => absurd hm z) hne
      · have hh' : hit t own = false := by simpa using hh
        rw [if_pos ⟨hne own hm, nn own hm, hh'⟩]
        refine ⟨fun z => (by cases z), fun z => ?_⟩
        rcases best_in (t := t) row with y | ⟨_, y⟩
        · rw [y] at z; exact absurd z (hne own hm)
        · rw [← z] at y; exact absurd y hh
    · have e0 := List.mem_singleton.mp hm
      rw [if_neg (by rw [e0]; simp)]
      exact csL_best row (fun z => absurd e0 (hne own z)) (fun _ => e0) hne
def lsB (rows : List (List Wy)) (t : List (Option Wy)) : Nat → Nat → Bool
  | 0, _ => true
  | m + 1, i => if t.getD i none = some (best t (rows.getD i [])) then lsB rows t m (i + 1) else false
theorem lsB_fcs {rows : List (List Wy)} {t : List (Option Wy)} (hG : GW rows) (ht : TkO rows t) (hs : ∀ x ∈ t, x ≠ none) : ∀ m i : Nat, 1 ≤ i → i + m ≤ rows.length → lsB rows t m i = decide (fcs rows t m i = none)
  | 0, _, _, _ => rfl
  | m + 1, i, h1, h2 => by
    unfold lsB fcs
    have q := csB_best hG ht hs h1 (show i < rows.length by omega)
    have ih := lsB_fcs hG ht hs m (i + 1) (by omega) (by omega)
    by_cases c : csB rows t i = true
    · have c2 : ¬ t.getD i none = some (best t (rows.getD i [])) := fun z => by
        rw [q.mpr z] at c
        cases c
      rw [if_neg c2, if_pos c]
      rfl
    · have c1 : csB rows t i = false := by simpa using c
      rw [if_pos (q.mp c1), if_neg c]
      exact ih
theorem tkOf_some {d : PyData} : ∀ x ∈ tkOf d, x ≠ none := fun x hx => by
  obtain ⟨y, _, rfl⟩ := List.mem_map.mp hx
  simp
section
variable {P : Program} {w : World} {K : PySem.W.Frag} {mg : Str → Option Value} {base : Heap} {f : Addr} {fd : FuncData} {CW CN : Addr}
abbrev Small (o : Option PyData) : Prop := ∀ d, o = some d → ∀ x ∈ itemsT d, (itemsT x).length ≤ 1000
theorem dp_tk {rows : List (List Wy)} {H : Hp} {v : V} {d : PyData} (h : Dq H v d) (e : d = .tuple ((tkOf d).map od)) : Dp K H v (.tuple ((tkOf d).map od)) := by
  rw [e] at h
  refine Dq.dp ?_ h
  simp only [PyData.canLay0]
  refine layAll.mpr fun x hx => ?_
  obtain ⟨o, _, rfl⟩ := List.mem_map.mp hx
  exact SeqAt.canLay_of_shaped (shaped_od o)
theorem fcsV_none (o : Option Int) : decide (fcsV o = V.non) = decide (o = none) := by
  cases o <;> rfl
/-! _law_is_int -/
abbrev sLIsInt : Stmt := top 40
theorem scLIsInt : FnScope ["_law_thing"] ["_law_thing"] (defScope sLIsInt) := ⟨rfl, rfl, rfl, by decide +kernel, rfl, by decide +kernel, by decide +kernel⟩
theorem ok_lIsInt (B : Bl mg) (F : FnP K "_law_is_int" sLIsInt f fd) : FnOk P w K mg base CX0 1 f fd ["_law_thing"] spIsInt := by
  refine F.ok scLIsInt (fun vs H Q E h => ?_) (fun cdv A outer s H vs Q E hr h => ?_)
  · obtain ⟨z, ⟨v, d, rfl, _⟩, _⟩ := h
    rfl
  · obtain ⟨z, ⟨v, d, rfl, hd, rfl⟩, k⟩ := h
    refine ⟨_, pss_one (ps_ret (pe_and (pe_callB call_isi (by rfl) B.isi boot_isinstance (pa_cons (pv 0) (pa_cons (pe_bltn (v := .ty "int") (by rfl) B.int PyProof.Rows.boot_int rfl) pa_nil)))
      (pe_one (pe_not (pe_callB call_isi (by rfl) B.isi boot_isinstance (pa_cons (pv 0) (pa_cons (pe_bltn (v := .ty "bool") (by rfl) B.bool PyProof.Rows.boot_bool rfl) pa_nil))))))), ?_⟩
    obtain ⟨b, hb, h1, h2⟩ := kit_int d
    have v0 : Ev (tVar 0) (start ["_law_thing"] [v]) H v := ev_var rfl
    cases b with
    | true =>
      obtain ⟨c, hc, e⟩ := h1 rfl
      rw [← e] at k
      exact s_ret (ev_andV (ev_isi v0 hd hb) fun _ => ev_notV (ev_isi v0 hd hc)) k
    | false =>
      rw [h2 rfl] at k
      exact s_ret (ev_andV (b := false) (ev_isi v0 hd hb) fun z => (by cases z)) k
/-! _law_is_taking -/
abbrev spLTaking (CW : Addr) : Sp := spP fun H vs z => ∃ (lv v : V) (o : Option PyData) (rows : List (List Wy)), vs = [lv, v] ∧ Dq H lv (pd rows) ∧ rows.length ≤ 8 ∧ Tg CW H v o ∧ Small o ∧ z = .bl (tkB rows o)
abbrev sLTaking : Stmt := top 41
abbrev nLTaking : List Str := ["_law_lists_here", "_law_thing", "_law_router", "_law_item", "_law_part"]
theorem scLTaking : FnScope nLTaking ["_law_lists_here", "_law_thing"] (defScope sLTaking) := ⟨rfl, rfl, rfl, by decide +kernel, rfl, by decide +kernel, by decide +kernel⟩
theorem ok_lTaking (B : Bl mg) (T : ITx K CW) (C : Cal P w K mg base "_law_is_int" ["_law_thing"] 1 spIsInt) (F : FnP K "_law_is_taking" sLTaking f fd) : FnOk P w K mg base CX0 2 f fd ["_law_lists_here", "_law_thing"] (spLTaking CW) := by
  refine F.ok scLTaking (fun vs H Q E h => ?_) (fun cdv A outer s H vs Q E hr h => ?_)
  · obtain ⟨z, ⟨lv, v, o, rows, rfl, _⟩, _⟩ := h
    rfl
  · obtain ⟨z, ⟨lv, v, o, rows, rfl, hl, hn8, hv, hs, rfl⟩, k⟩ := h
    have hu : (A.deeper (envOfC "_law_is_taking" (defScope sLTaking) s.heap.objs.size f cdv)).units + 66 < cLine := by have := hr.un; omega
    have hu4 : (A.deeper (envOfC "_law_is_taking" (defScope sLTaking) s.heap.objs.size f cdv)).units + 64 < cLine := by omega
    refine ⟨_, pss_cons (ps_if (PW.pt (pw_or (pt_not (pt_val (pe_callB call_isi (by rfl) B.isi boot_isinstance (pa_cons (pv 1) (pa_cons (pe_bltn (v := .ty "tuple") (by rfl) B.tuple PyProof.Rows.boot_tuple rfl) pa_nil)))))
        (pw_or1 (pt_cmpR op_ne (pe_callB call_len_seq (by rfl) B.len PySem.boot_len (pa_cons (pv 1) pa_nil)) (pe_callB call_len_seq (by rfl) B.len PySem.boot_len (pa_cons (pv 0) pa_nil)) (nomark _))))) (pss_one (ps_ret pe_bl)) pss_nil)
      (pss_cons (ps_for (passes_of rfl) rfl (pi_range1 (by rfl) B.range (pa_cons (pe_callB call_len_seq (by rfl) B.len PySem.boot_len (pa_cons (pv 0) pa_nil)) pa_nil)) (pg_name (i := 2) scLTaking.nd rfl (Or.inl rfl))
        (pss_cons (ps_set (i := 3) scLTaking.nd rfl (Or.inl rfl) (pe_ix ix_tup (pv 1) (pv 2) (fun _ _ => rfl)))
        (pss_cons (ps_if (PW.pt (pw_or (pt_not (pt_val (pe_callB call_isi (by rfl) B.isi boot_isinstance (pa_cons (pv 3) (pa_cons (pe_bltn (v := .ty "tuple") (by rfl) B.tuple PyProof.Rows.boot_tuple rfl) pa_nil)))))
            (pw_or1 (pt_not (pt_val (pe_callB (cr_all rfl) (by rfl) B.all boot_all (pa_cons (pe_lc (own := [("_law_part", 4)]) (g := gName 4) (tt := tYes) rfl scLTaking.nd (pi_tup (pv 3)) (blkOk_by (N := nLTaking) (sc := defScope sLTaking) (by decide +kernel))
              (fun _ _ _ _ _ => pg_name (i := 4) scLTaking.nd rfl (Or.inl rfl)) (fun _ _ _ _ _ => pts_nil) (fun _ _ _ _ _ => pe_cal C hr (by rfl) (pa_cons (pv 4) pa_nil))) pa_nil))))))) (pss_one (ps_ret pe_bl)) pss_nil)
        (pss_one (ps_if (PW.pt (pw_or (PW.pt (pw_and (pt_cmpR op_eq (pv 2) pe_int (nomark _)) (pw_and1 (pt_cmpR (op_neD hu4) (pv 3) (pe_tup (pa_cons pe_int pa_nil)) (nomark _)))))
            (pw_or1 (PW.pt (pw_and (pt_cmpR op_gt (pv 2) pe_int (nomark _)) (pw_and (pt_cmpR (op_neD hu4) (pv 3) (pe_tup pa_nil) (nomark _)) (pw_and1 (pt_cmpR (op_notInU hu) (pv 3) (pe_ix ix_tup (pv 0) (pv 2) (fun _ _ => rfl)) rfl)))))))) (pss_one (ps_ret pe_bl)) pss_nil)))))
      (pss_one (ps_ret pe_bl))), ?_⟩
    have v0 : ∀ {H1 : Hp} {o2 o3 o4 : Option V}, Ev (tVar 0) [some lv, some v, o2, o3, o4] H1 lv := ev_var rfl
    have v1 : ∀ {H1 : Hp} {o2 o3 o4 : Option V}, Ev (tVar 1) [some lv, some v, o2, o3, o4] H1 v := ev_var rfl
    unfold pd at hl
    cases hl with
    | tup l1 l2 =>
      rename_i la lxs
      have lxl := l2.length
      rw [List.length_map] at lxl
      have hlen0 : ∀ {H1 : Hp} {o2 o3 o4 : Option V}, Ex H H1 → Ev (tCB (rLenS K) (tCons (tVar 0) tNil)) [some (.ref la), some v, o2, o3, o4] H1 (.int (rows.length : Int)) := fun {H1 o2 o3 o4} e => by
        rw [← lxl]
        exact ev_lenT v0 (st_of (e _ _ l1))
      have kF : tkB rows o = false → ∀ H', Ex H H' → Q (.bl false) H' := fun z H' e => by rw [z] at k; exact k H' e
      refine q_when (b := !tgN (rows.length : Int) o) ?_ (fun hb H1 e1 => s_ret ev_c fun H2 e2 => kF ?_ H2 (e1.trans e2)) (fun hb H1 e1 => ?_)
      · have e : (!tgN (rows.length : Int) o) = (!tgT o || !tgN (rows.length : Int) o) := by
          cases o with
          | none => rfl
          | some d =>
            show (!(isTu d && _)) = (!isTu d || !(isTu d && _))
            cases isTu d <;> rfl
        rw [e]
        refine et_or (et_not (et_B (ev_isiT T (v1 (H1 := H)) hv))) fun ht => et_test ?_
        cases o with
        | none => cases ht
        | some d =>
          have ht' : isTu d = true := by simpa [tgT] using ht
          have hv' : Dq H v d := hv
          cases hv' <;> first | (simp [isTu] at ht'; done) | skip
          rename_i a xs ds h1 h2
          have q := ev_op (H := H) (ev_lenT (K := K) (ta := tVar 1) (v1 (H1 := H) (o2 := none) (o3 := none) (o4 := none)) (st_of h1)) (hlen0 (Ex.refl H)) (rv_ne (x := .int (xs.length : Int)) (y := .int (rows.length : Int)) rfl)
          rw [h2.length] at q
          refine ev_is q ?_
          show V.bl (!decide (V.int (ds.length : Int) = V.int (rows.length : Int))) = V.bl (!(true && decide (V.int (ds.length : Int) = V.int (rows.length : Int))))
          rw [Bool.true_and]
      · unfold tkB
        rw [show tgN (rows.length : Int) o = false by simpa using hb]
        rfl
      · have hb' : tgN (rows.length : Int) o = true := by simpa using hb
        cases o with
        | none => cases hb'
        | some d =>
          obtain ⟨ht, hn⟩ := Bool.and_eq_true_iff.mp (show (isTu d && decide (V.int ((itemsT d).length : Int) = V.int (rows.length : Int))) = true from hb')
          have hn' : (itemsT d).length = rows.length := by have := of_decide_eq_true hn; injection this; omega
          have hv' : Dq H v d := hv
          have hs' := hs d rfl
          have ek : tkB rows (some d) = ((List.range (itemsT d).length).map fun k => (((itemsT d)[k]?).map (chB rows k)).getD false).all id := by
            unfold tkB
            rw [hb']
            rfl
          rw [ek] at k kF
          clear hs hb hb' hv ek hn
          cases hv' <;> first | (simp [isTu] at ht; done) | skip
          rename_i a xs ds h1 h2
          have hxl := h2.length
          have hn2 : ds.length = rows.length := hn'
          have kF' : ((List.range ds.length).map fun k => ((ds[k]?).map (chB rows k)).getD false).all id = false → ∀ H', Ex H H' → Q (.bl false) H' := kF
          have k' : ∀ H', Ex H H' → Q (.bl (((List.range ds.length).map fun k => ((ds[k]?).map (chB rows k)).getD false).all id)) H' := k
          clear k kF
          have bad : ∀ {i : Nat} {x : PyData}, ds[i]? = some x → chB rows i x = false → ∀ H', Ex H H' → Q (.bl false) H' := fun {i x} e1 e2 => kF' (by
            cases hc : ((List.range ds.length).map fun k => ((ds[k]?).map (chB rows k)).getD false).all id with
            | false => rfl
            | true =>
              have q := all_range (g := chB rows) hc e1
              rw [e2] at q
              cases q)
          refine q_forR1 (ea_cons (hlen0 e1) ea_nil) (by omega) (fun i σ' H' => Ex H H' ∧ (∃ o2 o3, σ' = [some (.ref la), some (.ref a), o2, o3, none]) ∧ ∀ (k : Nat) (x : PyData), k < i → ds[k]? = some x → chB rows k x = true) (fun H2 e2 => ⟨e1.trans e2, ⟨_, _, rfl⟩, fun k x h => by omega⟩) ?_ ?_
          · rintro i σ' H2 hi ⟨e2, ⟨o2, o3, rfl⟩, hall⟩
            change tSeq _ _ _ [some (.ref la), some (.ref a), some (.int (i : Int)), o3, none] H2
            have hil : i < ds.length := by omega
            have hdi : ds[i]? = some ds[i] := List.getElem?_eq_getElem hil
            obtain ⟨x, hx, hdx⟩ := h2.at hdi
            have hsx := hs' _ (List.mem_of_getElem? (show (itemsT (.tuple ds))[i]? = some ds[i] from hdi))
            generalize ds[i] = dx at *
            refine q_asg (ev_at (K := K) (ev_var (i := 1) rfl) (st_of (e2 _ _ h1)) (ev_var (i := 2) rfl) hx) fun H3 e3 => ?_
            change tSeq _ _ _ [some (.ref la), some (.ref a), some (.int (i : Int)), some x, none] H3
            have e13 := e2.trans e3
            have v3 : ∀ {H4 : Hp}, Ev (tVar 3) [some (.ref la), some (.ref a), some (.int (i : Int)), some x, none] H4 x := ev_var rfl
            refine q_when (b := !intsB dx) ?_ (fun hb H4 e4 => s_ret ev_c fun H5 e5 => bad hdi ?_ H5 ((e13.trans e4).trans e5)) (fun hb H4 e4 => ?_)
            · have e : (!intsB dx) = (!isTu dx || !(itemsT dx).all isI) := by
                unfold intsB
                cases isTu dx <;> rfl
              rw [e]
              refine et_or (et_not (et_B (ev_isi v3 (hdx.mono e13) (kit_tup dx)))) fun ht => et_not (et_B ?_)
              have ht' : isTu dx = true := by simpa using ht
              have hdx3 := hdx.mono e13
              cases hdx3 <;> first | (simp [isTu] at ht'; done) | skip
              rename_i ax ys es h3 h4
              have hyl := h4.length
              have hsx' : es.length ≤ 1000 := hsx
              have q := ev_allT (K := K) (H := H3) (j := 4) (vs := [4]) (σ := [some (.ref la), some (.ref a), some (.int (i : Int)), some (.ref ax), none]) (tl := tVar 3) (te := tCall spIsInt [] E0 (tCons (tVar 4) tNil)) (fun i => ((es[i]?).map isI).getD false) (ev_var rfl) (st_of h3) (by omega) (fun x => rfl)
                (fun i x H2 e2 hx => by
                  obtain ⟨dx, e3, e4⟩ := h4.get hx
                  rw [e3]
                  exact ev_call (ea_cons (ev_var rfl) ea_nil) (spP_v fun H3 e5 => ⟨x, dx, rfl, (e4.mono e2).mono e5, rfl⟩))
              rw [hyl, all_get] at q
              exact q
            · unfold chB
              rw [show intsB dx = false by simpa using hb]
              rfl
            · have hI : intsB dx = true := by simpa using hb
              have ed := intsB_wd hI
              have e14 := e13.trans e4
              have hdx4 := hdx.mono e14
              have hch : chB rows i dx = decide (rts dx ∈ chW rows i) := by unfold chB; rw [hI]; rfl
              rw [ed] at hdx4
              generalize rts dx = u at *
              have hdu : Dp K H4 x (wd u) := Dq.dp (SeqAt.canLay_of_shaped (shaped_wd u)) hdx4
              have hri : rows[i]? = some rows[i] := List.getElem?_eq_getElem (by omega)
              obtain ⟨rv, hrv, hdr⟩ := l2.at (i := i) (d := rd rows[i]) (by rw [List.getElem?_map, hri]; rfl)
              have hcw : chW rows i = if i = 0 then [[0]] else rows[i] ++ [[]] := by
                unfold chW
                rw [List.getD_eq_getElem?_getD, hri]
                rfl
              generalize rows[i] = row at *
              have hne : ∀ {te : TE} {y : Wy} {H5 : Hp}, Ex H4 H5 → EvU te [some (.ref la), some (.ref a), some (.int (i : Int)), some x, none] H5 (y.map V.int) → Ev (tOp (rNeD K) (tVar 3) te) [some (.ref la), some (.ref a), some (.int (i : Int)), some x, none] H5 (.bl (!decide (u = y))) := fun {te y H5} e hy => by
                rw [← eqv_wd]
                exact ev_opU v3 hy fun p H6 hp e6 => fun H7 e7 Q2 q => ⟨wd u, wd y, Dp.up ((e.trans e6).trans e7) hdu, dp_of_wd (st_of (e7 _ _ hp)), shaped_wd u, shaped_wd y, q H7 (Ex.refl H7)⟩
              refine s_when (b := (decide (V.int (i : Int) = V.int 0) && !decide (u = [0])) || (decide ((i : Int) > 0) && (!decide (u = []) && !decide (u ∈ row)))) (et_or (et_and (et_test (ev_op (ev_var rfl) ev_c (rv_eq rfl))) fun _ => et_test (hne (Ex.refl H4) (eu_tup (ea_cons ev_c ea_nil) (by simp)))) fun _ => et_and (et_test (ev_op (ev_var rfl) ev_c rv_I0)) fun _ => et_and (et_test (hne (Ex.refl H4) (eu_tup ea_nil (by simp)))) fun _ => et_test ?_)
                (fun hb H5 e5 => s_ret ev_c fun H6 e6 => bad hdi ?_ H6 ((e14.trans e5).trans e6)) (fun hb H5 e5 => ⟨e14.trans e5, ⟨_, _, rfl⟩, fun k y hk hy => ?_⟩)
              · rw [← any_wd]
                unfold rd at hdr
                have hdr4 := hdr.mono e14
                exact ev_op v3 (ev_at (K := K) (ev_var (i := 0) rfl) (st_of (e14 _ _ l1)) (ev_var (i := 2) rfl) hrv) fun H7 e7 Q2 q => ⟨wd u, row.map wd, Dp.up e7 hdu, Dq.dp (by simp only [PyData.canLay0]; exact lay_wds row) (hdr4.mono e7), shaped_wd u, lay_wds row, q H7 (Ex.refl H7)⟩
              · rw [hch, hcw, int_dec] at *
                by_cases c : i = 0
                · subst c
                  simp at hb ⊢
                  exact hb
                · rw [if_neg c]
                  simp only [Bool.or_eq_true, Bool.and_eq_true, decide_eq_true_eq, Bool.not_eq_true', decide_eq_false_iff_not] at hb
                  rcases hb with ⟨z, _⟩ | ⟨_, z1, z2⟩
                  · omega
                  · simp [z1, z2]
              · by_cases c : k = i
                · subst c
                  rw [hdi] at hy
                  cases hy
                  rw [hch, hcw]
                  rw [int_dec] at hb
                  by_cases c : k = 0
                  · subst c
                    simp at hb ⊢
                    exact hb
                  · rw [if_neg c]
                    simp only [Bool.or_eq_false_iff, Bool.and_eq_false_iff, decide_eq_false_iff_not, Bool.not_eq_false', decide_eq_true_eq] at hb
                    have hb2 := hb.2
                    rcases hb2 with z | z | z
                    · omega
                    · simp [z]
                    · simp [z]
                · exact hall k y (by omega) hy
          · rintro σ' H2 ⟨e2, ⟨o2, o3, rfl⟩, hall⟩
            have et : ((List.range ds.length).map fun k => ((ds[k]?).map (chB rows k)).getD false).all id = true := by
              rw [List.all_eq_true]
              intro b hb
              obtain ⟨k, hk, rfl⟩ := List.mem_map.mp hb
              have hk' := List.mem_range.mp hk
              rw [List.getElem?_eq_getElem hk']
              exact hall k _ (by omega) (List.getElem?_eq_getElem hk')
            rw [et] at k'
            exact s_ret ev_c fun H3 e3 => k' H3 (e2.trans e3)
end
end Wk

set_option Elab.async false
set_option linter.all false
set_option maxRecDepth 100000
set_option maxHeartbeats 2000000
namespace Wk
open PySem PySem.Spec PyProof.Rows L2 Evl
/-- a taking that stands as a list or as a tuple -/
def TkS (K : PySem.W.Frag) (H : Hp) (tv : V) (t : List (Option Wy)) : Prop := ∃ b xs, tv = .ref b ∧ (SqL K H b xs ∨ SqT K H b xs) ∧ DpAll K H xs (t.map od)
theorem TkS.up {K : PySem.W.Frag} {H H' : Hp} {tv : V} {t : List (Option Wy)} (h : TkS K H tv t) (e : Ex H H') : TkS K H' tv t := by
  obtain ⟨b, xs, h1, h2, h3⟩ := h
  refine ⟨b, xs, h1, ?_, DpAll.up e h3⟩
  rcases h2 with z | z
  · exact .inl (ex_l e z)
  · exact .inr (ex_t e z)
theorem ev_atS {K : PySem.W.Frag} {σ : L2.St} {H : Hp} {ti tj : TE} {b : Addr} {xs : List V} {j : Nat} {x : V} (hi : Ev ti σ H (.ref b)) (hb : SqL K H b xs ∨ SqT K H b xs) (hj : Ev tj σ H (.int (j : Int))) (hx : xs[j]? = some x) : Ev (tOp (rIx K) ti tj) σ H x :=
  ev_op hi hj fun H1 e Q q => by
    rcases hb with z | z
    · exact .inl ⟨b, xs, (j : Int), x, rfl, rfl, ex_l e z, atI_nat hx, q H1 (Ex.refl H1)⟩
    · exact .inr (.inl ⟨b, xs, (j : Int), x, rfl, rfl, ex_t e z, atI_nat hx, q H1 (Ex.refl H1)⟩)
theorem keep1 {G H : Hp} {p q t : Addr} {xs : List V} (hP : Pl G H p q) (ht : H t = some (.tup xs)) : ∃ G', Ex G G' ∧ Pl G' H p q ∧ G' t = some (.tup xs) ∧ ∀ b, b ≠ t → G' b = G b := by
  obtain ⟨n, cs, h1, h2, _⟩ := hP.at_
  have np : t ≠ p := fun z => by rw [z, h1] at ht; cases ht
  have nq : t ≠ q := fun z => by rw [z, h2] at ht; cases ht
  cases hg : G t with
  | some o =>
    have e := hP.ex _ _ hg
    rw [ht] at e
    cases e
    exact ⟨G, Ex.refl _, hP, hg, fun _ _ => rfl⟩
  | none => exact ⟨upd G t (.tup xs), Ex.new hg, hP.hold ht np nq, upd_same, fun b hb => upd_ne hb⟩
/-- ((),) + t -/
theorem t_cat1 {K : PySem.W.Frag} {σ : L2.St} {H : Hp} {tb : TE} {b : Addr} {ws : List V} {Q : VK} (hb : Ev tb σ H (.ref b)) (hs : H b = some (.tup ws)) (hl : ws.length ≤ 1000)
    (k : ∀ e r H', Ex H H' → H e = none → H' e = some (.tup []) → H' r = some (.tup (.ref e :: ws)) → Q (.ref r) H') : tOp (rCatA K) (tTup (tCons (tTup tNil) tNil)) tb σ H Q := by
  refine ⟨by show 0 ≤ sizeLine; decide, fun e he => ⟨by show 1 ≤ sizeLine; decide, fun c hc => ?_⟩⟩
  have e1 := Ex.new (o := .tup ([] : List V)) he
  have e2 := Ex.new (o := .tup [V.ref e]) hc
  have hee : (upd (upd H e (.tup [])) c (.tup [V.ref e])) e = some (.tup []) := e2 _ _ upd_same
  refine hb _ (e1.trans e2) _ fun H3 e3 => ?_
  refine ⟨c, b, [.ref e], ws, rfl, rfl, st_of (e3 _ _ upd_same), st_of (((e1.trans e2).trans e3) _ _ hs), by rw [sizeLine_eq]; show 1 + ws.length ≤ _; omega, fun z => (by cases z), fun _ hy => ?_, fun _ _ r hr => ?_⟩
  · subst hy
    exact k e c H3 ((e1.trans e2).trans e3) he (e3 _ _ hee) (e3 _ _ upd_same)
  · exact k e r _ (((e1.trans e2).trans e3).trans (Ex.new hr)) he ((Ex.new hr) _ _ (e3 _ _ hee)) upd_same
theorem od_some (t : List Wy) : (t.map some).map od = t.map wd := by
  rw [List.map_map]
  rfl
theorem dqa_dp {K : PySem.W.Frag} {H : Hp} {xs : List V} {t : List Wy} (h : DqA H xs (t.map wd)) : DpAll K H xs ((t.map some).map od) := by
  rw [od_some]
  exact DqA.dp (lay_wds t) h
theorem best_ch {rows : List (List Wy)} {t : List (Option Wy)} {i : Nat} (h : 1 ≤ i) : best t (rows.getD i []) ∈ chW rows i := by
  unfold chW
  rw [if_neg (by omega)]
  rcases best_in (t := t) (rows.getD i []) with z | ⟨z, _⟩
  · rw [z]; simp
  · exact List.mem_append_left _ z
section
variable {P : Program} {w : World} {K : PySem.W.Frag} {mg : Str → Option Value} {base : Heap} {f : Addr} {fd : FuncData} {CW CN : Addr}
/-! _law_best -/
def spBest (K : PySem.W.Frag) : Sp := fun vs H Q _ => ∃ (lv tv : V) (i : Nat) (rows : List (List Wy)) (t : List (Option Wy)), vs = [lv, tv, .int (i : Int)] ∧ Dq H lv (pd rows) ∧ GW rows ∧ TkS K H tv t ∧ t.length = rows.length ∧ i < rows.length ∧ ∀ H' u, Ex H H' → Dq H' u (wd (best t (rows.getD i []))) → Q u H'
abbrev sBest : Stmt := top 42
abbrev nBest : List Str := ["_law_lists_here", "_law_taking", "_law_router", "_law_way"]
theorem scBest : FnScope nBest ["_law_lists_here", "_law_taking", "_law_router"] (defScope sBest) := ⟨rfl, rfl, rfl, by decide +kernel, rfl, by decide +kernel, by decide +kernel⟩
theorem ok_best (F : FnP K "_law_best" sBest f fd) : FnOk P w K mg base CX0 1 f fd ["_law_lists_here", "_law_taking", "_law_router"] (spBest K) := by
  refine F.ok scBest (fun vs H Q E h => ?_) (fun cdv A outer s H vs Q E hr h => ?_)
  · obtain ⟨lv, tv, i, rows, t, rfl, _⟩ := h
    rfl
  · obtain ⟨lv, tv, i, rows, t, rfl, hl, hG, ht, htl, hi, k⟩ := h
    have hu : (A.deeper (envOfC "_law_best" (defScope sBest) s.heap.objs.size f cdv)).units + 64 < cLine := by have := hr.un; omega
    refine ⟨_, pss_cons (ps_for (passes_of rfl) rfl (pi_tup (pe_ix ix_tup (pv 0) (pv 2) (fun _ _ => rfl))) (pg_name (i := 3) scBest.nd rfl (Or.inl rfl))
        (pss_one (ps_if (pt_cmpR (op_eqD hu) (pe_ix ix_seq (pv 1) (pe_ix ix_tup (pv 3) pe_int (fun _ _ => rfl)) (fun _ _ => rfl)) (pe_slice sl_tupA (pv 3) (po_some pe_int) po_none) (nomark _)) (pss_one (ps_ret (pv 3))) pss_nil)))
      (pss_one (ps_ret (pe_tup pa_nil))), ?_⟩
    have hri : rows[i]? = some rows[i] := List.getElem?_eq_getElem hi
    have erg : rows.getD i [] = rows[i] := by rw [List.getD_eq_getElem?_getD, hri]; rfl
    rw [erg] at k
    unfold pd at hl
    cases hl with
    | tup l1 l2 =>
      rename_i la lxs
      obtain ⟨rv, hrv, hdr⟩ := l2.at (i := i) (d := rd rows[i]) (by rw [List.getElem?_map, hri]; rfl)
      generalize rows[i] = row at *
      unfold rd at hdr
      cases hdr with
      | tup r1 r2 =>
        rename_i ra rxs
        have rl := r2.length
        rw [List.length_map] at rl
        obtain ⟨b, xs, rfl, hb, hxs⟩ := ht
        refine q_forT (K := K) (ev_at (K := K) (ev_var (i := 0) rfl) (st_of l1) (ev_var (i := 2) rfl) hrv) (st_of r1) (fun m σ' H' => Ex H H' ∧ (∃ o, σ' = [some (.ref la), some (.ref b), some (.int (i : Int)), o]) ∧ best t row = best t (row.drop m)) (fun H1 e1 => ⟨e1, ⟨_, rfl⟩, rfl⟩) (fun m σ' H' _ p => st_of (p.1 _ _ r1)) ?_ ?_
        · rintro m y σ' H1 hy ⟨e1, ⟨o, rfl⟩, hd⟩
          obtain ⟨u, hu1, hu2⟩ := r2.wds_inv hy
          have hum := List.mem_of_getElem? hu1
          obtain ⟨au, rfl, hau⟩ := wd_ref hu2
          have hdrop := best_drop (t := t) hu1
          obtain ⟨j, j1, j2, j3, _⟩ := ways_in hG hri hum
          have hjl : j < t.length := by rw [htl]; exact j3
          have htj : t[j]? = some t[j] := List.getElem?_eq_getElem hjl
          obtain ⟨yj, y1, y2⟩ := dpa_at (i := j) (d := od t[j]) hxs (by rw [List.getElem?_map, htj]; rfl)
          have hh : hit t u = decide (t[j] = some (u.drop 1)) := by
            unfold hit
            rw [j2, show ((j : Int)).toNat = j from rfl, List.getD_eq_getElem?_getD, htj]
            rfl
          generalize t[j] = oj at *
          rw [hh] at hdrop
          refine g_name ?_
          change tIfS _ _ _ _ [some (.ref la), some (.ref b), some (.int (i : Int)), some (.ref au)] H1
          have vu : Ev (tVar 3) [some (.ref la), some (.ref b), some (.int (i : Int)), some (.ref au)] H1 (.ref au) := ev_var rfl
          have hau1 : SqT K H1 au (u.map V.int) := st_of (e1 _ _ hau)
          have hb1 : SqL K H1 b xs ∨ SqT K H1 b xs := by
            rcases hb with z | z
            · exact .inl (ex_l e1 z)
            · exact .inr (ex_t e1 z)
          refine s_when (b := decide (oj = some (u.drop 1))) (et_test (ev_eqTail (ev_atS (K := K) (ev_var (i := 1) rfl) hb1 (ev_second vu hau1 j1) y1) (Dp.up e1 y2) (eq_tail vu hau1))) (fun hb2 H2 e2 => s_ret (vu.mono e2) fun H3 e3 => ?_) (fun hb2 H2 e2 => ⟨e1.trans e2, ⟨_, rfl⟩, ?_⟩)
          · rw [hd, hdrop, if_pos hb2] at k
            exact k H3 _ ((e1.trans e2).trans e3) (hu2.mono ((e1.trans e2).trans e3))
          · rw [hd, hdrop, if_neg (by rw [hb2]; decide)]
        · rintro σ' H1 ⟨e1, ⟨o, rfl⟩, hd⟩
          rw [hd, rl, List.drop_length] at k
          refine ⟨by show 0 ≤ sizeLine; decide, fun e he => k _ (.ref e) (e1.trans (Ex.new he)) (.tup upd_same .nil)⟩
/-! _law_stays, _law_is_outcome -/
abbrev spLStays (K : PySem.W.Frag) : Sp := spP fun H vs z => ∃ (lv tv : V) (rows : List (List Wy)) (t : List (Option Wy)), vs = [lv, tv] ∧ Dq H lv (pd rows) ∧ GW rows ∧ 2 ≤ rows.length ∧ rows.length ≤ 8 ∧ Dp K H tv (.tuple (t.map od)) ∧ t.length = rows.length ∧ z = .bl (lsB rows t (rows.length - 1) 1)
abbrev sLStays : Stmt := top 43
abbrev nLStays : List Str := ["_law_lists_here", "_law_taking", "_law_router"]
theorem scLStays : FnScope nLStays ["_law_lists_here", "_law_taking"] (defScope sLStays) := ⟨rfl, rfl, rfl, by decide +kernel, rfl, by decide +kernel, by decide +kernel⟩
theorem ok_lStays (B : Bl mg) (C : Cal P w K mg base "_law_best" ["_law_lists_here", "_law_taking", "_law_router"] 1 (spBest K)) (F : FnP K "_law_stays" sLStays f fd) : FnOk P w K mg base CX0 2 f fd ["_law_lists_here", "_law_taking"] (spLStays K) := by
  refine F.ok scLStays (fun vs H Q E h => ?_) (fun cdv A outer s H vs Q E hr h => ?_)
  · obtain ⟨z, ⟨lv, tv, rows, t, rfl, _⟩, _⟩ := h
    rfl
  · obtain ⟨z, ⟨lv, tv, rows, t, rfl, hl, hG, hn2, hn8, ht, htl, rfl⟩, k⟩ := h
    have hu : (A.deeper (envOfC "_law_stays" (defScope sLStays) s.heap.objs.size f cdv)).units + 64 < cLine := by have := hr.un; omega
    refine ⟨_, pss_cons (ps_for (passes_of rfl) rfl (pi_range2 (by rfl) B.range (pa_cons pe_int (pa_cons (pe_callB call_len_seq (by rfl) B.len PySem.boot_len (pa_cons (pv 0) pa_nil)) pa_nil))) (pg_name (i := 2) scLStays.nd rfl (Or.inl rfl))
        (pss_one (ps_if (pt_cmpR (op_neD hu) (pe_ix ix_tup (pv 1) (pv 2) (fun _ _ => rfl)) (pe_cal C hr (by rfl) (pa_cons (pv 0) (pa_cons (pv 1) (pa_cons (pv 2) pa_nil)))) (nomark _)) (pss_one (ps_ret pe_bl)) pss_nil)))
      (pss_one (ps_ret pe_bl)), ?_⟩
    have hl0 := hl
    unfold pd at hl0
    cases hl0 with
    | tup l1 l2 =>
      rename_i la lxs
      have lxl := l2.length
      rw [List.length_map] at lxl
      cases ht with
      | tup hb hxs =>
        rename_i b xs
        have hlen : Ev (tCB (rLenS K) (tCons (tVar 0) tNil)) (start nLStays [.ref la, .ref b]) H (.int (rows.length : Int)) := by
          rw [← lxl]
          exact ev_lenT (ev_var rfl) (st_of l1)
        refine q_forR2 (ea_cons ev_c (ea_cons hlen ea_nil)) (by omega) (fun i σ' H' => Ex H H' ∧ (∃ o, σ' = [some (.ref la), some (.ref b), o]) ∧ lsB rows t (rows.length - 1) 1 = lsB rows t (rows.length - 1 - i) (1 + i)) (fun H1 e1 => ⟨e1, ⟨_, rfl⟩, rfl⟩) ?_ ?_
        · rintro i σ' H1 hi ⟨e1, ⟨o, rfl⟩, hf⟩
          change tIfS _ _ _ _ [some (.ref la), some (.ref b), some (.int (1 + (i : Int)))] H1
          have hin : 1 + i < rows.length := by omega
          have hil : 1 + i < t.length := by omega
          have hti : t[1 + i]? = some t[1 + i] := List.getElem?_eq_getElem hil
          have etg : t.getD (1 + i) none = t[1 + i] := by rw [List.getD_eq_getElem?_getD, hti]; rfl
          obtain ⟨x, hx, hdx⟩ := dpa_at (i := 1 + i) (d := od t[1 + i]) hxs (by rw [List.getElem?_map, hti]; rfl)
          have er : lsB rows t (rows.length - 1 - i) (1 + i) = if t.getD (1 + i) none = some (best t (rows.getD (1 + i) [])) then lsB rows t (rows.length - 1 - (i + 1)) (1 + (i + 1)) else false := by
            rw [show rows.length - 1 - i = (rows.length - 1 - (i + 1)) + 1 by omega]
            rfl
          rw [etg] at er
          generalize t[1 + i] = oi at *
          rw [show (1 : Int) + (i : Int) = ((1 + i : Nat) : Int) by omega]
          refine s_when (b := !decide (oi = some (best t (rows.getD (1 + i) [])))) (et_test fun H2 e2 Q2 q => ev_at (K := K) (ev_var (i := 1) rfl) (ex_t (e1.trans e2) hb) (ev_var (i := 2) rfl) hx H2 (Ex.refl H2) _ fun H3 e3 => ?_) (fun hb2 H2 e2 => s_ret ev_c fun H3 e3 => ?_) (fun hb2 H2 e2 => ⟨e1.trans e2, ⟨_, rfl⟩, ?_⟩)
          · have e13 := (e1.trans e2).trans e3
            refine ⟨.ref la, rfl, .ref b, rfl, .int ((1 + i : Nat) : Int), rfl, .ref la, .ref b, 1 + i, rows, t, rfl, hl.mono e13, hG, ⟨b, xs, rfl, .inr (ex_t e13 hb), DpAll.up e13 hxs⟩, htl, hin, fun H4 u e4 hu4 => ?_⟩
            have hdu : Dp K H4 u (wd (best t (rows.getD (1 + i) []))) := Dq.dp (SeqAt.canLay_of_shaped (shaped_wd _)) hu4
            refine ⟨od oi, _, Dp.up (e13.trans e4) hdx, hdu, shaped_od _, shaped_wd _, ?_⟩
            rw [eqv_od]
            exact q H4 (e3.trans e4)
          · rw [hf, er, if_neg (by simpa using hb2)] at k
            exact k H3 ((e1.trans e2).trans e3)
          · rw [hf, er, if_pos (by simpa using hb2)]
        · rintro σ' H1 ⟨e1, ⟨o, rfl⟩, hf⟩
          have er : lsB rows t (rows.length - 1) 1 = true := by
            rw [hf, show rows.length - 1 - ((rows.length : Int) - 1).toNat = 0 by omega]
            rfl
          rw [er] at k
          exact s_ret ev_c fun H2 e2 => k H2 (e1.trans e2)
abbrev spLOut (CW : Addr) : Sp := spP fun H vs z => ∃ (lv v : V) (o : Option PyData) (rows : List (List Wy)), vs = [lv, v] ∧ Dq H lv (pd rows) ∧ GW rows ∧ 2 ≤ rows.length ∧ rows.length ≤ 8 ∧ Tg CW H v o ∧ Small o ∧ z = .bl (outB rows o)
abbrev sLOut : Stmt := top 44
theorem scLOut : FnScope ["_law_lists_here", "_law_thing"] ["_law_lists_here", "_law_thing"] (defScope sLOut) := ⟨rfl, rfl, rfl, by decide +kernel, rfl, by decide +kernel, by decide +kernel⟩
theorem ok_lOut (C : Cal P w K mg base "_law_is_taking" ["_law_lists_here", "_law_thing"] 2 (spLTaking CW)) (C2 : Cal P w K mg base "_law_stays" ["_law_lists_here", "_law_taking"] 2 (spLStays K)) (F : FnP K "_law_is_outcome" sLOut f fd) : FnOk P w K mg base CX0 3 f fd ["_law_lists_here", "_law_thing"] (spLOut CW) := by
  refine F.ok scLOut (fun vs H Q E h => ?_) (fun cdv A outer s H vs Q E hr h => ?_)
  · obtain ⟨z, ⟨lv, v, o, rows, rfl, _⟩, _⟩ := h
    rfl
  · obtain ⟨z, ⟨lv, v, o, rows, rfl, hl, hG, hn2, hn8, hv, hs, rfl⟩, k⟩ := h
    refine ⟨_, pss_one (ps_ret (pe_and (pe_cal C hr (by rfl) (pa_cons (pv 0) (pa_cons (pv 1) pa_nil))) (pe_one (pe_cal C2 hr (by rfl) (pa_cons (pv 0) (pa_cons (pv 1) pa_nil)))))), ?_⟩
    refine s_ret (ev_andV (a := tkB rows o) (ev_call (ea_cons (ev_var rfl) (ea_cons (ev_var rfl) ea_nil)) (spP_v fun H1 e => ⟨lv, v, o, rows, rfl, hl.mono e, hn8, hv.up e, hs, rfl⟩)) fun hb => ?_) k
    cases o with
    | none => cases hb
    | some d =>
      obtain ⟨e1, e2, e3, e4⟩ := tk_ok hb
      show Ev _ _ _ (.bl (decide (fcs rows (tkOf d) (rows.length - 1) 1 = none)))
      rw [← lsB_fcs hG e2 tkOf_some _ 1 (Nat.le_refl 1) (by omega)]
      exact ev_call (ea_cons (ev_var rfl) (ea_cons (ev_var rfl) ea_nil)) (spP_v fun H1 e => ⟨lv, v, rows, tkOf d, rfl, hl.mono e, hG, hn2, hn8, dp_tk (rows := rows) (Dq.mono e hv) e1, e2.len, rfl⟩)
end
end Wk

set_option Elab.async false
set_option linter.all false
set_option maxRecDepth 100000
set_option maxHeartbeats 2000000
namespace Wk
open PySem PySem.Spec PyProof.Rows L2 Evl
/-! orders -/
structure StO {α : Type} (lt : α → α → Bool) : Prop where
  irr : ∀ x, lt x x = false
  tr : ∀ x y z, lt x y = true → lt y z = true → lt x z = true
  tri : ∀ x y, x ≠ y → lt x y = true ∨ lt y x = true
theorem StO.asym {α : Type} {lt : α → α → Bool} (h : StO lt) {x y : α} (a : lt x y = true) : lt y x = false := by
  cases b : lt y x with
  | false => rfl
  | true => rw [← h.irr x, h.tr _ _ _ a b]
def lexG {α : Type} [DecidableEq α] (lt : α → α → Bool) : List α → List α → Bool
  | [], [] => false
  | [], _ :: _ => true
  | _ :: _, [] => false
  | x :: xs, y :: ys => if x = y then lexG lt xs ys else lt x y
theorem lexG_sto {α : Type} [DecidableEq α] {lt : α → α → Bool} (h : StO lt) : StO (lexG lt) := by
  refine ⟨fun xs => ?_, ?_, ?_⟩
  · induction xs with
    | nil => rfl
    | cons x xs ih => show (if x = x then lexG lt xs xs else _) = false; rw [if_pos rfl]; exact ih
  · intro xs
    induction xs with
    | nil =>
      intro ys zs h1 h2
      cases zs with
      | nil => cases ys <;> cases h2
      | cons z zs => rfl
    | cons x xs ih =>
      intro ys zs h1 h2
      cases ys with
      | nil => cases h1
      | cons y ys =>
        cases zs with
        | nil => cases h2
        | cons z zs =>
          have h1' : (if x = y then lexG lt xs ys else lt x y) = true := h1
          have h2' : (if y = z then lexG lt ys zs else lt y z) = true := h2
          show (if x = z then lexG lt xs zs else lt x z) = true
          by_cases c1 : x = y
          · subst c1
            rw [if_pos rfl] at h1'
            by_cases c2 : x = z
            · rw [if_pos c2] at h2' ⊢
              exact ih _ _ h1' h2'
            · rw [if_neg c2] at h2' ⊢
              exact h2'
          · rw [if_neg c1] at h1'
            by_cases c2 : y = z
            · subst c2
              rw [if_neg c1]
              exact h1'
            · rw [if_neg c2] at h2'
              by_cases c3 : x = z
              · subst c3
                rw [h.asym h1'] at h2'
                cases h2'
              · rw [if_neg c3]
                exact h.tr _ _ _ h1' h2'
  · intro xs
    induction xs with
    | nil =>
      intro ys hn
      cases ys with
      | nil => exact absurd rfl hn
      | cons y ys => exact .inl rfl
    | cons x xs ih =>
      intro ys hn
      cases ys with
      | nil => exact .inr rfl
      | cons y ys =>
        show (if x = y then lexG lt xs ys else lt x y) = true ∨ (if y = x then lexG lt ys xs else lt y x) = true
        by_cases c : x = y
        · subst c
          rw [if_pos rfl, if_pos rfl]
          exact ih ys fun z => hn (by rw [z])
        · rw [if_neg c, if_neg fun z => c z.symm]
          exact h.tri x y c
theorem sto_int : StO (fun a b : Int => decide (a < b)) := ⟨fun x => decide_eq_false (by omega), fun x y z h1 h2 => decide_eq_true (by have := of_decide_eq_true h1; have := of_decide_eq_true h2; omega), fun x y h => by
  rcases Int.lt_or_gt_of_ne h with c | c
  · exact .inl (decide_eq_true c)
  · exact .inr (decide_eq_true c)⟩
theorem lexG_int : ∀ xs ys : List Int, HT.lexLt xs ys = lexG (fun a b : Int => decide (a < b)) xs ys
  | [], [] => rfl
  | [], _ :: _ => rfl
  | _ :: _, [] => rfl
  | x :: xs, y :: ys => by
    show (if x = y then HT.lexLt xs ys else decide (x < y)) = (if x = y then lexG _ xs ys else decide (x < y))
    rw [lexG_int xs ys]
/-- ways, takings by their ways -/
abbrev ltW : Wy → Wy → Bool := HT.lexLt
abbrev ltT : List Wy → List Wy → Bool := lexG ltW
theorem sto_W : StO ltW := by
  have e : ltW = lexG (fun a b : Int => decide (a < b)) := by funext x y; exact lexG_int x y
  rw [e]
  exact lexG_sto sto_int
theorem sto_T : StO ltT := lexG_sto sto_W
/-- ascending -/
abbrev Asc {α : Type} (lt : α → α → Bool) (l : List α) : Prop := l.Pairwise fun x y => lt x y = true
theorem asc_nd {α : Type} {lt : α → α → Bool} (h : StO lt) {l : List α} (a : Asc lt l) : l.Nodup := a.imp fun {x y} q z => by
  rw [z, h.irr] at q
  cases q
theorem asc_ext {α : Type} {lt : α → α → Bool} (h : StO lt) : ∀ {l m : List α}, Asc lt l → Asc lt m → (∀ x, x ∈ l ↔ x ∈ m) → l = m
  | [], [], _, _, _ => rfl
  | [], y :: m, _, _, e => absurd ((e y).mpr List.mem_cons_self) (by simp)
  | x :: l, [], _, _, e => absurd ((e x).mp List.mem_cons_self) (by simp)
  | x :: l, y :: m, a, b, e => by
    obtain ⟨a1, a2⟩ := List.pairwise_cons.mp a
    obtain ⟨b1, b2⟩ := List.pairwise_cons.mp b
    have exy : x = y := by
      rcases List.mem_cons.mp ((e x).mp List.mem_cons_self) with z | z
      · exact z
      rcases List.mem_cons.mp ((e y).mpr List.mem_cons_self) with z2 | z2
      · exact z2.symm
      have q1 := b1 x z
      have q2 := a1 y z2
      rw [h.asym q1] at q2
      cases q2
    subst exy
    congr 1
    refine asc_ext h a2 b2 fun z => ?_
    have q := e z
    rw [List.mem_cons, List.mem_cons] at q
    constructor
    · intro hz
      rcases q.mp (.inr hz) with c | c
      · subst c
        have := a1 z hz
        rw [h.irr] at this
        cases this
      · exact c
    · intro hz
      rcases q.mpr (.inr hz) with c | c
      · subst c
        have := b1 z hz
        rw [h.irr] at this
        cases this
      · exact c
/-- sorted and unlike is ascending -/
theorem asc_of {α : Type} {lt : α → α → Bool} (h : StO lt) : ∀ {l : List α}, l.Pairwise (fun x y => lt y x = false) → l.Nodup → Asc lt l
  | [], _, _ => .nil
  | x :: l, a, n => by
    obtain ⟨a1, a2⟩ := List.pairwise_cons.mp a
    obtain ⟨n1, n2⟩ := List.nodup_cons.mp n
    refine List.pairwise_cons.mpr ⟨fun y hy => ?_, asc_of h a2 n2⟩
    rcases h.tri x y (fun z => n1 (by rw [z]; exact hy)) with c | c
    · exact c
    · rw [a1 y hy] at c
      cases c
/-! the data's order is this one -/
theorem lt_wd (x y : Wy) : PySem.W.dataLt (wd x) (wd y) = ltW x y := by
  have e : ∀ xs ys : List Int, decide (xs < ys) = HT.lexLt xs ys := by
    intro xs
    induction xs with
    | nil =>
      intro ys
      cases ys with
      | nil => simp [HT.lexLt]
      | cons y ys => simp [HT.lexLt]
    | cons x xs ih =>
      intro ys
      cases ys with
      | nil => simp [HT.lexLt]
      | cons y ys =>
        rw [HT.lexLt_cons, ← ih ys]
        by_cases c : x = y
        · subst c
          rw [if_pos rfl]
          simp [List.cons_lt_cons_iff]
        · rw [if_neg c]
          simp [List.cons_lt_cons_iff, c]
  show PySem.W.dataLt (.tuple (x.map PyData.int)) (.tuple (y.map PyData.int)) = HT.lexLt x y
  rw [← e, ← PySem.W.dataLt_ints, PySem.W.dataLt_tuple]
  rfl
theorem alike_ints (x y : Wy) : PySem.W.alike (wd x) (wd y) = true := by
  show PySem.W.alikeAll (x.map PyData.int) (y.map PyData.int) = true
  exact PySem.W.alike_ints x y
def tkd (t : List Wy) : PyData := .tuple (t.map wd)
theorem alike_tk : ∀ x y : List Wy, PySem.W.alike (tkd x) (tkd y) = true
  | [], _ => by simp [tkd, PySem.W.alike, PySem.W.alikeAll]
  | x :: xs, [] => by simp [tkd, PySem.W.alike, PySem.W.alikeAll]
  | x :: xs, y :: ys => by
    have h := alike_tk xs ys
    simp only [tkd, PySem.W.alike] at h
    simp only [tkd, List.map_cons, PySem.W.alike, PySem.W.alikeAll]
    rw [alike_ints, h]
    rfl
theorem lt_tk : ∀ x y : List Wy, PySem.W.rowLt (x.map wd) (y.map wd) = ltT x y
  | [], [] => by show PyProof.Rows.lexLt _ _ _ = false; exact lex_irrefl _
  | [], y :: ys => by
    unfold PySem.W.rowLt
    rfl
  | x :: xs, [] => by
    unfold PySem.W.rowLt
    rfl
  | x :: xs, y :: ys => by
    unfold PySem.W.rowLt
    rw [List.map_cons, List.map_cons, PySem.W.dataLt_cons (alike_ints x y), eqv_wd, lt_wd]
    show (if decide (x = y) = true then PySem.W.rowLt (xs.map wd) (ys.map wd) else ltW x y) = (if x = y then ltT xs ys else ltW x y)
    rw [lt_tk xs ys]
    by_cases c : x = y
    · rw [if_pos c, if_pos (decide_eq_true c)]
    · rw [if_neg c, if_neg (by rw [decide_eq_false c]; decide)]
end Wk

set_option Elab.async false
set_option linter.all false
set_option maxRecDepth 100000
set_option maxHeartbeats 4000000
/-! sorted of tuples of whole numbers of any lengths, one of them empty -/
namespace SrtI
open PySem PySem.Spec PyProof.Rows L2 SrtO
def IsTI (h : Heap) (v : Value) (ns : List Int) : Prop := ∃ a its, v = .ref a ∧ h.IsTuple a its ∧ IntsAre its.toList ns
theorem IsTI.uniq {h : Heap} {v : Value} {ns ms : List Int} (a : IsTI h v ns) (b : IsTI h v ms) : ns = ms := by
  obtain ⟨x, its, rfl, ⟨o, ho, hc, n, hd⟩, i1⟩ := a
  obtain ⟨y, its2, e, ⟨o2, ho2, hc2, n2, hd2⟩, i2⟩ := b
  cases e
  rw [ho] at ho2
  cases ho2
  rw [hd] at hd2
  cases hd2
  have key : ∀ {vs : List Value} {ns ms : List Int}, IntsAre vs ns → IntsAre vs ms → ns = ms := by
    intro vs
    induction vs with
    | nil => intro ns ms h1 h2; cases h1; cases h2; rfl
    | cons v vs ih =>
      intro ns ms h1 h2
      cases h1 with
      | cons n t h1 =>
        cases h2 with
        | cons m u h2 => rw [ih h1 h2]
  exact key i1 i2
theorem IsTI.keeps {h h' : Heap} {v : Value} {ns : List Int} (p : IsTI h v ns) (k : ∀ b o, h.get? b = some o → o.cls = .type "tuple" → h'.get? b = some o) : IsTI h' v ns := by
  obtain ⟨a, its, e, ⟨o, ho, hc, n, hd⟩, i⟩ := p
  exact ⟨a, its, e, ⟨o, k _ _ ho hc, hc, n, hd⟩, i⟩
open Classical in
noncomputable def kOf (h : Heap) (v : Value) : List Int := if q : ∃ ns, IsTI h v ns then q.choose else []
theorem kOf_is {h : Heap} {v : Value} {ns : List Int} (p : IsTI h v ns) : kOf h v = ns := by
  have q : ∃ ns, IsTI h v ns := ⟨ns, p⟩
  unfold kOf
  rw [dif_pos q]
  exact q.choose_spec.uniq p
section
variable {prog : Program} {w : World} {A : Around} {E : Value → Shared → Prop} {s : Shared}
theorem ti_first {v : Value} {ns : List Int} (p : IsTI s.heap v ns) : ∃ (f : Option Value), (f.isSome = !ns.isEmpty) ∧ ∀ (Q : Option Value → Shared → Prop) (E : Value → Shared → Prop), Q f s → wpAny (model prog w) A (firstOfTuple' v) Q E s := by
  obtain ⟨a, its, rfl, ⟨o, ho, hc, n, hd⟩, i⟩ := p
  refine ⟨its[0]?, ?_, fun Q E hq => ?_⟩
  · have hl := i.length
    rw [Array.length_toList] at hl
    cases ns with
    | nil =>
      have : its.size = 0 := by simpa using hl
      rw [Array.getElem?_eq_none (by omega)]
      rfl
    | cons x ns =>
      have : its.size = ns.length + 1 := by simpa using hl
      rw [Array.getElem?_eq_getElem (by omega)]
      rfl
  · rw [PySem.W.kas_first_eq]
    refine wpAny_bind (PySem.W.Looks.here (show PySem.W.Looks (model prog w) s.heap (typeOf (.ref a)) o.cls from (PySem.W.Looks.ld ho).andThen .now) ?_)
    rw [hc, if_neg (by first | decide | simp)]
    exact wpAny_bind (listItems_at ho hd (wpAny_pure hq))
theorem ti_firsts : ∀ (vs : List Value) (k : Value → List Int), (∀ v ∈ vs, IsTI s.heap v (k v)) → ∃ fs : List (Option Value), fs.map (·.isSome) = vs.map (fun v => !(k v).isEmpty) ∧ ∀ (Q : List (Option Value) → Shared → Prop) (E : Value → Shared → Prop), Q fs s → wpAny (model prog w) A (vs.mapM firstOfTuple') Q E s
  | [], _, _ => ⟨[], rfl, fun Q E hq => by rw [List.mapM_nil]; exact wpAny_pure hq⟩
  | v :: vs, k, h => by
    obtain ⟨f, hf, pf⟩ := ti_first (prog := prog) (w := w) (A := A) (h v List.mem_cons_self)
    obtain ⟨fs, hfs, pfs⟩ := ti_firsts vs k fun x hx => h x (List.mem_cons_of_mem _ hx)
    refine ⟨f :: fs, by rw [List.map_cons, List.map_cons, hf, hfs], fun Q E hq => ?_⟩
    rw [List.mapM_cons]
    exact wpAny_bind (pf _ _ (wpAny_bind (pfs _ _ (wpAny_pure hq))))
theorem ti_kind {vs : List Value} {k : Value → List Int} {v0 : Value} {vr : List Value} (e : vs = v0 :: vr) (h : ∀ v ∈ vs, IsTI s.heap v (k v)) (h0 : k v0 ≠ []) (he : ∃ v ∈ vr, k v = []) {Q : SortKind → Shared → Prop} (hq : Q general' s) : wpAny (model prog w) A (keyKind' vs.toArray) Q E s := by
  obtain ⟨fs, hfs, pfs⟩ := ti_firsts (prog := prog) (w := w) (A := A) vs k h
  rw [PyProof.Rows.kat_kind_eq, List.mapM_toArray, map_eq_pure_bind]
  refine wpAny_bind (wpAny_bind (pfs _ _ (wpAny_pure ?_)))
  have hall : ¬ (fs.toArray.all fun x => x.isSome) = true := by
    intro z
    obtain ⟨v, hv, hk⟩ := he
    have hm : false ∈ fs.map (·.isSome) := by
      rw [hfs]
      exact List.mem_map.mpr ⟨v, by rw [e]; exact List.mem_cons_of_mem _ hv, by rw [hk]; rfl⟩
    obtain ⟨f, hf, hf2⟩ := List.mem_map.mp hm
    have := List.all_eq_true.mp (by simpa using z) f hf
    rw [hf2] at this
    cases this
  rw [if_neg hall]
  have hfirst : ((fs.toArray[0]?).bind id).isSome = true := by
    subst e
    cases fs with
    | nil => simp at hfs
    | cons f fs =>
      have hf : f.isSome = !(k v0).isEmpty := by
        have := congrArg List.head? hfs
        simpa using this
      have : (k v0).isEmpty = false := by
        cases hk : k v0 with
        | nil => exact absurd hk h0
        | cons _ _ => rfl
      rw [this] at hf
      show ((some f).bind id).isSome = true
      exact hf
  rw [if_pos hfirst]
  exact wpAny_pure hq
theorem ti_cmp {vs : List Value} {k : Value → List Int} (hu : A.units < cLine) (h : ∀ v ∈ vs, IsTI s.heap v (k v)) : Cmp prog w A s general' (fun p => p.1 ∈ vs) (lt2 fun v u => HT.lexLt (k v) (k u)) := by
  intro p q hp hq
  obtain ⟨a, its, ea, ta, ia⟩ := h _ hp
  obtain ⟨b, jts, eb, tb, ib⟩ := h _ hq
  show wpAny (model prog w) A (oneLt' false p.1 q.1) (fun r s' => s' = s ∧ r = HT.lexLt (k p.1) (k q.1)) (fun _ _ => False) s
  generalize k p.1 = ns at *
  generalize k q.1 = ms at *
  rw [ea, eb]
  refine PySem.W.kat_one (Q := fun r s' => s' = s ∧ r = HT.lexLt ns ms) _ _ ?_
  refine HT.lt_tupInts (Q := PySem.W.BoolBack fun r s' => s' = s ∧ r = HT.lexLt ns ms) ta tb ia ib hu ?_
  show s = s ∧ HT.lexLt ns ms = HT.lexLt ns ms
  exact ⟨rfl, rfl⟩
theorem ti_sortable {a : Addr} {vs : List Value} {k : Value → List Int} (hu : A.units < cLine) (h : ∀ v ∈ vs, IsTI s.heap v (k v)) (hc : ∃ v0 vr, vs = v0 :: vr ∧ k v0 ≠ [] ∧ ∃ v ∈ vr, k v = []) (ha : ∀ o, s.heap.get? a = some o → o.cls ≠ .type "tuple") : SortableO prog w A s a vs fun v u => HT.lexLt (k v) (k u) := by
  intro h' keep
  have hp' : ∀ v ∈ vs, IsTI h' v (k v) := fun v hm => (h v hm).keeps fun b o e c => keep b o (fun z => by subst z; exact ha o e c) e
  obtain ⟨v0, vr, e, h0, he⟩ := hc
  exact ⟨general', fun Q E hq => ti_kind (s := { s with heap := h' }) e hp' h0 he hq, ti_cmp hu hp'⟩
theorem sorted_ti {l : Addr} {vs : List Value} {k : Value → List Int} {Q : Value → Shared → Prop} (hl : s.heap.IsList l vs.toArray) (hz : vs.length ≤ sizeLine) (hu : A.units + 8 < cLine) (hp : ∀ v ∈ vs, IsTI s.heap v (k v)) (hc : 2 ≤ vs.length → ∃ v0 vr, vs = v0 :: vr ∧ k v0 ≠ [] ∧ ∃ v ∈ vr, k v = [])
    (h : ∀ (h' : Heap) (d : Addr) (out : List Value), Srtd (fun v u => HT.lexLt (k v) (k u)) out → Stb (fun v u => HT.lexLt (k v) (k u)) out vs → (∀ b o, s.heap.get? b = some o → h'.get? b = some o) → s.heap.objs.size ≤ d → (∃ n, h'.get? d = some (seqObj "list" out.toArray n)) → Q (.ref d) { s with heap := h' }) :
    wpAny (model prog w) A (call (.builtin "sorted") [.ref l]) Q E s := by
  refine sorted_ord (NtL.swo_lexL k) hl hz (fun h2 h₁ a ha kk => ?_) fun out hs hb => ?_
  · refine ti_sortable (s := { s with heap := h₁ }) (by show A.units + 1 + 1 < cLine; omega) (fun v hm => (hp v hm).keeps fun b o e _ => (kk b o e).2) (hc h2) fun o e => ?_
    have e' : some o = some (seqObj "list" vs.toArray 0) := e.symm.trans ha
    cases e'
    intro c
    exact absurd (Value.type.inj c) (by decide)
  · exact h _ _ out hs hb (fun b o e => sortedAll_old e) (Nat.le_succ _) (sortedAll_at s.heap vs out.toArray)
end
end SrtI
namespace Wk
open PySem PySem.Spec PyProof.Rows L2 Evl SrtI
theorem dpa_get {K : PySem.W.Frag} {H : Hp} {α : Type} {enc : α → PyData} : ∀ {xs : List V} {ws : List α}, DpAll K H xs (ws.map enc) → ∀ {i : Nat} {x : V}, xs[i]? = some x → ∃ w, ws[i]? = some w ∧ Dp K H x (enc w)
  | [], _, _, i, x, e => by simp at e
  | x :: xs, [], h, _, _, _ => by cases h
  | x :: xs, w :: ws, h, i, y, e => by
    cases h with
    | cons h1 h2 =>
      cases i with
      | zero =>
        simp at e
        subst e
        exact ⟨w, rfl, h1⟩
      | succ i => exact dpa_get h2 (by simpa using e)
theorem dpa_of {K : PySem.W.Frag} {H : Hp} {α β : Type} {enc : α → PyData} {g : β → V} {k : β → α} : ∀ {l : List β}, (∀ u ∈ l, Dp K H (g u) (enc (k u))) → DpAll K H (l.map g) ((l.map k).map enc)
  | [], _ => .nil
  | u :: l, h => .cons (h u List.mem_cons_self) (dpa_of fun x hx => h x (List.mem_cons_of_mem _ hx))
def rSortW (K : PySem.W.Frag) : List V → Hp → VK → Prop := fun vs H Q => ∃ (l : Addr) (xs : List V) (ws : List Wy), vs = [V.ref l] ∧ SqL K H l xs ∧ DpAll K H xs (ws.map wd) ∧ ws.Nodup ∧ (2 ≤ ws.length → ∃ w rest, ws = w :: rest ∧ w ≠ [] ∧ [] ∈ rest) ∧
  ∀ ys ws' p, Asc ltW ws' → ws'.Perm ws → DpAll K H ys (ws'.map wd) → H p = none → Q (.ref p) (upd H p (.lst ys))
theorem cr_sortW {X : Cx} {K : PySem.W.Frag} (hK : X.K = K) (hu : X.A.units + 8 < cLine) : CallR X (.builtin "sorted") (rSortW K) := by
  subst hK
  intro pins s σ H vs us Q I r h
  obtain ⟨a, xs, ws, rfl, hs, hd, nd, hc, q⟩ := h
  obtain ⟨its, rv, hl, hz⟩ := I.list hs
  obtain ⟨u, rfl, ru⟩ := vals1 r
  obtain rfl : u = Value.ref a := ru
  have hxl : xs.length = ws.length := by have := dpa_len hd; rw [List.length_map] at this; exact this
  obtain ⟨e1, e2⟩ := refs_back rv fun x m => by
    obtain ⟨i, hi⟩ := List.getElem?_of_mem m
    obtain ⟨w, _, hw⟩ := dpa_get hd hi
    obtain ⟨t, e, _⟩ := dp_wd hw
    exact ⟨t, e⟩
  -- each value is a tuple of its way
  have hat : ∀ (i : Nat) (v : Value), its[i]? = some v → ∃ w, ws[i]? = some w ∧ Dp X.K H (backV v) (wd w) ∧ IsTI s.heap v w := fun i v hv => by
    have hx : xs[i]? = some (backV v) := by rw [e1, List.getElem?_map, hv]; rfl
    obtain ⟨w, h1, h2⟩ := dpa_get hd hx
    obtain ⟨t, e, ht⟩ := dp_wd h2
    obtain ⟨t', rfl⟩ := e2 v (List.mem_of_getElem? hv)
    have e' : t' = t := by injection e
    subst e'
    obtain ⟨jts, r2, ht2, _⟩ := I.tuple ht
    exact ⟨w, h1, h2, t', jts.toArray, rfl, ht2, by simpa using Vals.ints r2⟩
  have hk : its.map (kOf s.heap) = ws := by
    apply List.ext_getElem?
    intro i
    rw [List.getElem?_map]
    cases hv : its[i]? with
    | none =>
      have h1 := List.getElem?_eq_none_iff.mp hv
      have h2 := rv.length
      rw [List.getElem?_eq_none (by omega)]
      rfl
    | some v =>
      obtain ⟨w, h1, _, h3⟩ := hat i v hv
      rw [h1]
      show some (kOf s.heap v) = some w
      rw [kOf_is h3]
  have hin : ∀ v ∈ its, IsTI s.heap v (kOf s.heap v) ∧ Dp X.K H (backV v) (wd (kOf s.heap v)) := fun v hv => by
    obtain ⟨i, hi⟩ := List.getElem?_of_mem hv
    obtain ⟨w, _, h2, h3⟩ := hat i v hi
    rw [kOf_is h3]
    exact ⟨h3, h2⟩
  refine sorted_ti (k := kOf s.heap) hl.isList (by rw [← rv.length]; exact hz) hu (fun v hv => (hin v hv).1) (fun h2 => ?_) fun h' d out h1 h2 kp hd' hn => ?_
  · have hil : its.length = ws.length := by rw [← rv.length]; exact hxl
    obtain ⟨w, rest, ew, hw, hr⟩ := hc (by omega)
    rw [← hk] at ew
    cases its with
    | nil => cases ew
    | cons v0 vr =>
      rw [List.map_cons] at ew
      injection ew with ew1 ew2
      rw [← ew2] at hr
      obtain ⟨v, hv, hkv⟩ := List.mem_map.mp hr
      exact ⟨v0, vr, rfl, by rw [ew1]; exact hw, v, hv, hkv⟩
  · have hperm := h2.perm
    have hm : ∀ u ∈ out, u ∈ its := fun u hu => hperm.mem_iff.mp hu
    have h3 : ∀ u ∈ out, ∃ a, u = Value.ref a := fun u hu => e2 u (hm u hu)
    obtain ⟨n, hn⟩ := hn
    have hp2 : (out.map (kOf s.heap)).Perm ws := by rw [← hk]; exact hperm.map _
    refine ⟨.ref d, upd H d (.lst (out.map backV)), I.laid (t' := s.toks) kp hd' ⟨?_, out, n, vals_back h3, hn⟩, rfl, q (out.map backV) (out.map (kOf s.heap)) d ?_ hp2 (dpa_of fun u hu => (hin u (hm u hu)).2) (I.hok.fresh hd')⟩
    · rw [List.length_map, hperm.length_eq, ← rv.length]
      exact hz
    · exact asc_of sto_W (List.pairwise_map.mpr h1) (hp2.nodup_iff.mpr nd)
end Wk

set_option Elab.async false
set_option linter.all false
set_option maxRecDepth 100000
set_option maxHeartbeats 4000000
namespace Wk
open PySem PySem.Spec PyProof.Rows L2 Evl
/-! sorted of takings -/
def rSortT (K : PySem.W.Frag) : List V → Hp → VK → Prop := fun vs H Q => ∃ (l : Addr) (xs : List V) (ts : List (List Wy)), vs = [V.ref l] ∧ SqL K H l xs ∧ DpAll K H xs (ts.map tkd) ∧ ts.Nodup ∧ (∀ t ∈ ts, t ≠ []) ∧
  ∀ ys ts' p, Asc ltT ts' → ts'.Perm ts → DpAll K H ys (ts'.map tkd) → H p = none → Q (.ref p) (upd H p (.lst ys))
theorem each_vals {xs : List V} {us : List Value} (rv : Vals xs us) : PySem.W.EachIs (fun (v : Value) (x : V) => RelV x v) us xs := by
  induction rv with
  | nil => exact .nil
  | cons r t ih => exact .cons r ih
theorem vals_each {ps : List (V × List Wy)} {us : List Value} (h : PySem.W.EachIs (fun (v : Value) (p : V × List Wy) => RelV p.1 v) us ps) : Vals (ps.map (·.1)) us := by
  induction h with
  | nil => exact .nil
  | cons r t ih => exact .cons r ih
theorem each_zip {K : PySem.W.Frag} {H : Hp} : ∀ {xs : List V} {us : List Value} {ts : List (List Wy)}, Vals xs us → DpAll K H xs (ts.map tkd) → PySem.W.EachIs (fun (v : Value) (p : V × List Wy) => RelV p.1 v) us (xs.zip ts)
  | _, _, [], .nil, _ => .nil
  | _, _, [], .cons _ _, h => by cases h
  | _, _, t :: ts, .nil, h => by cases h
  | _, _, t :: ts, .cons r rv, h => by
    cases h with
    | cons h1 h2 => exact .cons r (each_zip rv h2)
theorem each_read {X : Cx} {pins : List (Addr × Obj)} {σ : L2.St} {H : Hp} {s : Shared} (I : Inv X pins σ H s) : ∀ {xs : List V} {us : List Value} {ts : List (List Wy)}, Vals xs us → DpAll X.K H xs (ts.map tkd) → PySem.W.EachIs (fun (v : Value) (p : V × List Wy) => ∃ as, Reads s.heap v (tkd p.2) as) us (xs.zip ts)
  | _, _, [], .nil, _ => .nil
  | _, _, [], .cons _ _, h => by cases h
  | _, _, t :: ts, .nil, h => by cases h
  | _, _, t :: ts, .cons r rv, h => by
    cases h with
    | cons h1 h2 => exact .cons (Dp.reads I _ _ _ h1 r) (each_read I rv h2)
theorem dep_tk (t : List Wy) : (tkd t).depth ≤ 2 := by
  have h : ∀ l : List Wy, PyData.depthAll (l.map wd) ≤ 1 := fun l => depAll.mpr fun d hd => by
    obtain ⟨w, _, rfl⟩ := List.mem_map.mp hd
    show (PyData.tuple (w.map PyData.int)).depth ≤ 1
    have : PyData.depthAll (w.map PyData.int) ≤ 0 := depAll.mpr fun d hd => by
      obtain ⟨x, _, rfl⟩ := List.mem_map.mp hd
      simp [PyData.depth]
    simp only [PyData.depth]
    omega
  have := h t
  show (PyData.tuple (t.map wd)).depth ≤ 2
  simp only [PyData.depth]
  omega
theorem cr_sortT {X : Cx} {K : PySem.W.Frag} (hK : X.K = K) (hu : X.A.units + 8 < cLine) : CallR X (.builtin "sorted") (rSortT K) := by
  subst hK
  intro pins s σ H vs us Q I r h
  obtain ⟨a, xs, ts, rfl, hs, hd, nd, hne, q⟩ := h
  obtain ⟨its, rv, hl, hz⟩ := I.list hs
  obtain ⟨u, rfl, ru⟩ := vals1 r
  obtain rfl : u = Value.ref a := ru
  have hxl : xs.length = ts.length := by have := dpa_len hd; rw [List.length_map] at this; exact this
  have hz2 : (xs.zip ts).map (·.2) = ts := List.map_snd_zip (by omega)
  have hzl : (xs.zip ts).length ≤ sizeLine := by rw [List.length_zip]; omega
  have hzd : ∀ p ∈ xs.zip ts, Dp X.K H p.1 (tkd p.2) := fun p hp => by
    obtain ⟨i, hi⟩ := List.getElem?_of_mem hp
    rw [List.getElem?_zip_eq_some] at hi
    obtain ⟨w, h1, h2⟩ := dpa_get hd hi.1
    rw [hi.2] at h1
    cases h1
    exact h2
  refine PySem.W.sorted_data (β := V × List Wy) (enc := fun p => tkd p.2) (R := fun v p => RelV p.1 v) (bs := xs.zip ts) hl.isList (each_zip rv hd) (each_read I rv hd) (PySem.W.AllAlike.of fun b b' => alike_tk _ _) (.inl fun d hd' => ?_) hzl (fun b hb => by have := dep_tk b.2; omega) fun out ho he => ?_
  · obtain ⟨p, hp, rfl⟩ := List.mem_map.mp hd'
    have hm : p.2 ∈ ts := (List.of_mem_zip hp).2
    cases ht : p.2 with
    | nil => exact absurd ht (hne _ hm)
    | cons x t => exact ⟨wd x, t.map wd, rfl⟩
  · have hle : PySem.W.dataLe false (fun p : V × List Wy => tkd p.2) = fun p q => !ltT q.2 p.2 := by
      rw [PySem.W.dataLe_eq]
      funext p q
      show (!PySem.W.dataLt (tkd q.2) (tkd p.2)) = !ltT q.2 p.2
      congr 1
      show PySem.W.dataLt (.tuple (q.2.map wd)) (.tuple (p.2.map wd)) = _
      rw [PySem.W.dataLt_tuple]
      exact lt_tk _ _
    rw [hle] at he
    have hperm := List.mergeSort_perm (xs.zip ts) (fun p q => !ltT q.2 p.2)
    have hpw := List.pairwise_mergeSort (le := fun p q : V × List Wy => !ltT q.2 p.2) (fun a b c h1 h2 => ?_) (fun a b => ?_) (xs.zip ts)
    · generalize (xs.zip ts).mergeSort (fun p q => !ltT q.2 p.2) = ps at *
      have hp2 : (ps.map (·.2)).Perm ts := by
        have z := hperm.map (·.2)
        rw [hz2] at z
        exact z
      have hv := vals_each he
      have hd' : s.heap.objs.size ≤ s.heap.objs.size + 1 := Nat.le_succ _
      obtain ⟨n, hn⟩ := sortedAll_at s.heap its out.toArray
      refine ⟨.ref (s.heap.objs.size + 1), upd H (s.heap.objs.size + 1) (.lst (ps.map (·.1))), I.laid (t' := s.toks) (fun b o e => sortedAll_old e) hd' ⟨?_, out, n, hv, hn⟩, rfl, q (ps.map (·.1)) (ps.map (·.2)) _ ?_ hp2 (dpa_of fun p hp => hzd p (hperm.mem_iff.mp hp)) (I.hok.fresh hd')⟩
      · rw [List.length_map, hperm.length_eq]
        exact hzl
      · refine asc_of sto_T (List.pairwise_map.mpr (hpw.imp fun {p q} z => ?_)) (hp2.nodup_iff.mpr nd)
        simpa using z
    · -- transitive
      simp only [Bool.not_eq_true'] at h1 h2 ⊢
      cases hc : ltT c.2 a.2 with
      | false => rfl
      | true =>
        by_cases e1 : a.2 = b.2
        · rw [e1] at hc; rw [h2] at hc; cases hc
        rcases sto_T.tri a.2 b.2 e1 with z | z
        · rw [sto_T.tr _ _ _ hc z] at h2
          cases h2
        · rw [h1] at z
          cases z
    · by_cases e1 : a.2 = b.2
      · rw [e1, sto_T.irr]
        rfl
      · rcases sto_T.tri a.2 b.2 e1 with z | z
        · rw [sto_T.asym z]
          rfl
        · rw [sto_T.asym z]
          simp
end Wk

set_option Elab.async false
set_option linter.all false
set_option maxRecDepth 100000
set_option maxHeartbeats 2000000
namespace Wk
open PySem PySem.Spec PyProof.Rows L2 Evl
/-! outcomes, router by router -/
def ptk (n : Nat) (pre : List Wy) : List (Option Wy) := pre.map some ++ List.replicate (n - pre.length) none
theorem ptk_len {n : Nat} {pre : List Wy} (h : pre.length ≤ n) : (ptk n pre).length = n := by
  unfold ptk
  rw [List.length_append, List.length_map, List.length_replicate]
  omega
theorem ptk_at {n : Nat} {pre : List Wy} {i : Nat} (h : i < pre.length) : (ptk n pre)[i]? = some pre[i]? := by
  unfold ptk
  rw [List.getElem?_append_left (by rw [List.length_map]; exact h), List.getElem?_map, List.getElem?_eq_getElem h]
  rfl
theorem ptk_behind {n : Nat} {pre : List Wy} {i : Nat} (h : pre.length ≤ i) : (ptk n pre).getD i none = none := by
  unfold ptk
  rw [List.getD_eq_getElem?_getD, List.getElem?_append_right (by rw [List.length_map]; exact h), List.getElem?_replicate]
  split <;> rfl
theorem ptk_getD {n : Nat} {pre : List Wy} {i : Nat} : (ptk n pre).getD i none = pre[i]? := by
  by_cases c : i < pre.length
  · rw [List.getD_eq_getElem?_getD, ptk_at c]
    rfl
  · rw [ptk_behind (by omega), List.getElem?_eq_none (by omega)]
theorem ptk_full {pre : List Wy} : ptk pre.length pre = pre.map some := by
  unfold ptk
  rw [Nat.sub_self]
  simp
/-- the next item is put -/
theorem ptk_snoc {n : Nat} {pre : List Wy} {x : Wy} (h : pre.length < n) : (ptk n pre).set pre.length (some x) = ptk n (pre ++ [x]) := by
  apply List.ext_getElem?
  intro i
  unfold ptk
  rw [List.getElem?_set]
  by_cases c : pre.length = i
  · subst c
    rw [if_pos rfl, if_pos (by rw [List.length_append, List.length_map, List.length_replicate]; omega), List.getElem?_append_left (by simp), List.getElem?_map]
    simp
  · rw [if_neg c]
    by_cases c2 : i < pre.length
    · rw [List.getElem?_append_left (by rw [List.length_map]; exact c2), List.getElem?_append_left (by simp; omega), List.getElem?_map, List.getElem?_map, List.getElem?_append_left c2]
    · rw [List.getElem?_append_right (by rw [List.length_map]; omega), List.getElem?_append_right (by simp; omega), List.getElem?_replicate, List.getElem?_replicate]
      simp only [List.length_map, List.length_append, List.length_cons, List.length_nil]
      by_cases c3 : i < n
      · rw [if_pos (by omega), if_pos (by omega)]
      · rw [if_neg (by omega), if_neg (by omega)]
/-- items that routers may have -/
def PreOk (rows : List (List Wy)) (pre : List Wy) : Prop := pre.length ≤ rows.length ∧ ∀ (i : Nat) (x : Wy), pre[i]? = some x → x ∈ chW rows i
theorem PreOk.tk {rows : List (List Wy)} {pre : List Wy} (h : PreOk rows pre) : TkO rows (ptk rows.length pre) := ⟨ptk_len h.1, fun i x e => by
  have hi : (ptk rows.length pre).getD i none = some x := by rw [List.getD_eq_getElem?_getD, e]; rfl
  rw [ptk_getD] at hi
  exact h.2 i x hi⟩
def okP (rows : List (List Wy)) (pre : List Wy) : Bool := decide (fcs rows (ptk rows.length pre) (rows.length - 1) 1 = none)
/-- what is had shows no more wrong than what is had with more -/
theorem csL_mono {t t' : List (Option Wy)} (h : ∀ i x, t.getD i none = some x → t'.getD i none = some x) {own : Wy} : ∀ {ws : List Wy}, csL t own ws = true → csL t' own ws = true
  | [], e => by cases e
  | w :: ws, e => by
    unfold csL at e ⊢
    by_cases c : w = own
    · rw [if_pos c] at e
      cases e
    · rw [if_neg c] at e ⊢
      by_cases c1 : hit t w = true
      · have c2 : hit t' w = true := by
          unfold hit at c1 ⊢
          exact decide_eq_true (h _ _ (of_decide_eq_true c1))
        rw [if_pos c2]
      · rw [if_neg c1] at e
        by_cases c2 : hit t' w = true
        · rw [if_pos c2]
        · rw [if_neg c2]
          exact csL_mono h e
theorem csB_mono {rows : List (List Wy)} {t t' : List (Option Wy)} (h : ∀ i x, t.getD i none = some x → t'.getD i none = some x) {i : Nat} (e : csB rows t i = true) : csB rows t' i = true := by
  unfold csB at e ⊢
  cases ho : t.getD i none with
  | none => rw [ho] at e; cases e
  | some own =>
    rw [ho] at e
    rw [h _ _ ho]
    dsimp only at e ⊢
    by_cases c : own ≠ [] ∧ t'.getD (own.getD 1 0).toNat none ≠ none ∧ hit t' own = false
    · rw [if_pos c]
    · rw [if_neg c]
      by_cases c1 : own ≠ [] ∧ t.getD (own.getD 1 0).toNat none ≠ none ∧ hit t own = false
      · exfalso
        obtain ⟨c2, c3, c4⟩ := c1
        obtain ⟨y, hy⟩ := Option.ne_none_iff_exists'.mp c3
        have hy' := h _ _ hy
        refine c ⟨c2, by rw [hy']; simp, ?_⟩
        unfold hit at c4 ⊢
        rw [hy] at c4
        rw [hy']
        exact c4
      · rw [if_neg c1] at e
        exact csL_mono h e
theorem fcs_none {rows : List (List Wy)} {t : List (Option Wy)} : ∀ {m i : Nat}, fcs rows t m i = none ↔ ∀ j, i ≤ j → j < i + m → csB rows t j = false
  | 0, i => ⟨fun _ j h1 h2 => by omega, fun _ => rfl⟩
  | m + 1, i => by
    unfold fcs
    by_cases c : csB rows t i = true
    · rw [if_pos c]
      refine ⟨fun z => (by cases z), fun z => ?_⟩
      rw [z i (Nat.le_refl _) (by omega)] at c
      cases c
    · rw [if_neg c, fcs_none (m := m) (i := i + 1)]
      refine ⟨fun z j h1 h2 => ?_, fun z j h1 h2 => z j (by omega) (by omega)⟩
      by_cases e : j = i
      · subst e
        simpa using c
      · exact z j (by omega) (by omega)
theorem okP_mono {rows : List (List Wy)} {pre : List Wy} {x : Wy} (h : okP rows (pre ++ [x]) = true) : okP rows pre = true := by
  unfold okP at h ⊢
  have h1 := of_decide_eq_true h
  refine decide_eq_true (fcs_none.mpr fun j h2 h3 => ?_)
  have h4 := fcs_none.mp h1 j h2 h3
  cases c : csB rows (ptk rows.length pre) j with
  | false => rfl
  | true =>
    have := csB_mono (rows := rows) (t' := ptk rows.length (pre ++ [x])) (fun i y e => by
      rw [ptk_getD] at e ⊢
      have hl := (List.getElem?_eq_some_iff.mp e).1
      rw [List.getElem?_append_left hl]
      exact e) c
    rw [h4] at this
    cases this
theorem okP_goal {rows : List (List Wy)} : okP rows [[0]] = true := by
  unfold okP
  refine decide_eq_true (fcs_none.mpr fun j h2 _ => ?_)
  unfold csB
  rw [ptk_getD, List.getElem?_eq_none (by show 1 ≤ j; exact h2)]
/-! the rows behind each router -/
/-- the rows in which the routers up to r have an item -/
structure StgI (rows : List (List Wy)) (r : Nat) (L : List (List Wy)) : Prop where
  asc : Asc ltT L
  mem : ∀ pre, pre ∈ L ↔ (pre.length = r + 1 ∧ PreOk rows pre ∧ okP rows pre = true)
  few : L.length ≤ tks (rows.take (r + 1))
def fol (rows : List (List Wy)) (ws : List Wy) (pre : List Wy) : List (List Wy) := (ws.map fun x => pre ++ [x]).filter (okP rows)
theorem lexT_app {a b c d : List Wy} (hl : a.length = b.length) (h : ltT a b = true) : ltT (a ++ c) (b ++ d) = true := by
  induction a generalizing b with
  | nil =>
    cases b with
    | nil => cases h
    | cons _ _ => simp at hl
  | cons x a ih =>
    cases b with
    | nil => simp at hl
    | cons y b =>
      have h' : (if x = y then ltT a b else ltW x y) = true := h
      show (if x = y then ltT (a ++ c) (b ++ d) else ltW x y) = true
      by_cases e : x = y
      · rw [if_pos e] at h' ⊢
        exact ih (by simpa using hl) h'
      · rw [if_neg e] at h' ⊢
        exact h'
theorem lexT_same {a c d : List Wy} : ltT (a ++ c) (a ++ d) = ltT c d := by
  induction a with
  | nil => rfl
  | cons x a ih =>
    show (if x = x then ltT (a ++ c) (a ++ d) else _) = _
    rw [if_pos rfl]
    exact ih
theorem lexT_one {x y : Wy} (h : ltW x y = true) : ltT [x] [y] = true := by
  show (if x = y then ltT [] [] else ltW x y) = true
  rw [if_neg (fun z => by rw [z, sto_W.irr] at h; cases h)]
  exact h
theorem fol_mem {rows : List (List Wy)} {ws pre t : List Wy} : t ∈ fol rows ws pre ↔ ∃ x ∈ ws, t = pre ++ [x] ∧ okP rows t = true := by
  unfold fol
  rw [List.mem_filter, List.mem_map]
  constructor
  · rintro ⟨⟨x, hx, rfl⟩, h⟩
    exact ⟨x, hx, rfl, h⟩
  · rintro ⟨x, hx, rfl, h⟩
    exact ⟨⟨x, hx, rfl⟩, h⟩
theorem fol_asc {rows : List (List Wy)} {ws pre : List Wy} (h : Asc ltW ws) : Asc ltT (fol rows ws pre) := by
  refine List.Pairwise.filter _ (List.pairwise_map.mpr (h.imp fun {x y} q => ?_))
  rw [lexT_same]
  exact lexT_one q
theorem stg_start {rows : List (List Wy)} (hG : GW rows) (h2 : 2 ≤ rows.length) : StgI rows 0 [[[0]]] := by
  refine ⟨List.pairwise_singleton _ _, fun pre => ?_, tks_pos _⟩
  rw [List.mem_singleton]
  constructor
  · rintro rfl
    refine ⟨rfl, ⟨by show 1 ≤ rows.length; omega, fun i x e => ?_⟩, okP_goal⟩
    cases i with
    | zero => simp at e; subst e; simp [chW]
    | succ i => simp at e
  · rintro ⟨h1, hp, _⟩
    cases pre with
    | nil => simp at h1
    | cons x pre =>
      have hn : pre = [] := by simpa using h1
      subst hn
      have := hp.2 0 x rfl
      unfold chW at this
      rw [if_pos rfl] at this
      rw [List.mem_singleton.mp this]
theorem stg_step {rows : List (List Wy)} {r : Nat} {L : List (List Wy)} {ws : List Wy} (hr : r + 1 < rows.length) (S : StgI rows r L) (ha : Asc ltW ws) (hp : ws.Perm (chW rows (r + 1))) : StgI rows (r + 1) (L.flatMap (fol rows ws)) := by
  refine ⟨?_, fun t => ?_, ?_⟩
  · refine List.pairwise_flatMap.mpr ⟨fun pre hpre => fol_asc ha, ?_⟩
    refine (List.Pairwise.and_mem.mp S.asc).imp fun {p q} ⟨hp1, hq1, h⟩ x hx y hy => ?_
    obtain ⟨x', _, rfl, _⟩ := fol_mem.mp hx
    obtain ⟨y', _, rfl, _⟩ := fol_mem.mp hy
    exact lexT_app (by rw [((S.mem p).mp hp1).1, ((S.mem q).mp hq1).1]) h
  · rw [List.mem_flatMap]
    constructor
    · rintro ⟨pre, hpre, ht⟩
      obtain ⟨x, hx, rfl, hok⟩ := fol_mem.mp ht
      obtain ⟨h1, h2, h3⟩ := (S.mem pre).mp hpre
      refine ⟨by rw [List.length_append, h1]; rfl, ⟨by rw [List.length_append, h1]; show r + 1 + 1 ≤ _; omega, fun i y e => ?_⟩, hok⟩
      by_cases c : i < pre.length
      · rw [List.getElem?_append_left c] at e
        exact h2.2 i y e
      · rw [List.getElem?_append_right (by omega)] at e
        have hi : i = r + 1 := by
          have := (List.getElem?_eq_some_iff.mp e).1
          simp at this
          omega
        subst hi
        rw [show r + 1 - pre.length = 0 by omega] at e
        have ey : x = y := by simpa using e
        subst ey
        exact hp.mem_iff.mp hx
    · rintro ⟨h1, h2, h3⟩
      have hne : t ≠ [] := fun z => by rw [z] at h1; simp at h1
      have ht := List.dropLast_concat_getLast hne
      generalize t.dropLast = pre at ht
      generalize t.getLast hne = x at ht
      subst ht
      have hl : pre.length = r + 1 := by simpa using h1
      refine ⟨pre, (S.mem pre).mpr ⟨hl, ⟨by omega, fun i y e => ?_⟩, okP_mono h3⟩, fol_mem.mpr ⟨x, ?_, rfl, h3⟩⟩
      · have hi := (List.getElem?_eq_some_iff.mp e).1
        exact h2.2 i y (by rw [List.getElem?_append_left hi]; exact e)
      · have := h2.2 (r + 1) x (by rw [List.getElem?_append_right (by omega), show r + 1 - pre.length = 0 by omega]; rfl)
        exact hp.mem_iff.mpr this
  · have hrw : rows[r + 1]? = some rows[r + 1] := List.getElem?_eq_getElem hr
    have hcl : ws.length = rows[r + 1].length + 1 := by
      rw [hp.length_eq]
      unfold chW
      rw [if_neg (by omega), List.getD_eq_getElem?_getD, hrw, List.length_append]
      rfl
    rw [tks_take hrw, ← hcl]
    have h1 : ∀ L : List (List Wy), (L.flatMap (fol rows ws)).length ≤ L.length * ws.length := fun L => by
      induction L with
      | nil => simp
      | cons p L ih =>
        rw [List.flatMap_cons, List.length_append, List.length_cons, Nat.add_mul, Nat.one_mul]
        have : (fol rows ws p).length ≤ ws.length := by
          unfold fol
          refine Nat.le_trans (List.length_filter_le _ _) ?_
          rw [List.length_map]
          exact Nat.le_refl _
        omega
    exact Nat.le_trans (h1 L) (Nat.mul_le_mul_right _ S.few)
end Wk


set_option Elab.async false
set_option linter.all false
set_option maxRecDepth 100000
set_option maxHeartbeats 2000000
namespace Wk
open L2 PySem PySem.Spec PyProof.Rows
section
variable {X : Cx}
/-- one entry more by a comprehension, in a dict of either kind of keys -/
theorem put_dp {ps : List (Addr × Obj)} {σ : L2.St} {H Hn : Hp} {s : Shared} {D : Addr} {y z : V} {u r : Value}
    {E : Value → Shared → Prop} {Q : Unit → Shared → Prop} (hu : X.A.units < cLine) (I : Inv X ps σ H s)
    (g : DPut H D y z Hn) (ry : L2.RelV y u) (rz : L2.RelV z r) (h : ∀ s', Inv X ps σ Hn s' → Q () s') :
    wpAny (model X.prog X.w) X.A (dictSet D u r) Q E s := by
  rcases g with ⟨kvs, k, e, rfl, l, rfl⟩ | ⟨kvs, k, b, e, rfl, eb, l, rfl⟩
  · exact d_dictSet I e l ry rz h
  · obtain rfl : u = Value.ref b := ry
    obtain ⟨z1, nd, xs, rel, dd⟩ := dt_of I.hok e
    have l1 := length_putK kvs k z
    refine wpAny_dictSet_heap (hsz := by rw [← Paired.length rel]; exact z1) hu (key_of I.hok eb) dd
      fun h1 d1 sb => h _ ?_
    obtain ⟨q, es, ep, hq, a1, a2, a3, _, a4⟩ := d1
    refine d_write I (by rw [e]; trivial) sb ⟨q, hq⟩ ⟨by omega, nd, _, (rel.put k eb rz).keeps ?_, q, es, ep, hq, a1, a2, a3, a4⟩
    intro c ys ec
    exact (upd_ne (ne_of ec e (by intro z; cases z))).trans ec
end
/-- what one item does: the target, the tests, then key, value and the entry -/
def dqStep (g : TG) (tt : TT) (tk tv : TE) (vs : List Nat) (D : Addr) (Nx : Hp → Prop) (σ : L2.St) (x : V) (H : Hp) : Prop :=
  g x (wipe σ vs) H fun σa Ha => wipe σa vs = wipe σ vs ∧ tt σa Ha fun b Hb =>
    if b = true then tk σa Hb fun y Hc => tv σa Hc fun z Hd => ∃ Hn, DPut Hd D y z Hn ∧ Nx Hn
    else Nx Hb
/-- the walk of such a comprehension by a measure -/
def dqWalk (J : It) (step : (Hp → Prop) → V → Hp → Prop) (Qs : Hp → Prop) (W : Nat → Nat → Hp → Prop) : Prop :=
  ∀ i m H, W i m H → (J.stop i H ∧ Qs H) ∨
    (J.go i H ∧ ∃ Nx : Hp → Prop, (∀ Ha, Nx Ha → ∃ k, k < m ∧ W (i + 1) k Ha) ∧ ∀ x Ha, J.yld i H x Ha → step Nx x Ha)
theorem dq_loop {Y : Cx} {σ : L2.St} {vs : List Nat} {R : Result → Shared → Prop} {J : It} {fp : List Addr} {it D : Addr}
    {tn : Nat → Heap → Prop} {kx vx tg iter : Expr} {ifs : List Expr} {scope : Scope} {pos : Pos} {g : TG} {tt : TT} {tk tv : TE}
    {W : Nat → Nat → Hp → Prop} {Qs : Hp → Prop} (hc : Y.calm = true) (hx : Y.xe = fun _ _ => False) (hu : Y.A.units < cLine)
    (T : Turn Y.prog Y.w Y.K tg J fp it tn) (pg : PG Y tg g) (pt : PTs Y ifs tt) (pk : PE Y kx tk) (pv : PE Y vx tv)
    (own : ∀ {σ' : L2.St} {H' : Hp} {s' : Shared}, Inv Y [] σ' H' s' → (∀ b ∈ fp, H' b = none) → ∀ b ∈ fp, FpOk Y [] H' b)
    (walk : dqWalk J (fun Nx x H => dqStep g tt tk tv vs D Nx σ x H) Qs W)
    (last : ∀ H s, Inv Y [] (wipe σ vs) H s → Qs H → R (.ok .next) s)
    {m : Nat} {H : Hp} {s : Shared} (I : Inv Y [] (wipe σ vs) H s) (st : tn 0 s.heap) (nf : ∀ b ∈ fp, H b = none) (w : W 0 m H) :
    codeAny (model Y.prog Y.w) Y.A
      (.compLoop (.DictComp kx vx [⟨tg, iter, ifs, 0⟩] scope pos) 0 (.ref it) (.ref D) Y.env) R s := by
  refine compLoop_anyD (fun k s1 => ∃ i H1, Inv Y [] (wipe σ vs) H1 s1 ∧ tn i s1.heap ∧ (∀ b ∈ fp, H1 b = none) ∧ W i k H1)
    (fun k s1 hk => ?_) m ⟨0, H, I, st, nf, w⟩
  obtain ⟨i, H1, I1, st1, nf1, w1⟩ := hk
  cases walk i k H1 w1 with
  | inl e =>
    refine thnF (T.done Y rfl rfl rfl hc i [] s1 _ H1 (fun _ _ => False) I1 (own I1 nf1) st1 e.1) ?_
    rintro _ s2 ⟨rfl, I2⟩
    exact last H1 s2 I2 e.2
  | inr e =>
    obtain ⟨go, Nx, less, step⟩ := e
    refine thnF (T.item Y rfl rfl rfl hc i [] s1 _ H1 (fun _ _ => False) I1 (own I1 nf1) st1 go) ?_
    rintro _ s2 ⟨u, rfl, it2⟩
    refine thnF it2 ?_
    rintro _ s3 ⟨x, H3, I3, rx, yx, st3, nf3⟩
    have pin := I3.pinned (own I3 nf3) (T.obj _ _ st3)
    have t1 := pg.run _ s3 _ H3 x u _ pin rx (step x H3 yx)
    rw [hx] at t1
    refine thnF t1 ?_
    rintro _ s4 ⟨σ4, H4, I4, ew, q4⟩
    have back : ∀ {s9 : Shared} {H9 : Hp}, Inv Y ([] ++ pinsAt fp s3.heap) σ4 H9 s9 → Nx H9 →
        ∃ j, j < k ∧ ∃ i' H', Inv Y [] (wipe σ vs) H' s9 ∧ tn i' s9.heap ∧ (∀ b ∈ fp, H' b = none) ∧ W i' j H' := by
      intro s9 H9 I9 nx
      obtain ⟨j, lt, wj⟩ := less H9 nx
      have same : ∀ b ∈ fp, ∀ o, s3.heap.get? b = some o → s9.heap.get? b = some o ∧ H9 b = none := by
        intro b hb o eo
        have a := I9.pin (b, o) (List.mem_append_right _ (List.mem_append_right _ (mem_pinsAt hb eo)))
        exact ⟨a.1, a.2.1⟩
      refine ⟨j, lt, i + 1, H9, ?_, T.keep _ _ _ st3 fun b hb o eo => (same b hb o eo).1, ?_, wj⟩
      · refine (I9.unpinned (pins := [])).weak (by rw [← ew, wipe_length]) ?_
        intro n v en
        rw [← ew] at en
        exact (wipe_some en).1
      · intro b hb
        obtain ⟨o, eo, _⟩ := T.obj _ _ st3 b hb
        exact (same b hb o eo).2
    have t2 := pt.run _ s4 σ4 H4 _ I4 q4
    rw [hx] at t2
    refine thnF t2 ?_
    rintro b s5 ⟨H5, I5, q5⟩
    cases b with
    | false => exact back I5 q5
    | true =>
      have t3 := pk.run _ s5 σ4 H5 _ I5 q5
      rw [hx] at t3
      refine thnF t3 ?_
      rintro ky s6 ⟨y, H6, I6, ry, q6⟩
      have t4 := pv.run _ s6 σ4 H6 _ I6 q6
      rw [hx] at t4
      refine thnF t4 ?_
      rintro vy s7 ⟨z, H7, I7, rz, Hn, put, nx⟩
      exact put_dp hu I7 put ry rz fun s8 I8 => back I8 nx
/-- {k: v for .. in .. if ..}, keys tuples -/
def tDq (wi : TI) (g : TG) (tt : TT) (tk tv : TE) (vs : List Nat) : TE := fun σ H Q => wi σ H fun J H1 => ∀ D, H1 D = none →
  ∃ W : Nat → Nat → Hp → Prop, (∃ m, W 0 m (upd H1 D (.dT []))) ∧
    dqWalk J (fun Nx x Ha => dqStep g tt tk tv vs D Nx σ x Ha) (fun Ha => Q (.ref D) Ha) W
/-- the context of the block -/
abbrev Bq (X : Cx) (scope : Scope) (s : Shared) (H : Hp) (C : Addr) (cl : List (Str × Addr)) (fp : List Addr) : Cx :=
  X.blk s H scope (compEnvC scope cl C X.env) fp
theorem pe_dq {X : Cx} {kx vx tg iter : Expr} {ifs : List Expr} {scope : Scope} {own : List (Str × Nat)} {pos : Pos}
    {wi : TI} {g : TG} {tt : TT} {tk tv : TE} (hc : X.calm = true) (hu : X.A.units + 1 < cLine) (hN : X.N.Nodup)
    (hi : PI X tg iter wi) (ok : BlkOk X.N X.env.scope scope own) (hg : ∀ s H C cl fp, PG (Bq X scope s H C cl fp) tg g)
    (ht : ∀ s H C cl fp, PTs (Bq X scope s H C cl fp) ifs tt) (hk : ∀ s H C cl fp, PE (Bq X scope s H C cl fp) kx tk)
    (he : ∀ s H C cl fp, PE (Bq X scope s H C cl fp) vx tv) (hs : ∀ x, foldedSetIterable iter X.env x = pure x := by intro _; rfl) :
    PE X (.DictComp kx vx [⟨tg, iter, ifs, 0⟩] scope pos) (tDq wi g tt tk tv (own.map (·.2))) := by
  constructor
  intro ps s σ H Q I h
  rw [arm_eval_DictComp]
  have look : ∀ y ∈ scope.names, y.2 = .free → ∃ c, X.env.cells.lookup y.1 = some c := by
    intro y hy e
    exact I.ok.has _ (ok.free y hy e)
  refine wpAny_comprehension_free (use := none) rfl hs (closure_ok look) ok.kind (fun y hy e => (ok.uniq y hy).trans (by rw [e])) ?_
  refine thn (hi.run ps s σ H _ I h) ?_
  intro xv s1 h1
  refine thn h1 ?_
  rintro _ s2 ⟨it, fp, tn, J, H2, rfl, I2, T, st2, f2, q⟩
  refine wpAny_newObj_type ?_
  refine newEnv_comp ?_
  obtain ⟨D, hD⟩ : ∃ D, D = s2.heap.objs.size := ⟨_, rfl⟩
  rw [← hD]
  obtain ⟨W, ⟨m0, w0⟩, walk⟩ := q D (I2.hok.fresh (Nat.le_of_eq hD.symm))
  obtain ⟨s3, e3⟩ : ∃ s3 : Shared, s3 = { s2 with heap := s2.heap.push { cls := .type "dict", data := .dict #[] } } := ⟨_, rfl⟩
  have g3 : ∀ b o, s2.heap.get? b = some o → s3.heap.get? b = some o := by
    intro b o e
    rw [e3]
    exact Heap.get?_push_of_some _ (by exact e)
  have I3 : Inv X ps σ (upd H2 D (.dT [])) s3 := by
    rw [e3, hD]
    exact I2.laid (t' := s2.toks) (fun b o e => Heap.get?_push_of_some _ e) (Nat.le_refl _) (dt_empty s2.heap I2.big)
  rw [← e3]
  obtain ⟨H3, eH3⟩ : ∃ H3, H3 = upd H2 D (.dT []) := ⟨_, rfl⟩
  rw [← eH3] at I3 w0
  have f3 : ∀ b ∈ fp, FpOk X ps H3 b ∧ b < s3.heap.objs.size := by
    intro b hb
    obtain ⟨o, e, _⟩ := T.obj 0 _ st2 b hb
    refine ⟨⟨?_, (f2 b hb).2⟩, Heap.lt_size (g3 b o e)⟩
    rw [eH3, upd_ne (by rw [hD]; exact Nat.ne_of_lt (Heap.lt_size e))]
    exact (f2 b hb).1
  have st3 : tn 0 s3.heap := T.keep _ _ _ st2 fun b _ o e => g3 b o e
  have Ib := block_start I3 ok hN f3
  obtain ⟨C, hC⟩ : ∃ C, C = s3.heap.objs.size := ⟨_, rfl⟩
  rw [← hC] at Ib ⊢
  obtain ⟨cl, ecl⟩ : ∃ cl, cl = cellsFrom (C + 1) scope.names (cloFrom X.env.cells scope.names []) := ⟨_, rfl⟩
  rw [← ecl] at Ib ⊢
  have st4 : tn 0 (pushCells (s3.heap.push { cls := .type "dict", data := .dict #[] }) scope.names) := T.keep _ _ _ st3 fun b _ o e =>
    pushCells_keeps _ _ _ _ (Heap.get?_push_of_some _ e)
  have loop : codeAny (model X.prog X.w) X.A
      (.compLoop (.DictComp kx vx [⟨tg, iter, ifs, 0⟩] scope pos) 0 (.ref it) (.ref D) (compEnvC scope cl C X.env))
      (compPost (model X.prog X.w) X.A X.xe none (EP X ps σ Q) (.ref D) C)
      { s3 with heap := pushCells (s3.heap.push { cls := .type "dict", data := .dict #[] }) scope.names } := by
    refine dq_loop (Y := Bq X scope s3 H3 C cl fp) (σ := σ) hc rfl (Nat.lt_of_succ_lt hu) T (hg s3 H3 C cl fp)
      (ht s3 H3 C cl fp) (hk s3 H3 C cl fp) (he s3 H3 C cl fp) ?_ walk ?_ Ib st4 (fun b hb => (f3 b hb).1.1) w0
    · intro σ' H' s' I' nf b hb
      refine ⟨nf b hb, (I'.ok.exf b hb).1, I'.ok.exfs b hb, .inl hb, fun x c e => (I'.ok.exf b hb).2 x c e, ?_⟩
      intro p hp
      exact absurd (show p ∈ ([] : List (Addr × Obj)) ++ [] from hp) (by simp)
    · intro H6 s6 I6 q6
      have I7 : Inv X ps σ H6 s6 := by
        refine I3.call' (ch := fp) I6.os I6.base I6.hok I6.bare ?_
        intro b hb
        obtain ⟨_, n1, _, n2, n3, n4⟩ := (f3 b hb).1
        exact ⟨n2, n1, n3, n4⟩
      obtain ⟨m, hn, _⟩ := I6.loc
      refine ⟨m, hn, fun h' sb => ?_⟩
      obtain ⟨n0, n1, n2, n3, n4, n5⟩ := I3.fpOk (b := C) (Nat.le_of_eq hC.symm) (show H6 C = none from I6.free)
      refine ⟨.ref D, H6, ?_, rfl, q6⟩
      exact I7.turned (t' := s6.toks) (fun b o hb e => (sb.2 b hb).trans e) n0 n1 n3 n4 n5
  exact codeAny_compStart_dict loop (T.self _ 0 _ _ _ st4 loop)
end Wk

set_option Elab.async false
set_option linter.all false
set_option maxRecDepth 100000
set_option maxHeartbeats 2000000
namespace Wk
open L2 PySem PySem.Spec PyProof.Rows Evl
/-- the items that a comprehension has put, item j of the source by Y j -/
def Grown (Y : Nat → V → Hp → Prop) (H : Hp) : List Nat → List V → Prop
  | [], us => us = []
  | j :: js, us => ∃ u r, us = u :: r ∧ Y j u H ∧ Grown Y H js r
def UpY (Y : Nat → V → Hp → Prop) : Prop := ∀ i u H H', Ex H H' → Y i u H → Y i u H'
theorem Grown.up {Y : Nat → V → Hp → Prop} (hY : UpY Y) {H H' : Hp} (e : Ex H H') : ∀ {js : List Nat} {us : List V}, Grown Y H js us → Grown Y H' js us
  | [], _, h => h
  | j :: js, _, ⟨u, r, h1, h2, h3⟩ => ⟨u, r, h1, hY j u H H' e h2, Grown.up hY e h3⟩
theorem Grown.snoc {Y : Nat → V → Hp → Prop} {H : Hp} {j : Nat} {u : V} (h : Y j u H) : ∀ {js : List Nat} {us : List V}, Grown Y H js us → Grown Y H (js ++ [j]) (us ++ [u])
  | [], _, h0 => by
    rw [show _ = [] from h0]
    exact ⟨u, [], rfl, h, rfl⟩
  | k :: js, _, ⟨v, r, h1, h2, h3⟩ => by
    subst h1
    exact ⟨v, r ++ [u], rfl, h2, Grown.snoc h h3⟩
theorem Grown.len {Y : Nat → V → Hp → Prop} {H : Hp} : ∀ {js : List Nat} {us : List V}, Grown Y H js us → us.length = js.length
  | [], _, h0 => by
    rw [show _ = [] from h0]
    rfl
  | k :: js, _, ⟨v, r, h1, h2, h3⟩ => by
    subst h1
    simp [Grown.len h3]
def upTo (f : Nat → Bool) (i : Nat) : List Nat := (List.range i).filter f
theorem upTo_yes {f : Nat → Bool} {i : Nat} (h : f i = true) : upTo f (i + 1) = upTo f i ++ [i] := by
  unfold upTo
  rw [List.range_succ, List.filter_append]
  simp [h]
theorem upTo_no {f : Nat → Bool} {i : Nat} (h : f i = false) : upTo f (i + 1) = upTo f i := by
  unfold upTo
  rw [List.range_succ, List.filter_append]
  simp [h]
theorem upTo_len (f : Nat → Bool) (i : Nat) : (upTo f i).length ≤ i := by
  unfold upTo
  have h := List.length_filter_le f (List.range i)
  rw [List.length_range] at h
  exact h
/-- what is evaluated is told by Y, the heap may grow -/
def EvY (te : TE) (σ : L2.St) (H : Hp) (Y : V → Hp → Prop) : Prop := ∀ H1, Ex H H1 → ∀ Q : VK, (∀ u H2, Ex H1 H2 → Y u H2 → Q u H2) → te σ H1 Q
def off (D : Addr) (H : Hp) : Hp := fun a => if a = D then none else H a
theorem off_ex {D : Addr} {H H' : Hp} (e : Ex H H') : Ex (off D H) (off D H') := fun a o h => by
  unfold off at h ⊢
  by_cases z : a = D
  · rw [if_pos z] at h
    cases h
  · rw [if_neg z] at h ⊢
    exact e a o h
theorem off_in (D : Addr) (H : Hp) : Ex (off D H) H := fun a o h => by
  unfold off at h
  split at h
  · cases h
  · exact h
theorem off_upd {D : Addr} {H : Hp} {o : HO} : off D (upd H D o) = off D H := by
  funext a
  unfold off upd
  split <;> rfl
theorem off_at {D a : Addr} {H : Hp} (h : a ≠ D) : off D H a = H a := by
  unfold off
  rw [if_neg h]
/-- a word of an item that outlives new objects and does not speak of lists -/
structure GoodY (Y : Nat → V → Hp → Prop) : Prop where
  up : UpY Y
  off : ∀ i u H D l, H D = some (.lst l) → Y i u H → Y i u (Wk.off D H)
def Gw (Y : Nat → V → Hp → Prop) (H : Hp) (f : Nat → Bool) (D : Addr) (i : Nat) (H' : Hp) : Prop :=
  H D = none ∧ Ex H H' ∧ ∃ us, H' D = some (.lst us) ∧ Grown Y (off D H') (upTo f i) us
theorem gw_turn {Y : Nat → V → Hp → Prop} (hY : GoodY Y) {H H' : Hp} {f : Nat → Bool} {D : Addr} {i : Nat} {t : TT} {te : TE} {σ2 : L2.St} (p : Gw Y H f D i H') (hi : i < 50000)
    (ht : EvT t σ2 H' (f i)) (he : f i = true → EvY te σ2 H' (Y i)) :
    t σ2 H' fun b H3 => if b = true then te σ2 H3 fun y H4 => ∃ acc, H4 D = some (.lst acc) ∧ acc.length < sizeLine ∧ Gw Y H f D (i + 1) (upd H4 D (.lst (acc ++ [y])))
      else Gw Y H f D (i + 1) H3 := by
  obtain ⟨p1, p2, us, p3, p4⟩ := p
  refine ht H' (Ex.refl _) _ fun H3 e3 => ?_
  cases hf : f i with
  | false =>
    refine ⟨p1, p2.trans e3, us, e3 _ _ p3, ?_⟩
    rw [upTo_no hf]
    exact p4.up hY.up (off_ex e3)
  | true =>
    refine he hf H3 e3 _ fun u H4 e4 y => ?_
    have d4 := e4 _ _ (e3 _ _ p3)
    have l1 := p4.len
    have l2 := upTo_len f i
    refine ⟨us, d4, sz_lt (by omega), p1, Ex.mut ((p2.trans e3).trans e4) p1, us ++ [u], upd_same, ?_⟩
    rw [upTo_yes hf, off_upd]
    exact Grown.snoc (hY.off i u H4 D us d4 y) (p4.up hY.up (off_ex (e3.trans e4)))
/-- a list comprehension whose items may be new objects -/
theorem grow_lc {J : It} {n : Nat} {Gd : Hp → Prop} {Yx : Nat → V → Prop} {Y : Nat → V → Hp → Prop} {j : Nat} {vs : List Nat} {σ : L2.St} {H : Hp} {D : Addr} {Qd : Hp → Prop} {t : TT} {te : TE}
    (w : Walk J n Gd (fun i H x H' => H' = H ∧ Yx i x)) (hY : GoodY Y) (f : Nat → Bool) (hD : H D = none) (hn : n ≤ 40000) (hG : ∀ H', Ex H H' → Gd H') (hw : ∀ x, wipe ((wipe σ vs).set j (some x)) vs = wipe σ vs)
    (ht : ∀ i x H', Ex H H' → i < n → Yx i x → EvT t ((wipe σ vs).set j (some x)) H' (f i)) (he : ∀ i x H', Ex H H' → i < n → Yx i x → f i = true → EvY te ((wipe σ vs).set j (some x)) H' (Y i))
    (hq : ∀ us H', Ex H H' → H' D = some (.lst us) → Grown Y H' (upTo f n) us → Qd H') :
    ∃ W : Nat → Nat → Hp → Prop, (∃ m, W 0 m (upd H D (.lst []))) ∧ ∀ i m H, W i m H →
      (J.stop i H ∧ Qd H) ∨ (J.go i H ∧ ∃ Nx : Hp → Prop, (∀ H', Nx H' → ∃ m', m' < m ∧ W (i + 1) m' H') ∧ ∀ x H', J.yld i H x H' → gName j x (wipe σ vs) H' fun σ2 H2 => wipe σ2 vs = wipe σ vs ∧ t σ2 H2 fun b H3 =>
        if b = true then te σ2 H3 fun y H4 => ∃ acc, H4 D = some (.lst acc) ∧ acc.length < sizeLine ∧ Nx (upd H4 D (.lst (acc ++ [y]))) else Nx H3) := by
  refine lc_it w (Gw Y H f D) ⟨hD, Ex.new hD, [], upd_same, rfl⟩ (fun i H' _ p => hG H' p.2.1) (fun i x H' H2 hi p y => ?_) (fun H' p => ?_)
  · obtain ⟨rfl, yx⟩ := y
    exact ⟨hw x, gw_turn hY p (by omega) (ht i x _ p.2.1 hi yx) (fun hf => he i x _ p.2.1 hi yx hf)⟩
  · obtain ⟨_, e, us, d, g⟩ := p
    exact hq us H' e d (g.up hY.up (off_in D H'))
/-- the keys of a dict are the first i of k, each with True -/
def KHas (k : Nat → List L2.Key) (i : Nat) (kvs : List (List L2.Key × V)) : Prop :=
  ∀ q, (valV kvs q = some (V.bl true) ∧ ∃ j, j < i ∧ k j = q) ∨ (valV kvs q = none ∧ ∀ j, j < i → k j ≠ q)
/-- the keys that a comprehension has put -/
def Kw (k : Nat → List L2.Key) (H : Hp) (D : Addr) (i : Nat) (H' : Hp) : Prop :=
  H D = none ∧ Ex H H' ∧ ∃ kvs, H' D = some (.dT kvs) ∧ kvs.length ≤ i ∧ KHas k i kvs
/-- {x: True for x in ..}, of tuples of whole numbers or texts -/
theorem grow_dq {J : It} {n : Nat} {Gd : Hp → Prop} {Yx : Nat → V → Prop} {k : Nat → List L2.Key} {j : Nat} {vs : List Nat} {σ : L2.St} {H : Hp} {D : Addr} {Qd : Hp → Prop} {tk tv : TE}
    (w : Walk J n Gd (fun i H x H' => H' = H ∧ Yx i x)) (hD : H D = none) (hn : n ≤ 40000) (hG : ∀ H', Ex H H' → Gd H') (hw : ∀ x, wipe ((wipe σ vs).set j (some x)) vs = wipe σ vs)
    (hk : ∀ i x H', Ex H H' → i < n → Yx i x → EvY tk ((wipe σ vs).set j (some x)) H' (fun u H2 => ∃ b, u = .ref b ∧ H2 b = some (.tup ((k i).map kV))))
    (hv : ∀ i x H', Ex H H' → i < n → Yx i x → Ev tv ((wipe σ vs).set j (some x)) H' (.bl true))
    (hq : ∀ kvs H', Ex H H' → H' D = some (.dT kvs) → KHas k n kvs → Qd H') :
    ∃ W : Nat → Nat → Hp → Prop, (∃ m, W 0 m (upd H D (.dT []))) ∧ dqWalk J (fun Nx x Ha => dqStep (gName j) tYes tk tv vs D Nx σ x Ha) Qd W := by
  refine ⟨fun i m H' => m = n - i ∧ i ≤ n ∧ Kw k H D i H', ⟨n, by simp, Nat.zero_le _, hD, Ex.new hD, [], upd_same, Nat.le_refl _, fun q => .inr ⟨rfl, fun j hj => absurd hj (Nat.not_lt_zero _)⟩⟩, ?_⟩
  rintro i m H1 ⟨rfl, hi, p1, p2, kvs, p3, p4, p5⟩
  by_cases lt : i < n
  · refine .inr ⟨w.goes i H1 lt (hG H1 p2), Kw k H D (i + 1), fun Ha q => ⟨n - (i + 1), by omega, rfl, lt, q⟩, fun x Ha y => ?_⟩
    obtain ⟨rfl, yx⟩ := w.yields i H1 x Ha lt (hG H1 p2) y
    refine ⟨hw x, ?_⟩
    show tk _ _ _
    refine hk i x _ p2 lt yx _ (Ex.refl _) _ fun u H2 e2 hu => ?_
    obtain ⟨b, rfl, hb⟩ := hu
    refine hv i x _ p2 lt yx H2 e2 _ fun H3 e3 => ?_
    have d3 := e3 _ _ (e2 _ _ p3)
    refine ⟨_, DPut.t d3 (e3 _ _ hb) (sz_lt (by omega)), p1, Ex.mut ((p2.trans e2).trans e3) p1, _, upd_same, ?_, fun q => ?_⟩
    · have := length_putK kvs (k i) (V.bl true)
      omega
    · rw [valV_put]
      by_cases e : q = k i
      · rw [if_pos e]
        exact .inl ⟨rfl, i, Nat.lt_succ_self i, e.symm⟩
      · rw [if_neg e]
        rcases p5 q with ⟨z, j', h1, h2⟩ | ⟨z, h2⟩
        · exact .inl ⟨z, j', by omega, h2⟩
        · refine .inr ⟨z, fun j' hj => ?_⟩
          rcases Nat.lt_succ_iff_lt_or_eq.mp hj with h3 | h3
          · exact h2 j' h3
          · subst h3
            exact fun z2 => e z2.symm
  · have e : i = n := by omega
    subst e
    exact .inl ⟨w.stops H1 (hG H1 p2), hq kvs H1 p2 p3 p5⟩
end Wk

set_option Elab.async false
set_option linter.all false
set_option maxRecDepth 100000
set_option maxHeartbeats 4000000
namespace Wk
open PySem PySem.Spec PyProof.Rows L2 Evl
theorem tuple_mul1 (l : Addr) (items : Array Value) (n : Nat) (dd : Option Addr) (sl : Array (Option Value)) (u : Tok) :
    Meets (Builtin.«tuple.__mul__» ⟨[.ref l, .int 1 u], []⟩) (fun _ R s => s.heap.get? l = some { cls := .type "tuple", dict := dd, data := .seq items n, slots := sl } ∧ R (.ok (.ret (Value.ref l))) s) :=
  .of_wp fun prog w A R s h => by
    obtain ⟨hp, g, d, tk, os⟩ := s
    obtain ⟨hl, h⟩ := h
    have f1 := AutoSeq1.idx_int
    wp_walk using wpAny_loadPart' hl
    exact ⟨_, rfl, h⟩
end Wk
namespace L2
open PySem PySem.Spec PyProof.Rows
def rRepU (K : PySem.W.Frag) : R2 := fun x y H Q => ∃ l k xs, x = .ref l ∧ y = .int k ∧ SqT K H l xs ∧ xs ≠ [] ∧ 1 ≤ k ∧ k ≤ 1000 ∧ xs.length ≤ 1000 ∧ (k = 1 → Q (.ref l) H) ∧ (2 ≤ k → ∀ p, H p = none → Q (.ref p) (upd H p (.tup (List.replicate k.toNat xs).flatten)))
theorem op_repU {X : Cx} {K : PySem.W.Frag} (hK : X.K = K) : OpR X (binaryOp .Mult) (rRepU K) := by
  subst hK
  intro pins s σ H x y v u Q I rx ry h
  obtain ⟨l, k, xs, rfl, rfl, hT, hne, h1, h2, hz, q1, q⟩ := h
  by_cases hk : 2 ≤ k
  · exact op_repT pins s σ H (.ref l) (.int k) v u Q I rx ry ⟨l, k, xs, rfl, rfl, hT, hne, hk, h2, hz, q hk⟩
  · have e : k = 1 := by omega
    subst e
    cases rx
    obtain ⟨t, rfl⟩ := ry
    obtain ⟨its, r, ⟨⟨cls, dd, data, sl⟩, ho, hc, n, hd⟩, hs⟩ := I.tuple hT
    simp only at hc hd
    subst hc hd
    exact wpAny_binaryOp_repeat_ref (T := "tuple") (U := "int") (by decide) ⟨_, ho, rfl⟩ (fun s' => typeIs_int s' 1 t) noFill_tuple_mul F.fills_int_mul F.slot_int_rmul repeat_tuple F.slot_int_index.lookup
      (call_meets F.slot_int_rmul (typeIs_int s 1 t) F.entry_int_rmul (F.args_int_rmul_2 _ _) (int_rmul_tuple 1 t l its.toArray n dd sl)
        ⟨ho, rfl, ⟨_, ho, rfl⟩, call_meets F.slot_tuple_mul ⟨_, ho, rfl⟩ F.entry_tuple_mul (F.args_tuple_mul_2 _ _) (Wk.tuple_mul1 l its.toArray n dd sl t) ⟨ho, ⟨.ref l, H, I, rfl, q1 rfl⟩⟩⟩)
end L2
namespace Wk
open PySem PySem.Spec PyProof.Rows L2 Evl
theorem set_cut {xs : List V} {i : Nat} {v : V} (h : i < xs.length) : cutV xs none (some (i : Int)) ++ [v] ++ cutV xs (some ((i : Int) + 1)) none = xs.set i v := by
  rw [cut_to xs i (by omega), show ((i : Int) + 1) = ((i + 1 : Nat) : Int) by omega, cut_from xs (i + 1) (by omega), List.set_eq_take_append_cons_drop, if_pos h, List.append_assoc]
  rfl
theorem ip_mul {X : Cx} : PIp X .Mult (fun x y H Q => ∃ i j, x = .int i ∧ y = .int j ∧ CMul i j ∧ Q (.int (i * j)) H) := by
  intro pins s σ H x y v u Q I r1 r2 h
  obtain ⟨i, j, e1, e2, c, q⟩ := h
  subst e1; subst e2
  obtain ⟨t, rfl⟩ := r1
  obtain ⟨t', rfl⟩ := r2
  exact imul_int ⟨.int _, H, I.tok _, ⟨_, rfl⟩, q⟩ c.ok
section
variable {P : Program} {w : World} {K : PySem.W.Frag} {mg : Str → Option Value} {base : Heap} {f : Addr} {fd : FuncData} {CW CN CT : Addr}
/-! replaced -/
def spRepl : Sp := fun vs H Q _ => ∃ (a : Addr) (i : Nat) (v : V) (xs : List V), vs = [.ref a, .int (i : Int), v] ∧ H a = some (.tup xs) ∧ i < xs.length ∧ xs.length ≤ 1000 ∧ ∀ H' t, Ex H H' → H' t = some (.tup (xs.set i v)) → Q (.ref t) H'
abbrev sRepl : Stmt := top 14
abbrev nRepl : List Str := ["row", "place", "item"]
theorem scRepl : FnScope nRepl nRepl (defScope sRepl) := ⟨rfl, rfl, rfl, by decide +kernel, rfl, by decide +kernel, by decide +kernel⟩
theorem ok_repl (F : FnP K "replaced" sRepl f fd) : FnOk P w K mg base CX0 1 f fd nRepl spRepl := by
  refine F.ok scRepl (fun vs H Q E h => ?_) (fun cdv A outer s H vs Q E hr h => ?_)
  · obtain ⟨a, i, v, xs, rfl, _⟩ := h
    rfl
  · obtain ⟨a, i, v, xs, rfl, ha, hi, hx, k⟩ := h
    refine ⟨_, pss_one (ps_ret (pe_op op_catA (pe_op op_catA (pe_slice sl_tupA (pv 0) po_none (po_some (pv 1))) (pe_tup (pa_cons (pv 2) pa_nil))) (pe_slice sl_tupA (pv 0) (po_some (pe_op op_add (pv 1) pe_int)) po_none))), ?_⟩
    have l1 : (cutV xs none (some (i : Int))).length ≤ 1000 := by rw [cut_to xs i (by omega), List.length_take]; omega
    have l2 : (cutV xs (some ((i : Int) + 1)) none).length ≤ 1000 := by rw [show ((i : Int) + 1) = ((i + 1 : Nat) : Int) by omega, cut_from xs (i + 1) (by omega), List.length_drop]; omega
    have v0 : Ev (tVar 0) (start nRepl [V.ref a, V.int (i : Int), v]) H (.ref a) := ev_var rfl
    have ad : Ev (tOp (rI0 fun i j => .int (i + j)) (tVar 1) (tC (.int 1))) (start nRepl [V.ref a, V.int (i : Int), v]) H (.int ((i : Int) + 1)) := ev_op (ev_var rfl) ev_c rv_I0
    have e1 := es_cat (K := K) (es_cat (K := K) (es_sl (K := K) (lo := none) (hi := some (i : Int)) v0 eo_none (eo_some (te := tVar 1) (ev_var rfl)) ha) (es_tup (xs := [v]) (ea_cons (ta := tVar 2) (ev_var rfl) ea_nil) (by show 1 ≤ 100000; decide)) (by show _ + 1 ≤ _; omega))
      (es_sl (K := K) (lo := some ((i : Int) + 1)) (hi := none) v0 (eo_some ad) eo_none ha) (by rw [List.length_append]; show _ + 1 + _ ≤ _; omega)
    rw [set_cut hi] at e1
    exact e1 H (Ex.refl _) _ fun t H' e h => k H' t e h
/-! refuse_more_takings -/
theorem chW_len {rows : List (List Wy)} (hG : GW rows) {i : Nat} {row : List Wy} (h : rows[i]? = some row) : (chW rows i).length = row.length + 1 := by
  unfold chW
  by_cases c : i = 0
  · subst c
    rw [if_pos rfl, hG.goal row h]
    rfl
  · rw [if_neg c, List.getD_eq_getElem?_getD, h, List.length_append]
    rfl
/-! no_items -/
def spNoI (K : PySem.W.Frag) (CW : Addr) : Sp := fun vs H Q _ => ∃ (wv : V) (rows : List (List Wy)), vs = [wv] ∧ WO CW H wv rows ∧ ∀ H' b xs, Ex H H' → H' b = some (.tup xs) → DpAll K H' xs ((ptk rows.length [[0]]).map od) → Q (.ref b) H'
abbrev sNoI : Stmt := top 18
theorem scNoI : FnScope ["wishes"] ["wishes"] (defScope sNoI) := ⟨rfl, rfl, rfl, by decide +kernel, rfl, by decide +kernel, by decide +kernel⟩
theorem dpa_non {K : PySem.W.Frag} {H : Hp} : ∀ n, DpAll K H (List.replicate n V.non) ((List.replicate n (none : Option Wy)).map od)
  | 0 => .nil
  | n + 1 => .cons .non (dpa_non n)
theorem flat_rep {α : Type} (x : α) : ∀ n, (List.replicate n [x]).flatten = List.replicate n x
  | 0 => rfl
  | n + 1 => by rw [List.replicate_succ, List.flatten_cons, flat_rep x n, List.replicate_succ]; rfl
theorem ok_noI (T : WTx K mg CW) {ag : Addr} (hG : mg "GOAL_WAY" = some (.ref ag)) (hGt : ∀ H, SqT K H ag [.int 0]) (F : FnP K "no_items" sNoI f fd) : FnOk P w K mg base CX0 1 f fd ["wishes"] (spNoI K CW) := by
  refine F.ok scNoI (fun vs H Q E h => ?_) (fun cdv A outer s H vs Q E hr h => ?_)
  · obtain ⟨wv, rows, rfl, _⟩ := h
    rfl
  · obtain ⟨wv, rows, rfl, hw, k⟩ := h
    refine ⟨_, pss_one (ps_ret (pe_op op_catA (pe_tup (pa_cons (pe_glob (v := .ref ag) (by rfl) hG rfl) pa_nil)) (pe_op (op_repU (K := K) rfl) (pe_tup (pa_cons pe_non pa_nil)) (pe_op op_sub (pe_fld (pv 0) rfl) pe_int)))), ?_⟩
    have n8 := hw.n8
    have n2 := hw.n2
    refine ⟨by show 1 ≤ sizeLine; decide, fun t1 ht1 => ⟨by show 1 ≤ sizeLine; decide, fun t2 ht2 => ?_⟩⟩
    have e1 := Ex.new (o := .tup [V.ref ag]) ht1
    have e2 := Ex.new (o := .tup [V.non]) ht2
    have h1 := e2 _ _ (show (upd H t1 (.tup [V.ref ag])) t1 = some (.tup [V.ref ag]) from upd_same)
    have h2 : (upd (upd H t1 (.tup [V.ref ag])) t2 (.tup [V.non])) t2 = some (.tup [V.non]) := upd_same
    have e12 := e1.trans e2
    generalize upd (upd H t1 (.tup [V.ref ag])) t2 (.tup [V.non]) = H2 at *
    have hsz := ev_wsize (K := K) (σ := start ["wishes"] [wv]) (te := tVar 0) T (ev_var rfl) (hw.up e12)
    have hsub := ev_op (r := rI0 fun i j => .int (i - j)) (tb := tC (.int 1)) (y := .int 1) (z := .int ((rows.length : Int) - 1)) hsz ev_c rv_I0
    have fin : ∀ H3 t3 (xs : List V), Ex H2 H3 → H3 t3 = some (.tup xs) → xs = List.replicate (rows.length - 1) V.non → rCatA K (.ref t1) (.ref t3) H3 Q := fun H3 t3 xs e3 h3 hx => by
      refine ⟨t1, t3, _, _, rfl, rfl, st_of (e3 _ _ h1), st_of h3, by rw [hx, List.length_replicate, sizeLine_eq]; show 1 + _ ≤ _; omega, (fun z => by cases z), fun _ z => ?_, fun _ _ b hb => ?_⟩
      · exfalso
        rw [hx] at z
        have := congrArg List.length z
        rw [List.length_replicate] at this
        simp at this
        omega
      · have e4 := Ex.new (o := .tup ([V.ref ag] ++ xs)) hb
        refine k _ b _ (e12.trans (e3.trans e4)) upd_same ?_
        rw [hx]
        show DpAll K _ (V.ref ag :: List.replicate (rows.length - 1) V.non) (od (some [0]) :: (List.replicate (rows.length - 1) (none : Option Wy)).map od)
        exact .cons (dp_of_wd (w := [0]) (hGt _)) (dpa_non _)
    refine hsub H2 (Ex.refl _) _ fun H3 e3 => ?_
    refine ⟨t2, (rows.length : Int) - 1, [V.non], rfl, rfl, st_of (e3 _ _ h2), by simp, by omega, by omega, by simp, fun h => ?_, fun h p hp => ?_⟩
    · exact fin H3 t2 [V.non] e3 (e3 _ _ h2) (by rw [show rows.length - 1 = 1 by omega]; rfl)
    · exact fin _ p _ (e3.trans (Ex.new hp)) upd_same (by rw [flat_rep, show ((rows.length : Int) - 1).toNat = rows.length - 1 by omega])
end
end Wk

set_option Elab.async false
set_option linter.all false
set_option maxRecDepth 100000
set_option maxHeartbeats 4000000
namespace Wk
open PySem PySem.Spec PyProof.Rows L2 Evl
theorem pi_listK {X : Cx} {K : PySem.W.Frag} {tg l : Expr} {tl : TE} (hK : X.K = K) (hl : PE X l tl) : PI X tg l (iList K tl) := by
  subst hK
  exact pi_list hl
theorem q_asgW {te : TE} {tz : TS} {D : Ends} {σ : L2.St} {H : Hp} {i : Nat} (h : te σ H fun x H1 => tz D (σ.set i (some x)) H1) : tSeq (tAsg te (gName i)) tz D σ H := h
theorem q_asgW_last {te : TE} {D : Ends} {σ : L2.St} {H : Hp} {i : Nat} (h : te σ H fun x H1 => D.nx (σ.set i (some x)) H1) : tAsg te (gName i) D σ H := h
theorem asc_ex {ws : List Wy} (nd : ws.Nodup) : ∃ as, Asc ltW as ∧ as.Perm ws := by
  have hperm := List.mergeSort_perm ws (fun p q => !ltW q p)
  have hpw := List.pairwise_mergeSort (le := fun p q : Wy => !ltW q p) (fun a b c h1 h2 => ?_) (fun a b => ?_) ws
  · exact ⟨_, asc_of sto_W (hpw.imp fun {p q} z => by simpa using z) (hperm.nodup_iff.mpr nd), hperm⟩
  · simp only [Bool.not_eq_true'] at h1 h2 ⊢
    cases hc : ltW c a with
    | false => rfl
    | true =>
      by_cases e1 : a = b
      · rw [e1] at hc; rw [h2] at hc; cases hc
      rcases sto_W.tri a b e1 with z | z
      · rw [sto_W.tr _ _ _ hc z] at h2
        cases h2
      · rw [h1] at z
        cases z
  · by_cases e1 : a = b
    · rw [e1, sto_W.irr]
      rfl
    · rcases sto_W.tri a b e1 with z | z
      · rw [sto_W.asym z]
        rfl
      · rw [sto_W.asym z]
        simp
/-! rows of items in the heap -/
def RowAt (K : PySem.W.Frag) (n : Nat) (H : Hp) (u : V) (pre : List Wy) : Prop := ∃ b xs, u = .ref b ∧ H b = some (.tup xs) ∧ DpAll K H xs ((ptk n pre).map od)
theorem RowAt.up {K : PySem.W.Frag} {n : Nat} {H H' : Hp} {u : V} {pre : List Wy} (e : Ex H H') (h : RowAt K n H u pre) : RowAt K n H' u pre := by
  obtain ⟨b, xs, h1, h2, h3⟩ := h
  exact ⟨b, xs, h1, e _ _ h2, DpAll.up e h3⟩
theorem rd_off {D a : Addr} {H : Hp} {o : HO} {l : List V} (hD : H D = some (.lst l)) (h : Rd H a o) (ho : ∀ l, o ≠ .lst l) : Rd (off D H) a o := by
  have n : a ≠ D := fun z => by
    subst z
    rcases h with h | ⟨x, h⟩
    · rw [h] at hD
      injection hD with hD
      exact ho l hD
    · rw [h] at hD
      cases hD
  rcases h with h | ⟨x, h⟩
  · exact .inl (by rw [off_at n]; exact h)
  · exact .inr ⟨x, by rw [off_at n]; exact h⟩
theorem st_off {K : PySem.W.Frag} {D a : Addr} {H : Hp} {l xs : List V} (hD : H D = some (.lst l)) (h : SqT K H a xs) : SqT K (off D H) a xs := h.imp (fun h => rd_off hD h (fun l z => by cases z)) id
theorem dp_off {K : PySem.W.Frag} {D : Addr} {H : Hp} {l : List V} {v : V} {o : Option Wy} (hD : H D = some (.lst l)) (h : Dp K H v (od o)) : Dp K (off D H) v (od o) := by
  cases o with
  | none =>
    have e := dp_od_none h
    subst e
    exact .non
  | some w =>
    obtain ⟨a, rfl, ha⟩ := dp_wd h
    exact dp_of_wd (st_off hD ha)
theorem dpa_off {K : PySem.W.Frag} {D : Addr} {H : Hp} {l : List V} (hD : H D = some (.lst l)) : ∀ {xs : List V} {t : List (Option Wy)}, DpAll K H xs (t.map od) → DpAll K (off D H) xs (t.map od)
  | [], [], _ => .nil
  | [], _ :: _, h => by cases h
  | _ :: _, [], h => by cases h
  | x :: xs, o :: t, h => by
    cases h with
    | cons h1 h2 => exact .cons (dp_off hD h1) (dpa_off hD h2)
theorem RowAt.off {K : PySem.W.Frag} {n : Nat} {D : Addr} {H : Hp} {l : List V} {u : V} {pre : List Wy} (hD : H D = some (.lst l)) (h : RowAt K n H u pre) : RowAt K n (off D H) u pre := by
  obtain ⟨b, xs, h1, h2, h3⟩ := h
  exact ⟨b, xs, h1, by rw [off_at (fun z => by rw [z, hD] at h2; cases h2)]; exact h2, dpa_off hD h3⟩
inductive RwT (K : PySem.W.Frag) (n : Nat) (H : Hp) : List V → List (List Wy) → Prop
  | nil : RwT K n H [] []
  | cons {u : V} {pre : List Wy} {us : List V} {L : List (List Wy)} : RowAt K n H u pre → RwT K n H us L → RwT K n H (u :: us) (pre :: L)
theorem RwT.up {K : PySem.W.Frag} {n : Nat} {H H' : Hp} {us : List V} {L : List (List Wy)} (e : Ex H H') (h : RwT K n H us L) : RwT K n H' us L := by
  induction h with
  | nil => exact .nil
  | cons a b ih => exact .cons (a.up e) ih
theorem RwT.off {K : PySem.W.Frag} {n : Nat} {D : Addr} {H : Hp} {l : List V} {us : List V} {L : List (List Wy)} (hD : H D = some (.lst l)) (h : RwT K n H us L) : RwT K n (off D H) us L := by
  induction h with
  | nil => exact .nil
  | cons a b ih => exact .cons (a.off hD) ih
theorem RwT.len {K : PySem.W.Frag} {n : Nat} {H : Hp} {us : List V} {L : List (List Wy)} (h : RwT K n H us L) : us.length = L.length := by
  induction h with
  | nil => rfl
  | cons a b ih => rw [List.length_cons, List.length_cons, ih]
theorem RwT.app {K : PySem.W.Frag} {n : Nat} {H : Hp} {us vs : List V} {L M : List (List Wy)} (h : RwT K n H us L) (k : RwT K n H vs M) : RwT K n H (us ++ vs) (L ++ M) := by
  induction h with
  | nil => exact k
  | cons a b ih => exact .cons a ih
theorem RwT.at {K : PySem.W.Frag} {n : Nat} {H : Hp} {us : List V} {L : List (List Wy)} (h : RwT K n H us L) : ∀ {i : Nat} {u : V}, us[i]? = some u → ∃ pre, L[i]? = some pre ∧ RowAt K n H u pre := by
  induction h with
  | nil => intro i u e; simp at e
  | cons a b ih =>
    intro i u e
    cases i with
    | zero =>
      simp at e
      subst e
      exact ⟨_, rfl, a⟩
    | succ i =>
      obtain ⟨pre, h1, h2⟩ := ih (by simpa using e)
      exact ⟨pre, by simpa using h1, h2⟩
theorem grown_rw {K : PySem.W.Frag} {n : Nat} {F : Nat → List Wy} {H : Hp} : ∀ {js : List Nat} {us : List V}, Grown (fun i u H => RowAt K n H u (F i)) H js us → RwT K n H us (js.map F)
  | [], us, h => by
    rw [show us = [] from h]
    exact .nil
  | j :: js, us, h => by
    obtain ⟨u, r, rfl, h2, h3⟩ := h
    exact .cons h2 (grown_rw h3)
theorem row_good {K : PySem.W.Frag} {n : Nat} {F : Nat → List Wy} : GoodY (fun i u H => RowAt K n H u (F i)) := ⟨fun i u H H' e h => h.up e, fun i u H D l hD h => h.off hD⟩
theorem upTo_all (n : Nat) : upTo (fun _ => true) n = List.range n := by
  unfold upTo
  exact List.filter_eq_self.mpr fun _ _ => rfl
theorem map_getD {α β : Type} (f : α → β) (d : α) : ∀ l : List α, (List.range l.length).map (fun i => f (l.getD i d)) = l.map f := fun l => by
  apply List.ext_getElem
  · simp
  · intro i h1 h2
    have h3 : i < l.length := by simpa using h1
    simp [List.getD_eq_getElem?_getD, List.getElem?_eq_getElem h3]
theorem filter_getD {α : Type} (p : α → Bool) (d : α) (l : List α) : ((List.range l.length).filter fun i => p (l.getD i d)).map (fun i => l.getD i d) = l.filter p := by
  have h := map_getD id d l
  rw [List.map_id] at h
  conv => rhs; rw [← h]
  rw [List.filter_map]
  rfl
theorem dpa_set {K : PySem.W.Frag} {H : Hp} {v : V} {d : PyData} (hv : Dp K H v d) : ∀ {xs : List V} {ds : List PyData} (i : Nat), DpAll K H xs ds → DpAll K H (xs.set i v) (ds.set i d)
  | [], [], _, _ => .nil
  | [], _ :: _, _, h => by cases h
  | _ :: _, [], _, h => by cases h
  | x :: xs, y :: ds, 0, h => by
    cases h with
    | cons h1 h2 => exact .cons hv h2
  | x :: xs, y :: ds, i + 1, h => by
    cases h with
    | cons h1 h2 => exact .cons h1 (dpa_set hv i h2)
theorem chW_nd {rows : List (List Wy)} (hG : GW rows) {i : Nat} (hi : i < rows.length) : (chW rows i).Nodup := by
  have hrw : rows[i]? = some rows[i] := List.getElem?_eq_getElem hi
  unfold chW
  split
  · simp
  · rw [List.getD_eq_getElem?_getD, hrw]
    refine List.nodup_append.mpr ⟨hG.nd i _ hrw, by simp, fun a ha b hb => ?_⟩
    rw [List.mem_singleton.mp hb]
    intro z
    have := (hG.ok i _ hrw a ha).l2
    rw [z] at this
    simp at this
theorem chW_two {rows : List (List Wy)} (hG : GW rows) {i : Nat} (hi : i < rows.length) (h : 2 ≤ (chW rows i).length) : ∃ w rest, chW rows i = w :: rest ∧ w ≠ [] ∧ [] ∈ rest := by
  have hrw : rows[i]? = some rows[i] := List.getElem?_eq_getElem hi
  unfold chW at h ⊢
  by_cases c : i = 0
  · rw [if_pos c] at h
    simp at h
  · rw [if_neg c, List.getD_eq_getElem?_getD, hrw] at h ⊢
    show ∃ w rest, rows[i] ++ [[]] = w :: rest ∧ _
    have h' : 2 ≤ (rows[i] ++ [[]] : List Wy).length := h
    cases hr : rows[i] with
    | nil => rw [hr] at h'; simp at h'
    | cons w rest =>
      refine ⟨w, rest ++ [[]], rfl, fun z => ?_, by simp⟩
      have := (hG.ok i _ hrw w (by rw [hr]; exact List.mem_cons_self)).l2
      rw [z] at this
      simp at this
section
variable {P : Program} {w : World} {K : PySem.W.Frag} {mg : Str → Option Value} {base : Heap} {f : Addr} {fd : FuncData} {CW CN CT : Addr}
/-! [x for row in rows for x in f(row)] -/
theorem lc2_rows {tl tu te : TE} {i j n : Nat} {vs vs1 : List Nat} {σ : L2.St} {H : Hp} {a : Addr} {us : List V} {L : List (List Wy)} {Fo : List Wy → List (List Wy)} {Q : VK} (h : Ev tl σ H (.ref a)) (ha : H a = some (.lst us)) (hr : RwT K n H us L) (hz : (L.flatMap Fo).length ≤ 40000) (hz2 : ∀ pre ∈ L, (Fo pre).length ≤ 40000)
    (hw : ∀ x, wipe ((wipe σ vs).set i (some x)) vs = wipe σ vs) (hw1 : ∀ x y, wipe ((wipe ((wipe σ vs).set i (some x)) vs1).set j (some y)) vs1 = wipe ((wipe σ vs).set i (some x)) vs1)
    (hu : ∀ (u : V) (pre : List Wy) (H1 : Hp), Ex H H1 → pre ∈ L → RowAt K n H1 u pre → ∀ Q' : VK, (∀ H2 l ys, Ex H1 H2 → H1 l = none → H2 l = some (.lst ys) → RwT K n H2 ys (Fo pre) → Q' (.ref l) H2) → tu ((wipe σ vs).set i (some u)) H1 Q')
    (he : ∀ x y H1, Ev te ((wipe ((wipe σ vs).set i (some x)) vs1).set j (some y)) H1 y)
    (k : ∀ D H1 ys, H D = none → Ex H H1 → H1 D = some (.lst ys) → RwT K n H1 ys (L.flatMap Fo) → Q (.ref D) H1) :
    tLc2 (iList K tl) (gName i) tYes (iList K tu) (gName j) tYes te vs vs1 σ H Q := h H (Ex.refl _) _ fun H1 e1 => by
  have hul := hr.len
  refine ⟨a, rfl, ⟨us, sq_of (e1 _ _ ha)⟩, fun D hD => ?_⟩
  refine ⟨fun m z Hx => z = us.length - m ∧ m ≤ us.length ∧ Ex H1 Hx ∧ ∃ acc, Hx D = some (.lst acc) ∧ RwT K n (off D Hx) acc ((L.take m).flatMap Fo), ⟨us.length, by simp, Nat.zero_le _, Ex.new hD, [], upd_same, .nil⟩, ?_⟩
  rintro m z H2 ⟨rfl, hm, e2, acc, hD2, hacc⟩
  have s2 : SqL K H2 a us := sq_of (e2 _ _ (e1 _ _ ha))
  by_cases lt : m < us.length
  · refine .inr ⟨walk_list.goes m H2 lt s2, fun Hx => Ex H1 Hx ∧ ∃ acc, Hx D = some (.lst acc) ∧ RwT K n (off D Hx) acc ((L.take (m + 1)).flatMap Fo), fun Hx p => ⟨us.length - (m + 1), by omega, rfl, lt, p⟩, fun x H3 hy => ?_⟩
    obtain ⟨rfl, hx⟩ := walk_list.yields m H2 x H3 lt s2 hy
    obtain ⟨pre, hp1, hp2⟩ := hr.at hx
    have hpm := List.mem_of_getElem? hp1
    have hft : (L.take (m + 1)).flatMap Fo = (L.take m).flatMap Fo ++ Fo pre := by
      rw [take_snoc hp1, List.flatMap_append]
      simp
    rw [hft]
    have hlen : ((L.take m).flatMap Fo).length + (Fo pre).length ≤ 40000 := by
      have h1 : ((L.take (m + 1)).flatMap Fo).length ≤ (L.flatMap Fo).length := by
        conv => rhs; rw [← List.take_append_drop (m + 1) L, List.flatMap_append, List.length_append]
        omega
      rw [hft, List.length_append] at h1
      omega
    generalize (L.take m).flatMap Fo = A at *
    refine ⟨hw _, et_yes H3 (Ex.refl _) _ fun H4 e4 => ?_⟩
    rw [if_pos rfl]
    refine hu x pre H4 ((e1.trans e2).trans e4) hpm (hp2.up ((e1.trans e2).trans e4)) _ fun H5 l ys e5 nl hl hys => ?_
    have e45 := e4.trans e5
    have hD5 := e45 _ _ hD2
    have nlD : l ≠ D := fun z => by rw [z, e4 _ _ hD2] at nl; cases nl
    have hyl := hys.len
    refine ⟨l, rfl, ⟨ys, sq_of hl⟩, fun q z' Hx => z' = ys.length - q ∧ q ≤ ys.length ∧ Ex H1 Hx ∧ Hx l = some (.lst ys) ∧ RwT K n (off D Hx) ys (Fo pre) ∧ ∃ acc, Hx D = some (.lst acc) ∧ RwT K n (off D Hx) acc (A ++ (Fo pre).take q), ⟨ys.length, by simp, Nat.zero_le _, e2.trans e45, hl, hys.off hD5, acc, hD5, by simpa using hacc.up (off_ex e45)⟩, ?_⟩
    rintro q z' H6 ⟨rfl, hq, e6, hl6, hys6, acc6, hD6, hacc6⟩
    by_cases ltq : q < ys.length
    · refine .inr ⟨walk_list.goes q H6 ltq (sq_of hl6), fun Hx => Ex H1 Hx ∧ Hx l = some (.lst ys) ∧ RwT K n (off D Hx) ys (Fo pre) ∧ ∃ acc, Hx D = some (.lst acc) ∧ RwT K n (off D Hx) acc (A ++ (Fo pre).take (q + 1)), fun Hx p => ⟨ys.length - (q + 1), by omega, rfl, ltq, p⟩, fun y H7 hyy => ?_⟩
      obtain ⟨rfl, hyk⟩ := walk_list.yields q H6 y H7 ltq (sq_of hl6) hyy
      obtain ⟨py, hy1, hy2⟩ := hys6.at hyk
      refine ⟨hw1 _ _, et_yes H7 (Ex.refl _) _ fun H8 e8 => ?_⟩
      rw [if_pos rfl]
      refine he x y H8 H8 (Ex.refl _) _ fun H9 e9 => ?_
      have e89 := e8.trans e9
      have hl2 := hacc6.len
      rw [List.length_append, List.length_take] at hl2
      refine ⟨acc6, e89 _ _ hD6, sz_lt (by omega), ?_⟩
      refine ⟨Ex.mut (e6.trans e89) hD, by rw [upd_ne nlD]; exact e89 _ _ hl6, ?_, acc6 ++ [y], upd_same, ?_⟩
      · rw [off_upd]
        exact hys6.up (off_ex e89)
      · rw [off_upd, take_snoc hy1, ← List.append_assoc]
        exact (hacc6.up (off_ex e89)).app (.cons (hy2.up (off_ex e89)) .nil)
    · have eq : q = ys.length := by omega
      subst eq
      refine .inl ⟨walk_list.stops H6 (sq_of hl6), e6, acc6, hD6, ?_⟩
      rw [List.take_of_length_le (by omega)] at hacc6
      exact hacc6
  · have em : m = us.length := by omega
    subst em
    rw [List.take_of_length_le (by omega)] at hacc
    exact .inl ⟨walk_list.stops H2 s2, k D H2 acc (fresh_back e1 hD) (e1.trans e2) hD2 (hacc.up (off_in D H2))⟩
end
end Wk

set_option Elab.async false
set_option linter.all false
set_option maxRecDepth 100000
set_option maxHeartbeats 4000000
namespace Wk
open PySem PySem.Spec PyProof.Rows L2 Evl
/-! what stays when only lists change -/
def Kp (H H' : Hp) : Prop := ∀ a o, H a = some o → (∀ l, o ≠ .lst l) → (∀ u l, o ≠ .frz u (.lst l)) → H' a = some o
theorem Kp.refl (H : Hp) : Kp H H := fun _ _ h _ _ => h
theorem Kp.ex {H H' : Hp} (e : Ex H H') : Kp H H' := fun a o h _ _ => e a o h
theorem Kp.trans {H H1 H2 : Hp} (a : Kp H H1) (b : Kp H1 H2) : Kp H H2 := fun x o h k1 k2 => b x o (a x o h k1 k2) k1 k2
theorem Kp.mut {H : Hp} {D : Addr} {l l' : List V} (h : H D = some (.lst l)) : Kp H (upd H D (.lst l')) := fun a o ha k1 k2 => by
  rw [upd_ne (fun z => by rw [z, h] at ha; injection ha with ha; exact k1 _ ha.symm)]
  exact ha
theorem Kp.off {p q : Addr} {H H' : Hp} {l m : List V} (hp : H p = some (.lst l)) (hq : H q = some (.lst m)) (h : Off p q H H') : Kp H H' := fun a o ha k1 k2 => h a o (fun z => by rw [z, hp] at ha; injection ha with ha; exact k1 _ ha.symm) (fun z => by rw [z, hq] at ha; injection ha with ha; exact k1 _ ha.symm) ha
theorem Kp.hd {G H : Hp} {p q : Addr} (h : Pl G H p q) : Kp H (Hd H p q) := fun a o ha k1 k2 => by
  obtain ⟨n, cs, h1, h2, _⟩ := h.at_
  unfold Hd
  rw [if_neg]
  · exact ha
  · rintro (z | z)
    · rw [z, h1] at ha; injection ha with ha; exact k1 _ ha.symm
    · rw [z, h2] at ha; injection ha with ha; exact k1 _ ha.symm
/-- a draw changes but the pool -/
theorem Kp.draw {G H H' : Hp} {p q : Addr} (h : Pl G H p q) (h' : Pl (Hd H p q) H' p q) : Kp H H' := (Kp.hd h).trans (.ex h'.ex)
theorem Kp.tup {H H' : Hp} {a : Addr} {xs : List V} (k : Kp H H') (h : H a = some (.tup xs)) : H' a = some (.tup xs) := k a _ h (fun l z => by cases z) (fun u l z => by cases z)
theorem Kp.st {K : PySem.W.Frag} {H H' : Hp} {a : Addr} {xs : List V} (k : Kp H H') (h : SqT K H a xs) : SqT K H' a xs := h.imp (fun h => h.imp (fun h => k.tup h) fun ⟨u, h⟩ => ⟨u, k a _ h (fun l z => by cases z) (fun u l z => by cases z)⟩) id
theorem Kp.odK {K : PySem.W.Frag} {H H' : Hp} {v : V} {o : Option Wy} (k : Kp H H') (h : Dp K H v (od o)) : Dp K H' v (od o) := by
  cases o with
  | none =>
    have e := dp_od_none h
    subst e
    exact .non
  | some w =>
    obtain ⟨a, rfl, ha⟩ := dp_wd h
    exact dp_of_wd (k.st ha)
theorem Kp.odsK {K : PySem.W.Frag} {H H' : Hp} (k : Kp H H') : ∀ {xs : List V} {t : List (Option Wy)}, DpAll K H xs (t.map od) → DpAll K H' xs (t.map od)
  | [], [], _ => .nil
  | [], _ :: _, h => by cases h
  | _ :: _, [], h => by cases h
  | x :: xs, o :: t, h => by
    cases h with
    | cons h1 h2 => exact .cons (k.odK h1) (k.odsK h2)
theorem Kp.row {K : PySem.W.Frag} {n : Nat} {H H' : Hp} {u : V} {pre : List Wy} (k : Kp H H') (h : RowAt K n H u pre) : RowAt K n H' u pre := by
  obtain ⟨b, xs, h1, h2, h3⟩ := h
  exact ⟨b, xs, h1, k.tup h2, k.odsK h3⟩
theorem Kp.rows {K : PySem.W.Frag} {n : Nat} {H H' : Hp} {us : List V} {L : List (List Wy)} (k : Kp H H') (h : RwT K n H us L) : RwT K n H' us L := by
  induction h with
  | nil => exact .nil
  | cons a b ih => exact .cons (k.row a) ih
theorem Kp.ints {H H' : Hp} (k : Kp H H') {v : V} {w : Wy} (h : Dq H v (wd w)) : Dq H' v (wd w) := by
  obtain ⟨a, rfl, ha⟩ := wd_ref h
  exact wd_of (k.tup ha)
theorem Kp.wds {H H' : Hp} (k : Kp H H') : ∀ {ws : List Wy} {vs : List V}, DqA H vs (ws.map wd) → DqA H' vs (ws.map wd)
  | [], _, .nil => .nil
  | _ :: _, _, .cons a b => .cons (k.ints a) (k.wds b)
theorem Kp.rdK {H H' : Hp} (k : Kp H H') {v : V} {row : List Wy} (h : Dq H v (rd row)) : Dq H' v (rd row) := by
  unfold rd at h ⊢
  cases h with
  | tup a b => exact .tup (k.tup a) (k.wds b)
theorem Kp.rdsK {H H' : Hp} (k : Kp H H') : ∀ {rows : List (List Wy)} {vs : List V}, DqA H vs (rows.map rd) → DqA H' vs (rows.map rd)
  | [], _, .nil => .nil
  | _ :: _, _, .cons a b => .cons (k.rdK a) (k.rdsK b)
theorem Kp.pdK {H H' : Hp} (k : Kp H H') {v : V} {rows : List (List Wy)} (h : Dq H v (pd rows)) : Dq H' v (pd rows) := by
  unfold pd at h ⊢
  cases h with
  | tup a b => exact .tup (k.tup a) (k.rdsK b)
theorem WO.kp {CW : Addr} {H H' : Hp} {v : V} {rows : List (List Wy)} (h : WO CW H v rows) (k : Kp H H') : WO CW H' v rows := by
  obtain ⟨w, dx, lv, h1, h2, h3⟩ := h.ex
  exact ⟨⟨w, dx, lv, h1, k _ _ h2 (fun l z => by cases z) (fun u l z => by cases z), k.pdK h3⟩, h.g, h.n2, h.n8, h.r6⟩
/-! types of data -/
theorem Dp.tyX {K : PySem.W.Frag} {H : Hp} {v : V} {d : PyData} (h : Dp K H v d) : TyX K H v (.type (tyN d)) := by
  cases h with
  | non => exact .base .non
  | bl b => exact .base (.bl b)
  | int i => exact .base (.int i)
  | str x => exact .base (.str x)
  | lst s _ =>
    rcases s with (s | ⟨o, s⟩) | ⟨o, its, n, e, c, _⟩
    · exact .base (.lst s)
    · exact .base (.frz s)
    · exact .kList e c
  | tup s _ =>
    rcases s with (s | ⟨o, s⟩) | ⟨o, its, n, e, c, _⟩
    · exact .base (.tup s)
    · exact .fTuple s
    · exact .kTuple e c
section
variable {K : PySem.W.Frag} {σ : L2.St} {H : Hp} {ta : TE}
theorem ep_isi {v : V} {d : PyData} {n : String} {b : Bool} (h : Ev ta σ H v) (hd : Dp K H v d) (hk : kitB (tyN d) n = some b) : Ev (tCB (rIsi K) (tCons ta (tCons (tC (.ty n)) tNil))) σ H (.bl b) := fun H1 e Q q =>
  h H1 e _ fun H2 e2 => ⟨v, .ty n, .type (tyN d), .type n, b, rfl, .ty n, Dp.tyX (Dp.up (e.trans e2) hd), kit_ty hk, q H2 e2⟩
theorem ep_isi2 {v : V} {d : PyData} {n m : String} {b c : Bool} (h : Ev ta σ H v) (hd : Dp K H v d) (h1 : kitB (tyN d) n = some b) (h2 : kitB (tyN d) m = some c) :
    Ev (tCB (rIsiT K) (tCons ta (tCons (tTup (tCons (tC (.ty n)) (tCons (tC (.ty m)) tNil))) tNil))) σ H (.bl (b || c)) := fun H1 e Q q =>
  h H1 e _ fun H2 e2 => ⟨by show 2 ≤ sizeLine; decide, fun p hp => ⟨v, p, [.ty n, .ty m], .type (tyN d), [.type n, .type m], b || c, rfl, upd_same, .cons (.ty n) (.cons (.ty m) .nil), Dp.tyX (Dp.up ((e.trans e2).trans (Ex.new hp)) hd),
    kitAny_cons (kit_ty h1) (fun hb => kitAny_cons (kit_ty h2) (fun hc => by rw [hb, hc]; exact kitAny_nil) (fun hc => by rw [hc]; simp)) (fun hb => by rw [hb]; rfl), q _ (e2.trans (Ex.new hp))⟩⟩
theorem ev_lenS {b : Addr} {xs : List V} (hi : Ev ta σ H (.ref b)) (hb : ∀ {H1}, Ex H H1 → SqL K H1 b xs ∨ SqT K H1 b xs) : Ev (tCB (rLenS K) (tCons ta tNil)) σ H (.int (xs.length : Int)) := fun H1 e Q q =>
  hi H1 e _ fun H2 e2 => ⟨b, xs, rfl, hb (e.trans e2), q H2 e2⟩
end
theorem sq_up {K : PySem.W.Frag} {H H' : Hp} {a : Addr} {xs : List V} (e : Ex H H') (h : SqL K H a xs ∨ SqT K H a xs) : SqL K H' a xs ∨ SqT K H' a xs := by
  rcases h with h | h
  · exact .inl (h.imp (fun h => h.imp (fun h => e _ _ h) fun ⟨u, h⟩ => ⟨u, e _ _ h⟩) id)
  · exact .inr (h.imp (fun h => h.imp (fun h => e _ _ h) fun ⟨u, h⟩ => ⟨u, e _ _ h⟩) id)
theorem k_ll : kitB "list" "list" = some true := by decide +kernel
theorem k_lt : kitB "list" "tuple" = some false := by decide +kernel
end Wk

set_option Elab.async false
set_option linter.all false
set_option maxRecDepth 100000
set_option maxHeartbeats 4000000
namespace Wk
open PySem PySem.Spec PyProof.Rows L2 Evl SeqAt
theorem idxOf_first : ∀ {bs : List Bool} {j : Nat}, bs[j]? = some true → (∀ m, m < j → bs[m]? = some false) → bs.idxOf true = j
  | [], j, h, _ => by simp at h
  | b :: bs, 0, h, _ => by
    have e : b = true := by simpa using h
    subst e
    simp
  | b :: bs, j + 1, h, hn => by
    have e : b = false := by simpa using hn 0 (by omega)
    subst e
    rw [List.idxOf_cons]
    have ih := idxOf_first (bs := bs) (j := j) (by simpa using h) fun m hm => by simpa using hn (m + 1) (by omega)
    rw [ih]
    rfl
/-- t.index(None), t a tuple of data that has a None -/
def rIdxNone (K : PySem.W.Frag) : V → List V → Hp → VK → Prop := fun x xs H Q => ∃ (t : Addr) (ds : List PyData) (j : Nat), x = .ref t ∧ xs = [.non] ∧ Dp K H (.ref t) (.tuple ds) ∧ PyData.canLayAll0 ds = true ∧ (ds.map fun d => PyData.eqv d .none)[j]? = some true ∧
  (∀ m, m < j → (ds.map fun d => PyData.eqv d .none)[m]? = some false) ∧ Q (.int (j : Nat)) H
theorem mt_idxNone {X : Cx} {K : PySem.W.Frag} (hK : X.K = K) (hu : X.A.units + 65 < cLine) : MtR X "tuple.index" (rIdxNone K) := by
  subst hK
  intro pins s σ H x xs v us Q I rx rxs h
  obtain ⟨t, ds, j, rfl, rfl, hd, hc, h1, h2, q⟩ := h
  obtain rfl : v = Value.ref t := rx
  obtain ⟨u, rfl, hu'⟩ := vals1 rxs
  obtain rfl : u = Value.none := hu'
  cases hd with
  | tup hs ha =>
    obtain ⟨its, rv, hp, hz⟩ := I.tuple hs
    obtain ⟨as, hr⟩ := Dp.readsAll I ds _ its ha rv
    have hlen : its.length = ds.length := SeqAt.ReadsAll.length ds its as hr
    have hmap : its.map (SeqAt.readOf s.heap) = ds := SeqAt.readsAll_map ds its as hc hr
    have heq := SeqAt.items_eqAt (A := X.A) (vs := its.toArray) (x := Value.none) (d := .none) (show ReadsAll s.heap its.toArray.toList ds as from hr) Reads.none hc rfl (by have : (PyData.none).depth = 0 := rfl; rw [this, Nat.min_zero]; omega)
    have hie : ItemsEq X.A.in1 s its (ds.map fun d => PyData.eqv d .none) .none true := by
      refine ⟨by rw [List.length_map]; exact hlen, fun i hi1 hi2 => ?_⟩
      have g := heq its[i] (by simp)
      have e1 : SeqAt.readOf s.heap its[i] = ds[i]'(by omega) := by
        have z : (its.map (SeqAt.readOf s.heap))[i]? = ds[i]? := by rw [hmap]
        rw [List.getElem?_map, List.getElem?_eq_getElem hi1, List.getElem?_eq_getElem (show i < ds.length by omega)] at z
        exact Option.some.inj z
      rw [e1] at g
      rw [List.getElem_map]
      have e2 : decide (PyData.eqv (ds[i]'(by omega)) .none = true) = PyData.eqv (ds[i]'(by omega)) .none := by simp
      rw [e2]
      exact g
    refine call_tuple_index (show s.heap.IsTuple t its.toArray from hp) hie (List.mem_of_getElem? h1) ?_
    rw [idxOf_first h1 h2]
    exact ⟨.int (j : Nat), H, I.tok _, ⟨_, rfl⟩, q⟩
/-! zip(list, tuple) -/
def ItzM (K : PySem.W.Frag) (a b : Addr) : It where
  go := fun i H => ∃ xs ys x y, SqL K H a xs ∧ SqT K H b ys ∧ xs[i]? = some x ∧ ys[i]? = some y ∧ xs.length = ys.length
  yld := fun i H v H' => ∃ T x y, v = V.ref T ∧ H T = none ∧ H' = upd H T (.tup [x, y]) ∧ (∀ l, SqL K H a l → l[i]? = some x) ∧ (∀ l, SqT K H b l → l[i]? = some y)
  stop := fun i H => ∃ xs ys, SqL K H a xs ∧ SqT K H b ys ∧ xs.length = i ∧ ys.length = i
theorem sep_new {n a b : Nat} (ha : a < n) (hb : b < n) : ZipSep2 (n + 4) (n + 2) (n + 3) n (n + 1) [n, a] [n + 1, b] := by
  constructor <;> simp only [List.mem_cons, List.not_mem_nil, or_false, ne_eq, not_or, true_or] <;> first | exact trivial | (show ¬ @Eq Nat _ _; omega) | (constructor <;> (show ¬ @Eq Nat _ _; omega))
/-- where such an iterator stands -/
def stM (z TI TO i1 i2 a b : Addr) (i : Nat) (h : Heap) : Prop := IsZip h z TI TO .none ∧ IsTupOf2 h TI (.ref i1) (.ref i2) ∧ (∃ u v, IsTupOf2 h TO u v) ∧ h.IsListIter i1 a i ∧ h.IsTupleIter i2 b i
theorem stM.keep {z TI TO i1 i2 a b : Addr} {i : Nat} {h h' : Heap} (st : stM z TI TO i1 i2 a b i h) (k : ∀ c o, c ∈ [z, TI, TO, i1, i2] → h.get? c = some o → h'.get? c = some o) : stM z TI TO i1 i2 a b i h' := by
  obtain ⟨s1, s2, ⟨u, v, s3⟩, s4, s5⟩ := st
  exact ⟨k _ _ (by simp) s1, k _ _ (by simp) s2, ⟨u, v, k _ _ (by simp) s3⟩, s4.at fun o q => k _ o (by simp) q, s5.at fun o q => k _ o (by simp) q⟩
theorem turnM {P : Program} {w : World} {K : PySem.W.Frag} {es : List Expr} {n : Nat} {ps : Pos} {a b z TI TO i1 i2 : Addr} (S : ZipSep2 z TI TO i1 i2 [i1, a] [i2, b]) :
    Turn P w K (.Tuple es n ps) (ItzM K a b) [z, TI, TO, i1, i2] z (stM z TI TO i1 i2 a b) := by
  refine ⟨by simp, ?_, fun i h h' st k => st.keep fun c o hc q => k c hc o q, ?_, ?_, fun A i s Q E st q => wpAny_pyIter_zip st.1 q⟩
  · intro i h st c hc
    obtain ⟨s1, s2, ⟨u, v, s3⟩, ⟨o1, q1, _, d1⟩, ⟨o2, q2, _, d2⟩⟩ := st
    simp only [List.mem_cons, List.not_mem_nil, or_false] at hc
    rcases hc with rfl | rfl | rfl | rfl | rfl
    · exact ⟨_, s1, fun v q => by cases q⟩
    · exact ⟨_, s2, fun v q => by cases q⟩
    · exact ⟨_, s3, fun v q => by cases q⟩
    · exact ⟨o1, q1, fun v q => by rw [d1] at q; cases q⟩
    · exact ⟨o2, q2, fun v q => by rw [d2] at q; cases q⟩
  · intro X eP ew eK calm i pins s σ H E I hf st hg
    subst eP ew eK
    obtain ⟨xs, ys, x, y, hxs, hys, hx, hy, hl⟩ := hg
    obtain ⟨l1, r1, g1, _⟩ := I.list hxs
    obtain ⟨l2, r2, g2, _⟩ := I.tuple hys
    obtain ⟨u1, hu1, ru1⟩ := r1.get hx
    obtain ⟨u2, hu2, ru2⟩ := r2.get hy
    obtain ⟨s1, s2, ⟨u, v, s3⟩, s4, s5⟩ := st
    have hh : X.A.in1.handled = none := I.ok.hd calm
    have nai : a ≠ i1 := fun e => by
      obtain ⟨o, q, c, _⟩ := s4
      obtain ⟨o', q', c', _⟩ := g1.isList
      rw [← e, q'] at q
      injection q with q
      rw [← q, c'] at c
      simp at c
    have nbi : b ≠ i2 := fun e => by
      obtain ⟨o, q, c, _⟩ := s5
      obtain ⟨o', q', c', _⟩ := (show s.heap.IsTuple b l2.toArray from g2)
      rw [← e, q'] at q
      injection q with q
      rw [← q, c'] at c
      simp at c
    have D1 := Draws.list (prog := X.prog) (w := X.w) (A := X.A.in1) hh i1 a nai l1.toArray
    have D2 := Draws.tuple (prog := X.prog) (w := X.w) (A := X.A.in1) hh i2 b nbi l2.toArray
    have k1 : i < l1.toArray.size := by
      have := (List.getElem?_eq_some_iff.mp hu1).1
      simpa using this
    have k2 : i < l2.toArray.size := by
      have := (List.getElem?_eq_some_iff.mp hu2).1
      simpa using this
    have hzs : z < s.heap.objs.size := Heap.lt_size s1
    refine wpAny_pyNext_zipD2_item S D1 D2 s1 s2 s3 ⟨s4, g1.isList⟩ ⟨s5, g2⟩ k1 k2 fun v1 v2 h1 tk e1 e2 t1 t2 t3 t4 t5 hsz hk => ?_
    have ev1 : v1 = u1 := by
      have z : l1[i]? = some v1 := by simpa using e1
      rw [hu1] at z
      exact (Option.some.inj z).symm
    have ev2 : v2 = u2 := by
      have z : l2[i]? = some v2 := by simpa using e2
      rw [hu2] at z
      exact (Option.some.inj z).symm
    subst ev1 ev2
    refine ⟨_, rfl, wpAny_letOwnedTupleGo_zip (s := { s with heap := h1, toks := tk }) t1 fun h2 t6 sb => ?_⟩
    have up : ∀ c o, c ≠ z → h1.get? c = some o → h2.get? c = some o := fun c o nc q => (sb.2 c nc).trans q
    have hT := up _ _ (Nat.ne_of_gt hzs) t5
    have kk : ∀ c o, c ∉ [z, TI, TO, i1, i2] → s.heap.get? c = some o → h2.get? c = some o := fun c o nc q => by
      simp only [List.mem_cons, List.not_mem_nil, or_false, not_or] at nc
      exact up c o nc.1 (hk c o nc.1 nc.2.2.1 nc.2.2.2.1 nc.2.2.2.2 q)
    refine ⟨.ref s.heap.objs.size, _, I.turnedNew (t' := tk) (ob := .tup [x, y]) kk hf (Nat.le_refl _) ⟨by show 2 ≤ sizeLine; decide, [v1, v2], .cons ru1 (.cons ru2 .nil), _, hT, rfl, _, rfl⟩, rfl, ⟨_, x, y, rfl, I.hok.fresh (Nat.le_refl _), rfl, fun l q => ?_, fun l q => ?_⟩, ?_, fun c hc => ?_⟩
    · rw [I.list_inj q hxs]; exact hx
    · rw [I.tuple_inj q hys]; exact hy
    · have q1 : i1 ≠ z := fun e => S.zi1 e.symm
      have q2 : i2 ≠ z := fun e => S.zi2 e.symm
      have nTI : TI ≠ i2 := S.TIi2
      exact ⟨t6, up _ _ S.TIz (hk _ _ S.TIz S.TITO S.TIi1 nTI s2), ⟨_, _, up _ _ S.TOz t2⟩, t3.1.at fun o q => up _ o q1 q, t4.1.at fun o q => up _ o q2 q⟩
    · rw [upd_ne fun e => ?_]
      · exact (hf c hc).1
      · have hlt : c < s.heap.objs.size := by
          simp only [List.mem_cons, List.not_mem_nil, or_false] at hc
          rcases hc with rfl | rfl | rfl | rfl | rfl
          · exact hzs
          · exact Heap.lt_size s2
          · exact Heap.lt_size s3
          · obtain ⟨_, q, _⟩ := s4; exact Heap.lt_size q
          · obtain ⟨_, q, _⟩ := s5; exact Heap.lt_size q
        rw [e] at hlt
        exact Nat.lt_irrefl _ hlt
  · intro X eP ew eK calm i pins s σ H E I hf st hg
    subst eP ew eK
    obtain ⟨xs, ys, hxs, hys, e1, e2⟩ := hg
    obtain ⟨l1, r1, g1, _⟩ := I.list hxs
    obtain ⟨l2, r2, g2, _⟩ := I.tuple hys
    obtain ⟨s1, s2, ⟨u, v, s3⟩, s4, s5⟩ := st
    have hh : X.A.in1.handled = none := I.ok.hd calm
    have nai : a ≠ i1 := fun e => by
      obtain ⟨o, q, c, _⟩ := s4
      obtain ⟨o', q', c', _⟩ := g1.isList
      rw [← e, q'] at q
      injection q with q
      rw [← q, c'] at c
      simp at c
    have nbi : b ≠ i2 := fun e => by
      obtain ⟨o, q, c, _⟩ := s5
      obtain ⟨o', q', c', _⟩ := (show s.heap.IsTuple b l2.toArray from g2)
      rw [← e, q'] at q
      injection q with q
      rw [← q, c'] at c
      simp at c
    have D1 := Draws.list (prog := X.prog) (w := X.w) (A := X.A.in1) hh i1 a nai l1.toArray
    have D2 := Draws.tuple (prog := X.prog) (w := X.w) (A := X.A.in1) hh i2 b nbi l2.toArray
    have n1 := r1.length
    have n2 := r2.length
    have m1 : l1.toArray.size = i := by simp; omega
    have m2 : l2.toArray.size = i := by simp; omega
    refine wpAny_pyNext_zipD2_end S D1 D2 s1 s2 s3 ⟨s4, g1.isList⟩ ⟨s5, g2⟩ (by omega) (by omega) (.inl m1.symm) fun h1 tk hk => ⟨rfl, I.turnedL (t' := tk) (ch := [z, TI, TO, i1, i2]) (fun c o nc q => ?_) hf⟩
    simp only [List.mem_cons, List.not_mem_nil, or_false, not_or] at nc
    exact hk c o nc.1 nc.2.2.1 nc.2.2.2.1 nc.2.2.2.2 q
def iZipM (K : PySem.W.Frag) (ta : TA) : L2.TI := fun σ H R => ta σ H fun vs H1 => ∃ a b xs ys, vs = [V.ref a, V.ref b] ∧ SqL K H1 a xs ∧ SqT K H1 b ys ∧ R (ItzM K a b) H1
theorem pi_zipM {X : Cx} {e e2 : Expr} {ta : TA} {p pos tpos : Pos} {es : List Expr} {n : Nat} (hg : Gl X "zip") (hm : X.mg "zip" = none) (ha : PA X [e, e2] ta)
    (hs : starEach [e, e2] X.env = (false, eval e X.env) :: starEach [e2] X.env := by rfl) (hp : (backTo pos (starEach [e2] X.env)).any (·.1) = false := by rfl) : PI X (.Tuple es n tpos) (.Call (.Name "zip" p) [e, e2] [] pos) (iZipM X.K ta) := by
  constructor
  intro pins s σ H R I h
  refine Call_ (ld_blt I hg hm PyProof.Rows.boot_zip (PyProof.Rows.callWith_type1 (thn (ha.run pos pins s σ H _ I h) fun us s1 q => ?_) hs hp))
  obtain ⟨vs, H1, I1, rv, a, b, xs, ys, rfl, hxs, hys, hR⟩ := q
  obtain ⟨u1, u2, rfl, q1, q2⟩ := vals2 rv
  obtain rfl : u1 = Value.ref a := q1
  obtain rfl : u2 = Value.ref b := q2
  obtain ⟨l1, r1, g1, _⟩ := I1.list hxs
  obtain ⟨l2, r2, g2, _⟩ := I1.tuple hys
  have g2' : s1.heap.IsTuple b l2.toArray := g2
  have bl : b < s1.heap.objs.size := by
    obtain ⟨o, q, _⟩ := g2'
    exact Heap.lt_size q
  refine zip_begins2 (begins_list a l1.toArray) (begins_tuple b l2.toArray) g1.isList g2' fun h1 z1 z2 z3 z4 z5 hsz hk => wpAny_pyIter_zip z1 ?_
  have I2 : Inv X pins σ H1 { s1 with heap := h1 } := I1.kept (t' := s1.toks) hk
  refine ⟨_, [s1.heap.objs.size + 4, s1.heap.objs.size + 2, s1.heap.objs.size + 3, s1.heap.objs.size, s1.heap.objs.size + 1], _, _, H1, rfl, I2, turnM (sep_new g1.lt bl), ⟨z1, z2, ⟨_, _, z3⟩, ⟨_, z4, rfl, rfl⟩, ⟨_, z5, rfl, rfl⟩⟩, fun c hc => ?_, hR⟩
  have hle : s1.heap.objs.size ≤ c := by
    simp only [List.mem_cons, List.not_mem_nil, or_false] at hc
    rcases hc with rfl | rfl | rfl | rfl | rfl
    · exact Nat.le_add_right _ _
    · exact Nat.le_add_right _ _
    · exact Nat.le_add_right _ _
    · exact Nat.le_refl _
    · exact Nat.le_add_right _ _
  exact I1.fpOk hle (I1.hok.fresh hle)
theorem q_forZM {K : PySem.W.Frag} {ta : TA} {σ : L2.St} {H : Hp} {g : TG} {tu tz : TS} {D : Ends} {a b : Addr} {xs ys : List V} (h : EvA ta σ H [.ref a, .ref b]) (hxs : SqL K H a xs) (hys : SqT K H b ys) (hl : xs.length = ys.length) (Pv : Nat → L2.St → Hp → Prop) (h0 : ∀ H1, Ex H H1 → Pv 0 σ H1)
    (hk : ∀ i σ' H', Pv i σ' H' → SqL K H' a xs ∧ SqT K H' b ys) (hs : ∀ (i : Nat) (x y : V) (T : Addr) (σ' : L2.St) (H' : Hp), xs[i]? = some x → ys[i]? = some y → Pv i σ' H' → H' T = none → g (.ref T) σ' (upd H' T (.tup [x, y])) fun σ2 H2 => tu { D with nx := Pv (i + 1), ct := Pv (i + 1), bk := tz D } σ2 H2)
    (hd : ∀ σ' H', Pv xs.length σ' H' → tz D σ' H') : tSeq (tFor (iZipM K ta) g tu) tz D σ H := h H (Ex.refl H) _ fun H1 e1 => by
  refine ⟨a, b, xs, ys, rfl, ex_l e1 hxs, ex_t e1 hys, fun i m σ' H' => m = xs.length - i ∧ i ≤ xs.length ∧ Pv i σ' H', ⟨_, rfl, Nat.zero_le _, h0 H1 e1⟩, ?_⟩
  rintro i m σ' H' ⟨rfl, hi, p⟩
  obtain ⟨k1, k2⟩ := hk i σ' H' p
  by_cases c : i < xs.length
  · have c2 : i < ys.length := by omega
    refine .inr ⟨⟨xs, ys, xs[i], ys[i], k1, k2, List.getElem?_eq_getElem c, List.getElem?_eq_getElem c2, hl⟩, Pv (i + 1), fun σ2 H2 p2 => ⟨_, by omega, rfl, c, p2⟩, fun v H2 y => ?_⟩
    obtain ⟨T, x, y, rfl, hT, rfl, f1, f2⟩ := y
    exact hs i x y T σ' H' (f1 xs k1) (f2 ys k2) p hT
  · have e : i = xs.length := by omega
    subst e
    exact .inl ⟨⟨xs, ys, k1, k2, rfl, hl.symm⟩, hd σ' H' p⟩
end Wk

set_option Elab.async false
set_option linter.all false
set_option maxRecDepth 100000
set_option maxHeartbeats 4000000
namespace Wk
open PySem PySem.Spec PyProof.Rows L2 Evl
/-! whether any datum is a tree -/
def noB (rows : List (List Wy)) (t : List (Option Wy)) : List PyData → Bool
  | [r] => isR (rows.length : Int) r && (!decide (valI r = 0) && csB rows t (valI r).toNat)
  | _ => false
def allB (rows : List (List Wy)) (t : List (Option Wy)) (rest : List PyData) : Bool := decide (rest.length = 0) && (!(t.any fun o => o.isNone) && decide (fcs rows t (rows.length - 1) 1 = none))
def takeB (rows : List (List Wy)) (g : List (Option Wy) → PyData → Bool) (t : List (Option Wy)) : List PyData → Bool
  | [r, d] => isR (rows.length : Int) r && (decide (t.getD (valI r).toNat (some []) = none) && (tgN ((chW rows (valI r).toNat).length : Int) (some d) && ((chW rows (valI r).toNat).zip (itemsT d)).all fun p => g (t.set (valI r).toNat (some p.1)) p.2))
  | _ => false
def hdB (rows : List (List Wy)) (g : List (Option Wy) → PyData → Bool) (t : List (Option Wy)) : PyData → Bool
  | .tuple (.str tag :: rest) => if tag = "take" then takeB rows g t rest else if tag = "no" then noB rows t rest else decide (tag = "all") && allB rows t rest
  | _ => false
def trB (rows : List (List Wy)) : Nat → List (Option Wy) → PyData → Bool
  | 0, t, d => hdB rows (fun _ _ => false) t d
  | m + 1, t, d => hdB rows (trB rows m) t d
def prevB (rows : List (List Wy)) : Nat → List (Option Wy) → PyData → Bool
  | 0 => fun _ _ => false
  | m + 1 => trB rows m
theorem trB_hd (rows : List (List Wy)) (m : Nat) (t : List (Option Wy)) (d : PyData) : trB rows m t d = hdB rows (prevB rows m) t d := by
  cases m <;> rfl
/-- how many items lack -/
def nns (t : List (Option Wy)) : Nat := (t.filter fun o => o.isNone).length
theorem nns_set : ∀ {t : List (Option Wy)} {i : Nat} {x : Wy}, t[i]? = some none → nns (t.set i (some x)) + 1 = nns t
  | [], i, x, h => by simp at h
  | o :: t, 0, x, h => by
    have e : o = none := by simpa using h
    subst e
    simp [nns]
  | o :: t, i + 1, x, h => by
    have ih := nns_set (t := t) (i := i) (x := x) (by simpa using h)
    unfold nns at ih ⊢
    cases o with
    | none => simp at ih ⊢; omega
    | some y => simp at ih ⊢; omega
theorem nns_pos {t : List (Option Wy)} {i : Nat} (h : t[i]? = some none) : 0 < nns t := by
  unfold nns
  exact List.length_pos_of_mem (List.mem_filter.mpr ⟨List.mem_of_getElem? h, rfl⟩)
theorem tko_set {rows : List (List Wy)} {t : List (Option Wy)} (h : TkO rows t) {i : Nat} {x : Wy} (hx : x ∈ chW rows i) : TkO rows (t.set i (some x)) := by
  refine ⟨by rw [List.length_set]; exact h.len, fun j y hy => ?_⟩
  by_cases c : i = j
  · subst c
    by_cases hl : i < t.length
    · rw [List.getElem?_set_self hl] at hy
      have e : x = y := by simpa using hy
      rw [← e]
      exact hx
    · rw [List.getElem?_eq_none (by rw [List.length_set]; omega)] at hy
      cases hy
  · rw [List.getElem?_set_ne c] at hy
    exact h.ok j y hy
theorem any_nones (t : List (Option Wy)) : ((t.map od).any fun z => PyData.eqv z .none) = t.any fun o => o.isNone := by
  rw [List.any_map]
  congr 1
  funext o
  cases o with
  | none => simp [od, PyData.eqv]
  | some x => simp [od, wd, PyData.eqv]
theorem lay_ods (t : List (Option Wy)) : PyData.canLayAll0 (t.map od) = true := layAll.mpr fun x hx => by
  obtain ⟨o, _, rfl⟩ := List.mem_map.mp hx
  exact SeqAt.canLay_of_shaped (shaped_od o)
theorem shaped_none : SeqAt.shaped PyData.none = true := by decide +kernel
/-- a row of items as it stands -/
def RowG (K : PySem.W.Frag) (H : Hp) (u : V) (t : List (Option Wy)) : Prop := ∃ b xs, u = .ref b ∧ H b = some (.tup xs) ∧ DpAll K H xs (t.map od)
theorem RowG.up {K : PySem.W.Frag} {H H' : Hp} {u : V} {t : List (Option Wy)} (e : Ex H H') (h : RowG K H u t) : RowG K H' u t := by
  obtain ⟨b, xs, h1, h2, h3⟩ := h
  exact ⟨b, xs, h1, e _ _ h2, DpAll.up e h3⟩
theorem isR_nat {n : Nat} {d : PyData} (h : isR (n : Int) d = true) : ∃ j : Nat, d = .int (j : Int) ∧ j < n := by
  unfold isR at h
  obtain ⟨h1, h2⟩ := Bool.and_eq_true_iff.mp h
  obtain ⟨h3, h4⟩ := Bool.and_eq_true_iff.mp h2
  have e := isI_eq h1
  have a := of_decide_eq_true h3
  have b := of_decide_eq_true h4
  refine ⟨(valI d).toNat, ?_, by omega⟩
  rw [show (((valI d).toNat : Nat) : Int) = valI d by omega]
  exact e
theorem isR_of {n j : Nat} (h : j < n) : isR (n : Int) (.int (j : Int)) = true := by
  show (true && (decide ((0 : Int) ≤ (j : Int)) && decide ((j : Int) ≤ (n : Int) - 1))) = true
  rw [decide_eq_true (by omega), decide_eq_true (by omega)]
  rfl
section
variable {P : Program} {w : World} {K : PySem.W.Frag} {mg : Str → Option Value} {base : Heap} {f : Addr} {fd : FuncData} {CW CN : Addr}
/-! is_no -/
def spNoG (K : PySem.W.Frag) (CW : Addr) : Sp := fun vs H Q _ => ∃ (wv iv tv : V) (rows : List (List Wy)) (t : List (Option Wy)) (x : PyData) (rest : List PyData), vs = [wv, iv, tv] ∧ WO CW H wv rows ∧ RowG K H iv t ∧ TkO rows t ∧ Dq H tv (.tuple (x :: rest)) ∧ ∀ H', Ex H H' → Q (.bl (noB rows t rest)) H'
abbrev sIsNo : Stmt := top 25
abbrev nIsNo : List Str := ["wishes", "items", "thing"]
theorem scIsNo : FnScope nIsNo nIsNo (defScope sIsNo) := ⟨rfl, rfl, rfl, by decide +kernel, rfl, by decide +kernel, by decide +kernel⟩
theorem ok_noG (B : Bl mg) (T : WTx K mg CW) (C : Cal P w K mg base "is_router" ["size", "thing"] 3 spRouter) (CS : Cal P w K mg base "cannot_stay" ["wishes", "items", "router"] 6 (spStay K CW)) (F : FnP K "is_no" sIsNo f fd) : FnOk P w K mg base CX0 7 f fd nIsNo (spNoG K CW) := by
  refine F.ok scIsNo (fun vs H Q E h => ?_) (fun cdv A outer s H vs Q E hr h => ?_)
  · obtain ⟨wv, iv, tv, rows, t, x, rest, rfl, _⟩ := h
    rfl
  · obtain ⟨wv, iv, tv, rows, t, x, rest, rfl, hw, hrow, ht, hd, k⟩ := h
    refine ⟨_, pss_cons (ps_if (PW.pt (pw_or (pt_cmpR op_ne (pe_callB call_len_seq (by rfl) B.len PySem.boot_len (pa_cons (pv 2) pa_nil)) pe_int (nomark _))
        (pw_or (pt_not (pt_val (pe_cal C hr (by rfl) (pa_cons (pe_fld (pv 0) rfl) (pa_cons (pe_ix ix_tup (pv 2) pe_int (fun _ _ => rfl)) pa_nil))))) (pw_or1 (pt_cmpR op_eq (pe_ix ix_tup (pv 2) pe_int (fun _ _ => rfl)) pe_int (nomark _)))))) (pss_one (ps_ret pe_bl)) pss_nil)
      (pss_one (ps_ret (pe_cal CS hr (by rfl) (pa_cons (pv 0) (pa_cons (pv 1) (pa_cons (pe_ix ix_tup (pv 2) pe_int (fun _ _ => rfl)) pa_nil)))))), ?_⟩
    obtain ⟨b, xs, rfl, hb, hx⟩ := hrow
    cases hd with
    | tup s1 s2 =>
      rename_i ta ts
      have v2 : ∀ {H1 : Hp}, Ev (tVar 2) [some wv, some (.ref b), some (.ref ta)] H1 (.ref ta) := ev_var rfl
      have htl := s2.length
      have hln : Ev (tCB (rLenS K) (tCons (tVar 2) tNil)) [some wv, some (.ref b), some (.ref ta)] H (.int (((x :: rest).length : Nat) : Int)) := by
        rw [← htl]
        exact ev_lenT (K := K) v2 (st_of s1)
      by_cases hl : rest.length = 1
      · match rest, hl with
        | [r], _ =>
          cases s2 with
          | cons q1 q2 =>
            cases q2 with
            | cons q3 q4 =>
              cases q4
              rename_i x0 rv
              have t1 : ∀ {H1 : Hp}, Ex H H1 → Ev (tOp (rIxT K) (tVar 2) (tC (.int 1))) [some wv, some (.ref b), some (.ref ta)] H1 rv := fun {H1} e => ev_at (K := K) (j := 1) v2 (st_of (e _ _ s1)) (ev_is ev_c rfl) rfl
              have cr : Ev (tCall spRouter [] E0 (tCons (tFld K (tVar 0) "size") (tCons (tOp (rIxT K) (tVar 2) (tC (.int 1))) tNil))) [some wv, some (.ref b), some (.ref ta)] H (.bl (isR (rows.length : Int) r)) := ev_call (ea_cons (ev_wsize T (ev_var (i := 0) rfl) hw) (ea_cons (t1 (Ex.refl H)) ea_nil)) (spP_v fun H1 e => ⟨_, rv, r, rfl, q3.mono e, rfl⟩)
              by_cases hR : isR (rows.length : Int) r = true
              · obtain ⟨j, rfl, jn⟩ := isR_nat hR
                cases q3
                refine q_when (b := !decide (V.int (2 : Int) = V.int 2) || (!isR (rows.length : Int) (.int (j : Int)) || decide (V.int (j : Int) = V.int 0))) (et_or (et_test (ev_op hln ev_c (rv_ne rfl))) fun _ => et_or (et_not (et_B cr)) fun _ => et_test (ev_op (t1 (Ex.refl H)) ev_c (rv_eq rfl))) (fun hb2 H1 e1 => s_ret ev_c fun H2 e2 => ?_) (fun hb2 H1 e1 => ?_)
                · rw [hR] at hb2
                  have j0 : j = 0 := by
                    have z : V.int (j : Int) = V.int 0 := by simpa using hb2
                    injection z with z
                    omega
                  have en : noB rows t [.int (j : Int)] = false := by
                    unfold noB
                    subst j0
                    simp [valI]
                  rw [en] at k
                  exact k H2 (e1.trans e2)
                · rw [hR] at hb2
                  have j0 : j ≠ 0 := fun z => by subst z; simp at hb2
                  have en : noB rows t [.int (j : Int)] = csB rows t j := by
                    show (isR (rows.length : Int) (.int (j : Int)) && (!decide (valI (.int (j : Int)) = 0) && csB rows t (valI (.int (j : Int))).toNat)) = _
                    rw [hR]
                    simp [valI, j0]
                  rw [en] at k
                  exact s_ret (ev_call (ea_cons (ev_var (i := 0) rfl) (ea_cons (ev_var (i := 1) rfl) (ea_cons (t1 e1) ea_nil))) (spP_v fun H2 e2 => ⟨wv, .ref b, j, rows, t, rfl, hw.up (e1.trans e2), .tup (st_of ((e1.trans e2) _ _ hb)) (DpAll.up (e1.trans e2) hx), ht, by omega, jn, rfl⟩)) fun H2 e2 => k H2 (e1.trans e2)
              · have hR' : isR (rows.length : Int) r = false := by simpa using hR
                rw [hR'] at cr
                refine q_when (b := !decide (V.int (2 : Int) = V.int 2) || (!false || true)) (et_is (et_or (b := !false || true) (et_test (ev_op hln ev_c (rv_ne rfl))) fun _ => et_or (a := !false) (b := true) (et_not (et_B cr)) fun z => by cases z) rfl) (fun hb2 H1 e1 => s_ret ev_c fun H2 e2 => ?_) (fun hb2 => by simp at hb2)
                have en : noB rows t [r] = false := by
                  show (isR (rows.length : Int) r && _) = _
                  rw [hR']
                  rfl
                rw [en] at k
                exact k H2 (e1.trans e2)
      · have en : noB rows t rest = false := by
          unfold noB
          split
          · simp at hl
          · rfl
        rw [en] at k
        have hne : ¬ V.int (((x :: rest).length : Nat) : Int) = V.int 2 := fun z => by
          injection z with z
          rw [List.length_cons] at z
          omega
        refine q_when (b := !decide (V.int (((x :: rest).length : Nat) : Int) = V.int 2) || true) (et_is (et_or (b := true) (et_test (ev_op hln ev_c (rv_ne rfl))) fun z => by rw [decide_eq_false hne] at z; cases z) rfl) (fun hb2 H1 e1 => s_ret ev_c fun H2 e2 => k H2 (e1.trans e2)) (fun hb2 => by simp at hb2)
end
end Wk

set_option Elab.async false
set_option linter.all false
set_option maxRecDepth 100000
set_option maxHeartbeats 4000000
namespace Wk
open PySem PySem.Spec PyProof.Rows L2 Evl
theorem all_not {α : Type} {l : List α} {g : α → Bool} {i : Nat} {x : α} (h : l[i]? = some x) (hg : g x = false) : l.all g = false := by
  cases hc : l.all g with
  | false => rfl
  | true =>
    have := List.all_eq_true.mp hc x (List.mem_of_getElem? h)
    rw [hg] at this
    cases this
theorem all_take {α : Type} {l : List α} {g : α → Bool} {i : Nat} {x : α} (h : l[i]? = some x) (hg : g x = true) (ht : (l.take i).all g = true) : (l.take (i + 1)).all g = true := by
  rw [take_snoc h, List.all_append, ht]
  simp [hg]
theorem dq_tup {G : Hp} {v : V} {d : PyData} (h : Dq G v d) (g : isTu d = true) : ∃ (ca : Addr) (cs : List V) (ds2 : List PyData), v = .ref ca ∧ d = .tuple ds2 ∧ G ca = some (.tup cs) ∧ DqA G cs ds2 := by
  cases h with
  | tup c1 c2 => exact ⟨_, _, _, rfl, rfl, c1, c2⟩
  | _ => simp [isTu] at g
theorem Dq.at {G : Hp} {vs : List V} {ds : List PyData} (h : DqA G vs ds) {i : Nat} {x : V} (hx : vs[i]? = some x) : ∃ d, ds[i]? = some d ∧ Dq G x d := h.get hx
section
variable {P : Program} {w : World} {K : PySem.W.Frag} {mg : Str → Option Value} {base : Heap} {f : Addr} {fd : FuncData} {CW CN : Addr}
def spTakeG (K : PySem.W.Frag) (CW : Addr) (m : Nat) : Sp := fun vs H Q _ => ∃ (wv iv tv : V) (rows : List (List Wy)) (t : List (Option Wy)) (x : PyData) (rest : List PyData), vs = [wv, iv, tv] ∧ WO CW H wv rows ∧ RowG K H iv t ∧ TkO rows t ∧ nns t ≤ m ∧ Dq H tv (.tuple (x :: rest)) ∧
  ∀ H', Ex H H' → Q (.bl (takeB rows (prevB rows m) t rest)) H'
def spTreeG (K : PySem.W.Frag) (CW : Addr) (m : Nat) : Sp := fun vs H Q _ => ∃ (wv iv tv : V) (rows : List (List Wy)) (t : List (Option Wy)) (d : PyData), vs = [wv, iv, tv] ∧ WO CW H wv rows ∧ RowG K H iv t ∧ TkO rows t ∧ nns t ≤ m ∧ Dq H tv d ∧
  ∀ H', Ex H H' → Q (.bl (trB rows m t d)) H'
abbrev sIsTake : Stmt := top 24
abbrev nIsTake : List Str := ["wishes", "items", "thing", "router", "worths", "item", "tree"]
theorem scIsTake : FnScope nIsTake ["wishes", "items", "thing"] (defScope sIsTake) := ⟨rfl, rfl, rfl, by decide +kernel, rfl, by decide +kernel, by decide +kernel⟩
theorem ok_takeG (m k' : Nat) (sp' : Sp) (hk : k' ≤ 2 * m + 7) (CT : Cal P w K mg base "is_tree" nIsNo k' sp') (hT : ∀ vs H Q E, (∃ m', m = m' + 1 ∧ spTreeG K CW m' vs H Q E) → sp' vs H Q E) (B : Bl mg) (hz : mg "zip" = none) (T : WTx K mg CW) (C : Cal P w K mg base "is_router" ["size", "thing"] 3 spRouter)
    (CC : Cal P w K mg base "choices" ["wishes", "router"] 6 (spChoices K CW)) (CU : Cal P w K mg base "is_tuple_of" ["many", "thing"] 1 (spTupOf CW)) (CR : Cal P w K mg base "replaced" nRepl 1 spRepl) (F : FnP K "is_take" sIsTake f fd) : FnOk P w K mg base CX0 (2 * m + 7 + 1) f fd ["wishes", "items", "thing"] (spTakeG K CW m) := by
  refine F.ok scIsTake (fun vs H Q E h => ?_) (fun cdv A outer s H vs Q E hr h => ?_)
  · obtain ⟨wv, iv, tv, rows, t, x, rest, rfl, _⟩ := h
    rfl
  · obtain ⟨wv, iv, tv, rows, t, x, rest, rfl, hw, hrow, ht, hnn, hd, k⟩ := h
    have r6 : Room 6 (A.deeper (envOfC "is_take" (defScope sIsTake) s.heap.objs.size f cdv)) := hr.mono (by omega)
    have rk : Room k' (A.deeper (envOfC "is_take" (defScope sIsTake) s.heap.objs.size f cdv)) := hr.mono (by omega)
    refine ⟨_, pss_cons (ps_if (PW.pt (pw_or (pt_cmpR op_ne (pe_callB call_len_seq (by rfl) B.len PySem.boot_len (pa_cons (pv 2) pa_nil)) pe_int (nomark _))
        (pw_or (pt_not (pt_val (pe_cal C r6 (by rfl) (pa_cons (pe_fld (pv 0) rfl) (pa_cons (pe_ix ix_tup (pv 2) pe_int (fun _ _ => rfl)) pa_nil))))) (pw_or1 (pt_cmpR op_notN1 (pe_ix ix_tup (pv 1) (pe_ix ix_tup (pv 2) pe_int (fun _ _ => rfl)) (fun _ _ => rfl)) pe_non (nomark _)))))) (pss_one (ps_ret pe_bl)) pss_nil)
      (pss_cons (ps_set (i := 3) scIsTake.nd rfl (Or.inl rfl) (pe_ix ix_tup (pv 2) pe_int (fun _ _ => rfl)))
      (pss_cons (ps_set (i := 4) scIsTake.nd rfl (Or.inl rfl) (pe_cal CC r6 (by rfl) (pa_cons (pv 0) (pa_cons (pv 3) pa_nil))))
      (pss_cons (ps_if (pt_not (pt_val (pe_cal CU r6 (by rfl) (pa_cons (pe_callB call_len_seq (by rfl) B.len PySem.boot_len (pa_cons (pv 4) pa_nil)) (pa_cons (pe_ix ix_tup (pv 2) pe_int (fun _ _ => rfl)) pa_nil))))) (pss_one (ps_ret pe_bl)) pss_nil)
      (pss_cons (ps_for (passes_of rfl) rfl (pi_zipM (by rfl) hz (pa_cons (pv 4) (pa_cons (pe_ix ix_tup (pv 2) pe_int (fun _ _ => rfl)) pa_nil))) (pg_tup rfl (pgs_cons (pg_name (i := 5) scIsTake.nd rfl (Or.inl rfl)) (pgs_cons (pg_name (i := 6) scIsTake.nd rfl (Or.inl rfl)) pgs_nil)))
        (pss_one (ps_if (pt_not (pt_val (pe_cal CT rk (by rfl) (pa_cons (pv 0) (pa_cons (pe_cal CR r6 (by rfl) (pa_cons (pv 1) (pa_cons (pv 3) (pa_cons (pv 5) pa_nil)))) (pa_cons (pv 6) pa_nil))) (Nat.le_refl _)))) (pss_one (ps_ret pe_bl)) pss_nil)))
      (pss_one (ps_ret pe_bl)))))), ?_⟩
    have hn8 := hw.n8
    have hG := hw.g
    obtain ⟨b, xs, rfl, hb, hx⟩ := hrow
    have hxl : xs.length = rows.length := by
      have := dpa_len hx
      rw [List.length_map, ht.len] at this
      exact this
    cases hd with
    | tup s1 s2 =>
      rename_i ta ts
      have v2 : ∀ {H1 : Hp} {o3 o4 o5 o6 : Option V}, Ev (tVar 2) [some wv, some (.ref b), some (.ref ta), o3, o4, o5, o6] H1 (.ref ta) := ev_var rfl
      have htl := s2.length
      have hln : Ev (tCB (rLenS K) (tCons (tVar 2) tNil)) [some wv, some (.ref b), some (.ref ta), none, none, none, none] H (.int (((x :: rest).length : Nat) : Int)) := by
        rw [← htl]
        exact ev_lenT (K := K) v2 (st_of s1)
      by_cases hl : rest.length = 2
      · match rest, hl with
        | [r, d2], _ =>
          cases s2 with
          | cons q1 q2 =>
            cases q2 with
            | cons q3 q4 =>
              cases q4 with
              | cons q5 q6 =>
                cases q6
                rename_i x0 rv dv
                have t1 : ∀ {H1 : Hp} {o3 o4 o5 o6 : Option V}, Ex H H1 → Ev (tOp (rIxT K) (tVar 2) (tC (.int 1))) [some wv, some (.ref b), some (.ref ta), o3, o4, o5, o6] H1 rv := fun {H1 o3 o4 o5 o6} e => ev_at (K := K) (j := 1) v2 (st_of (e _ _ s1)) (ev_is ev_c rfl) rfl
                have t2 : ∀ {H1 : Hp} {o3 o4 o5 o6 : Option V}, Ex H H1 → Ev (tOp (rIxT K) (tVar 2) (tC (.int 2))) [some wv, some (.ref b), some (.ref ta), o3, o4, o5, o6] H1 dv := fun {H1 o3 o4 o5 o6} e => ev_at (K := K) (j := 2) v2 (st_of (e _ _ s1)) (ev_is ev_c rfl) rfl
                have cr : Ev (tCall spRouter [] E0 (tCons (tFld K (tVar 0) "size") (tCons (tOp (rIxT K) (tVar 2) (tC (.int 1))) tNil))) [some wv, some (.ref b), some (.ref ta), none, none, none, none] H (.bl (isR (rows.length : Int) r)) := ev_call (ea_cons (ev_wsize T (ev_var (i := 0) rfl) hw) (ea_cons (t1 (Ex.refl H)) ea_nil)) (spP_v fun H1 e => ⟨_, rv, r, rfl, q3.mono e, rfl⟩)
                have etk : takeB rows (prevB rows m) t [r, d2] = (isR (rows.length : Int) r && (decide (t.getD (valI r).toNat (some []) = none) && (tgN ((chW rows (valI r).toNat).length : Int) (some d2) && ((chW rows (valI r).toNat).zip (itemsT d2)).all fun p => prevB rows m (t.set (valI r).toNat (some p.1)) p.2))) := rfl
                rw [etk] at k
                by_cases hR : isR (rows.length : Int) r = true
                · obtain ⟨j, rfl, jn⟩ := isR_nat hR
                  rw [hR, Bool.true_and, show (valI (.int (j : Int))).toNat = j by simp [valI]] at k
                  rw [hR] at cr
                  cases q3
                  have hjl : j < t.length := by rw [ht.len]; exact jn
                  have htj : t[j]? = some t[j] := List.getElem?_eq_getElem hjl
                  have etg : t.getD j (some []) = t[j] := by rw [List.getD_eq_getElem?_getD, htj]; rfl
                  rw [etg] at k
                  obtain ⟨y, hy1, hy2⟩ := dpa_at hx (i := j) (d := od t[j]) (by rw [List.getElem?_map, htj]; rfl)
                  generalize t[j] = o at *
                  refine q_when (b := !decide (V.int (3 : Int) = V.int 3) || (!true || !decide (y = V.non))) (et_or (et_test (ev_op hln ev_c (rv_ne rfl))) fun _ => et_or (et_not (et_B cr)) fun _ => et_test (ev_op (ev_at (K := K) (ev_var (i := 1) rfl) (st_of hb) (t1 (Ex.refl H)) hy1) ev_c fun H1 e1 Q2 q => ⟨rfl, q H1 (Ex.refl _)⟩)) (fun hb2 H1 e1 => s_ret ev_c fun H2 e2 => ?_) (fun hb2 H1 e1 => ?_)
                  · have ho : ¬ o = none := fun z => by
                      subst z
                      rw [dp_od_none hy2] at hb2
                      simp at hb2
                    rw [decide_eq_false ho, Bool.false_and] at k
                    exact k H2 (e1.trans e2)
                  · have ho : o = none := by
                      cases o with
                      | none => rfl
                      | some u =>
                        obtain ⟨_, rfl, _⟩ := dp_wd hy2
                        simp at hb2
                    subst ho
                    rw [decide_eq_true rfl, Bool.true_and] at k
                    have hm0 : 0 < m := by have := nns_pos htj; omega
                    obtain ⟨m', rfl⟩ : ∃ m', m = m' + 1 := ⟨m - 1, by omega⟩
                    refine q_asg (v := .int (j : Int)) (t1 e1) fun H2 e2 => ?_
                    have e02 := e1.trans e2
                    change tSeq _ _ _ [some wv, some (.ref b), some (.ref ta), some (.int (j : Int)), none, none, none] H2
                    refine q_asgW ?_
                    refine ⟨wv, rfl, .int (j : Int), rfl, wv, j, rows, rfl, hw.up e02, jn, fun H3 l us e3 _ hl2 hd3 => ?_⟩
                    have hul := dpa_len hd3
                    rw [List.length_map] at hul
                    have e03 := e02.trans e3
                    generalize hcg : chW rows j = cw at *
                    have hxm : ∀ z, z ∈ cw → TkO rows (t.set j (some z)) := fun z hz => tko_set ht (by rw [hcg]; exact hz)
                    change tSeq _ _ _ [some wv, some (.ref b), some (.ref ta), some (.int (j : Int)), some (.ref l), none, none] H3
                    refine q_when (b := !tgN (cw.length : Int) (some d2)) (et_not (et_B (ev_call (ea_cons (ev_is (ev_len (K := K) (ev_var (i := 4) rfl) (sq_of hl2)) (by rw [hul])) (ea_cons (t2 e03) ea_nil)) (spP_v fun H4 e4 => ⟨_, dv, some d2, rfl, q5.mono (e03.trans e4), rfl⟩)))) (fun hb2 H4 e4 => s_ret ev_c fun H5 e5 => ?_) (fun hb2 H4 e4 => ?_)
                    · rw [show tgN (cw.length : Int) (some d2) = false by simpa using hb2, Bool.false_and] at k
                      exact k H5 ((e03.trans e4).trans e5)
                    · have htg : tgN (cw.length : Int) (some d2) = true := by simpa using hb2
                      rw [htg, Bool.true_and] at k
                      obtain ⟨g1, g2⟩ := Bool.and_eq_true_iff.mp (show (isTu d2 && decide (V.int ((itemsT d2).length : Int) = V.int (cw.length : Int))) = true from htg)
                      have g3 : (itemsT d2).length = cw.length := by have := of_decide_eq_true g2; injection this; omega
                      obtain ⟨ca, cs, ds2, rfl, rfl, c1, c2⟩ := dq_tup q5 g1
                      have hdl := c2.length
                      have g3' : ds2.length = cw.length := g3
                      have k' : ∀ H', Ex H H' → Q (.bl ((cw.zip ds2).all fun p => trB rows m' (t.set j (some p.1)) p.2)) H' := k
                      have e04 := e03.trans e4
                      refine q_forZM (K := K) (ea_cons (ev_var (i := 4) rfl) (ea_cons (t2 e04) ea_nil)) (sq_of (e4 _ _ hl2)) (st_of (e04 _ _ c1)) (by omega) (fun i σ' H' => Ex H4 H' ∧ (∃ o5 o6, σ' = [some wv, some (.ref b), some (.ref ta), some (.int (j : Int)), some (.ref l), o5, o6]) ∧ ((cw.zip ds2).take i).all (fun p => trB rows m' (t.set j (some p.1)) p.2) = true) (fun H5 e5 => ⟨e5, ⟨_, _, rfl⟩, by simp⟩) (fun i σ' H' hp => ⟨sq_of ((e4.trans hp.1) _ _ hl2), st_of ((e04.trans hp.1) _ _ c1)⟩) ?_ ?_
                      · rintro i x' y' T5 σ' H5 hxi hyi ⟨e5, ⟨o5, o6, rfl⟩, hall⟩ hT5
                        have e6 := Ex.new (o := .tup [x', y']) hT5
                        refine ⟨T5, [x', y'], rfl, st_of upd_same, rfl, x', [y'], rfl, y', [], rfl, rfl, ?_⟩
                        change tIfS _ _ _ _ [some wv, some (.ref b), some (.ref ta), some (.int (j : Int)), some (.ref l), some x', some y'] _
                        obtain ⟨z, hz1, hz2⟩ := dpa_get hd3 hxi
                        obtain ⟨d, hd1, hd2⟩ := c2.get hyi
                        have hzip : (cw.zip ds2)[i]? = some (z, d) := by rw [List.getElem?_zip_eq_some]; exact ⟨hz1, hd1⟩
                        have e06 := (e04.trans e5).trans e6
                        have evt : Ev (tCall sp' [] E0 (tCons (tVar 0) (tCons (tCall spRepl [] E0 (tCons (tVar 1) (tCons (tVar 3) (tCons (tVar 5) tNil)))) (tCons (tVar 6) tNil)))) [some wv, some (.ref b), some (.ref ta), some (.int (j : Int)), some (.ref l), some x', some y'] (upd H5 T5 (.tup [x', y'])) (.bl (trB rows m' (t.set j (some z)) d)) := fun H7 e7 Q7 q7 => by
                          have e07 := e06.trans e7
                          refine ⟨wv, rfl, .ref b, rfl, .int (j : Int), rfl, x', rfl, b, j, x', xs, rfl, e07 _ _ hb, by omega, by omega, fun H8 t8 e8 ht8 => ?_⟩
                          refine ⟨y', rfl, hT _ _ _ _ ⟨m', rfl, wv, .ref t8, y', rows, t.set j (some z), d, rfl, hw.up (e07.trans e8), ⟨t8, _, rfl, ht8, ?_⟩, hxm z (List.mem_of_getElem? hz1), by have := nns_set (x := z) htj; omega, hd2.mono (e07.trans e8), fun H9 e9 => q7 H9 (e8.trans e9)⟩⟩
                          have hset := dpa_set (Dp.up ((((e4.trans e5).trans e6).trans e7).trans e8) (show Dp K H3 x' (od (some z)) from hz2)) j (DpAll.up (e07.trans e8) hx)
                          rw [← List.map_set] at hset
                          exact hset
                        refine s_when (b := !trB rows m' (t.set j (some z)) d) (et_not (et_B evt)) (fun hb7 H7 e7 => s_ret ev_c fun H8 e8 => ?_) (fun hb7 H7 e7 => ⟨(e5.trans e6).trans e7, ⟨_, _, rfl⟩, all_take hzip (by simpa using hb7) hall⟩)
                        rw [all_not (g := fun p => trB rows m' (t.set j (some p.1)) p.2) hzip (by simpa using hb7)] at k'
                        exact k' H8 ((e06.trans e7).trans e8)
                      · rintro σ' H5 ⟨e5, ⟨o5, o6, rfl⟩, hall⟩
                        rw [hul, List.take_of_length_le (by simp [List.length_zip]; omega)] at hall
                        rw [hall] at k'
                        exact s_ret ev_c fun H6 e6 => k' H6 ((e04.trans e5).trans e6)
                · have hR' : isR (rows.length : Int) r = false := by simpa using hR
                  rw [hR'] at cr
                  rw [hR', Bool.false_and] at k
                  refine q_when (b := !decide (V.int (3 : Int) = V.int 3) || (!false || true)) (et_is (et_or (b := !false || true) (et_test (ev_op hln ev_c (rv_ne rfl))) fun _ => et_or (a := !false) (b := true) (et_not (et_B cr)) fun z => by cases z) rfl) (fun hb2 H1 e1 => s_ret ev_c fun H2 e2 => k H2 (e1.trans e2)) (fun hb2 => by simp at hb2)
      · have en : takeB rows (prevB rows m) t rest = false := by
          unfold takeB
          split
          · simp at hl
          · rfl
        rw [en] at k
        have hne : ¬ V.int (((x :: rest).length : Nat) : Int) = V.int 3 := fun z => by
          injection z with z
          rw [List.length_cons] at z
          omega
        refine q_when (b := !decide (V.int (((x :: rest).length : Nat) : Int) = V.int 3) || true) (et_is (et_or (b := true) (et_test (ev_op hln ev_c (rv_ne rfl))) fun z => by rw [decide_eq_false hne] at z; cases z) rfl) (fun hb2 H1 e1 => s_ret ev_c fun H2 e2 => k H2 (e1.trans e2)) (fun hb2 => by simp at hb2)
end
end Wk

set_option Elab.async false
set_option linter.all false
set_option maxRecDepth 100000
set_option maxHeartbeats 4000000
namespace Wk
open PySem PySem.Spec PyProof.Rows L2 Evl
theorem hdB_take {rows : List (List Wy)} {g : List (Option Wy) → PyData → Bool} {t : List (Option Wy)} {tag : Str} {rest : List PyData} (h : tag = "take") : hdB rows g t (.tuple (.str tag :: rest)) = takeB rows g t rest := if_pos h
theorem hdB_no {rows : List (List Wy)} {g : List (Option Wy) → PyData → Bool} {t : List (Option Wy)} {tag : Str} {rest : List PyData} (h : ¬ tag = "take") (h2 : tag = "no") : hdB rows g t (.tuple (.str tag :: rest)) = noB rows t rest := (if_neg h).trans (if_pos h2)
theorem hdB_all {rows : List (List Wy)} {g : List (Option Wy) → PyData → Bool} {t : List (Option Wy)} {tag : Str} {rest : List PyData} (h : ¬ tag = "take") (h2 : ¬ tag = "no") : hdB rows g t (.tuple (.str tag :: rest)) = (decide (tag = "all") && allB rows t rest) := (if_neg h).trans (if_neg h2)
def isS : PyData → Bool
  | .str _ => true
  | _ => false
theorem kit_str (d : PyData) : kitB (tyN d) "str" = some (isS d) := by
  cases d with
  | none => exact show kitB "NoneType" "str" = some false by decide +kernel
  | bool b => exact show kitB "bool" "str" = some false by decide +kernel
  | int i => exact show kitB "int" "str" = some false by decide +kernel
  | str z => exact show kitB "str" "str" = some true by decide +kernel
  | list ds => exact show kitB "list" "str" = some false by decide +kernel
  | tuple ds => exact show kitB "tuple" "str" = some false by decide +kernel
  | dict ds => exact show kitB "dict" "str" = some false by decide +kernel
theorem isS_eq {d : PyData} (h : isS d = true) : ∃ x, d = .str x := by
  cases d <;> first | exact ⟨_, rfl⟩ | (simp [isS] at h)
theorem hdB_noS {rows : List (List Wy)} {g : List (Option Wy) → PyData → Bool} {t : List (Option Wy)} {x : PyData} {rest : List PyData} (h : isS x = false) : hdB rows g t (.tuple (x :: rest)) = false := by
  cases x <;> first | rfl | (simp [isS] at h)
theorem hdB_noT {rows : List (List Wy)} {g : List (Option Wy) → PyData → Bool} {t : List (Option Wy)} {d : PyData} (h : isTu d = false) : hdB rows g t d = false := by
  cases d <;> first | rfl | (simp [isTu] at h)
section
variable {P : Program} {w : World} {K : PySem.W.Frag} {mg : Str → Option Value} {base : Heap} {f : Addr} {fd : FuncData} {CW CN : Addr}
abbrev sIsTree : Stmt := top 23
theorem scIsTree : FnScope nIsNo nIsNo (defScope sIsTree) := ⟨rfl, rfl, rfl, by decide +kernel, rfl, by decide +kernel, by decide +kernel⟩
theorem ok_treeG (m : Nat) (B : Bl mg) (CT : Cal P w K mg base "is_take" ["wishes", "items", "thing"] (2 * m + 7 + 1) (spTakeG K CW m)) (CN' : Cal P w K mg base "is_no" nIsNo 7 (spNoG K CW))
    (CF : Cal P w K mg base "first_that_cannot_stay" ["wishes", "items"] 7 (spFirst K CW)) (F : FnP K "is_tree" sIsTree f fd) : FnOk P w K mg base CX0 (2 * m + 8 + 1) f fd nIsNo (spTreeG K CW m) := by
  refine F.ok scIsTree (fun vs H Q E h => ?_) (fun cdv A outer s H vs Q E hr h => ?_)
  · obtain ⟨wv, iv, tv, rows, t, d, rfl, _⟩ := h
    rfl
  · obtain ⟨wv, iv, tv, rows, t, d, rfl, hw, hrow, ht, hnn, hd, k⟩ := h
    have hu : (A.deeper (envOfC "is_tree" (defScope sIsTree) s.heap.objs.size f cdv)).units + 66 < cLine := by have := hr.un; omega
    have r7 : Room 7 (A.deeper (envOfC "is_tree" (defScope sIsTree) s.heap.objs.size f cdv)) := hr.mono (by omega)
    have rk : Room (2 * m + 7 + 1) (A.deeper (envOfC "is_tree" (defScope sIsTree) s.heap.objs.size f cdv)) := hr.mono (by omega)
    refine ⟨_, pss_cons (ps_if (PW.pt (pw_or (pt_not (pt_val (pe_callB call_isi (by rfl) B.isi boot_isinstance (pa_cons (pv 2) (pa_cons (pe_bltn (v := .ty "tuple") (by rfl) B.tuple PyProof.Rows.boot_tuple rfl) pa_nil)))))
        (pw_or (pt_cmpR op_eq (pe_callB call_len_seq (by rfl) B.len PySem.boot_len (pa_cons (pv 2) pa_nil)) pe_int (nomark _)) (pw_or1 (pt_not (pt_val (pe_callB call_isi (by rfl) B.isi boot_isinstance (pa_cons (pe_ix ix_tup (pv 2) pe_int (fun _ _ => rfl)) (pa_cons (pe_bltn (v := .ty "str") (by rfl) B.str PyProof.Rows.boot_str rfl) pa_nil))))))))) (pss_one (ps_ret pe_bl)) pss_nil)
      (pss_cons (ps_if (pt_cmpR op_eq (pe_ix ix_tup (pv 2) pe_int (fun _ _ => rfl)) pe_str (nomark _)) (pss_one (ps_ret (pe_cal CT rk (by rfl) (pa_cons (pv 0) (pa_cons (pv 1) (pa_cons (pv 2) pa_nil))) (Nat.le_refl _)))) pss_nil)
      (pss_cons (ps_if (pt_cmpR op_eq (pe_ix ix_tup (pv 2) pe_int (fun _ _ => rfl)) pe_str (nomark _)) (pss_one (ps_ret (pe_cal CN' r7 (by rfl) (pa_cons (pv 0) (pa_cons (pv 1) (pa_cons (pv 2) pa_nil)))))) pss_nil)
      (pss_cons (ps_if (PW.pt (pw_or (pt_cmpR op_ne (pe_ix ix_tup (pv 2) pe_int (fun _ _ => rfl)) pe_str (nomark _)) (pw_or (pt_cmpR op_ne (pe_callB call_len_seq (by rfl) B.len PySem.boot_len (pa_cons (pv 2) pa_nil)) pe_int (nomark _)) (pw_or1 (pt_cmpR (op_inU hu) pe_non (pv 1) rfl))))) (pss_one (ps_ret pe_bl)) pss_nil)
      (pss_one (ps_ret (pe_cmpR op_isN1 (pe_cal CF r7 (by rfl) (pa_cons (pv 0) (pa_cons (pv 1) pa_nil))) pe_non (nomark _))))))), ?_⟩
    rw [trB_hd] at k
    have v2 : ∀ {H1 : Hp}, Ev (tVar 2) [some wv, some iv, some tv] H1 tv := ev_var rfl
    by_cases hT : isTu d = true
    · obtain ⟨ta, ts, ds, rfl, rfl, s1, s2⟩ := dq_tup hd hT
      have hln : ∀ {H1 : Hp}, Ex H H1 → Ev (tCB (rLenS K) (tCons (tVar 2) tNil)) [some wv, some iv, some (.ref ta)] H1 (.int ((ts.length : Nat) : Int)) := fun {H1} e => ev_lenT (K := K) v2 (st_of (e _ _ s1))
      cases s2 with
      | nil =>
        refine q_when (b := !true || (true || true)) (et_or (a := !true) (b := true || true) (et_not (et_B (ev_isi v2 hd (kit_tup _)))) fun _ => et_or (a := true) (b := true) (et_test (ev_op (hln (Ex.refl H)) ev_c (rv_eq rfl))) fun z => by cases z) (fun hb2 H1 e1 => s_ret ev_c fun H2 e2 => k H2 (e1.trans e2)) (fun hb2 => by simp at hb2)
      | cons q1 q2 =>
        rename_i x0 ts x rest
        have htl := q2.length
        have t0 : ∀ {H1 : Hp}, Ex H H1 → Ev (tOp (rIxT K) (tVar 2) (tC (.int 0))) [some wv, some iv, some (.ref ta)] H1 x0 := fun {H1} e => ev_at (K := K) (j := 0) v2 (st_of (e _ _ s1)) (ev_is ev_c rfl) rfl
        refine q_when (b := !true || (decide (V.int (((x0 :: ts).length : Nat) : Int) = V.int 0) || !isS x)) (et_or (et_not (et_B (ev_isi v2 hd (kit_tup _)))) fun _ => et_or (et_test (ev_op (hln (Ex.refl H)) ev_c (rv_eq rfl))) fun _ => et_not (et_B (ev_isi (t0 (Ex.refl H)) q1 (kit_str _)))) (fun hb H1 e1 => ?_) (fun hb H1 e1 => ?_)
        all_goals
          have hl0 : ¬ V.int (((x0 :: ts).length : Nat) : Int) = V.int 0 := fun z => by
            injection z with z
            rw [List.length_cons] at z
            omega
          rw [decide_eq_false hl0] at hb
        · rw [hdB_noS (by simpa using hb)] at k
          exact s_ret ev_c fun H2 e2 => k H2 (e1.trans e2)
        obtain ⟨tag, rfl⟩ := isS_eq (d := x) (by simpa using hb)
        cases q1
        refine q_when (b := decide (V.str tag = V.str (Str.ofString "take"))) (et_test (ev_op (t0 e1) ev_c (rv_eq rfl))) (fun hb2 H2 e2 => ?_) (fun hb2 H2 e2 => ?_)
        · have e02 := e1.trans e2
          rw [hdB_take (by have := of_decide_eq_true hb2; injection this)] at k
          exact ⟨wv, rfl, iv, rfl, .ref ta, rfl, wv, iv, .ref ta, rows, t, .str tag, rest, rfl, hw.up e02, hrow.up e02, ht, hnn, hd.mono e02, fun H3 e3 => k H3 (e02.trans e3)⟩
        have n1 : ¬ tag = "take" := fun z => by
          have := of_decide_eq_false hb2
          exact this (congrArg V.str z)
        refine q_when (b := decide (V.str tag = V.str (Str.ofString "no"))) (et_test (ev_op (t0 (e1.trans e2)) ev_c (rv_eq rfl))) (fun hb3 H3 e3 => ?_) (fun hb3 H3 e3 => ?_)
        · have e03 := (e1.trans e2).trans e3
          rw [hdB_no n1 (by have := of_decide_eq_true hb3; injection this)] at k
          exact ⟨wv, rfl, iv, rfl, .ref ta, rfl, wv, iv, .ref ta, rows, t, .str tag, rest, rfl, hw.up e03, hrow.up e03, ht, hd.mono e03, fun H4 e4 => k H4 (e03.trans e4)⟩
        have n2 : ¬ tag = "no" := fun z => by
          have := of_decide_eq_false hb3
          exact this (congrArg V.str z)
        rw [hdB_all n1 n2] at k
        have e03 := (e1.trans e2).trans e3
        obtain ⟨b, xs, rfl, hb', hx⟩ := hrow
        have hdp : ∀ {H1 : Hp}, Ex H H1 → Dp K H1 (.ref b) (.tuple (t.map od)) := fun {H1} e => .tup (st_of (e _ _ hb')) (DpAll.up e hx)
        have htag : decide (V.str tag = V.str (Str.ofString "all")) = decide (tag = "all") := decide_eq_decide.mpr ⟨fun z => by injection z, congrArg V.str⟩
        have hlen : decide (V.int (((V.str tag :: ts).length : Nat) : Int) = V.int 1) = decide (rest.length = 0) := decide_eq_decide.mpr ⟨fun z => by
          injection z with z
          rw [List.length_cons] at z
          omega, fun z => by rw [List.length_cons, htl, z]; rfl⟩
        refine q_when (b := !decide (V.str tag = V.str (Str.ofString "all")) || (!decide (V.int (((V.str tag :: ts).length : Nat) : Int) = V.int 1) || t.any fun o => o.isNone)) (et_or (et_test (ev_op (t0 e03) ev_c (rv_ne rfl))) fun _ => et_or (et_test (ev_op (hln e03) ev_c (rv_ne rfl))) fun _ => et_test (ev_op ev_c (ev_var (i := 1) rfl) fun H4 e4 Q2 q => ⟨.none, _, .non, hdp (e03.trans e4), shaped_none, lay_ods _, by rw [any_nones]; exact q H4 (Ex.refl _)⟩)) (fun hb4 H4 e4 => s_ret ev_c fun H5 e5 => ?_) (fun hb4 H4 e4 => ?_)
        all_goals rw [htag, hlen] at hb4
        · have en : (decide (tag = "all") && allB rows t rest) = false := by
            unfold allB
            generalize (t.any fun o => o.isNone) = an at *
            cases h1 : decide (tag = "all") <;> cases h2 : decide (rest.length = 0) <;> simp_all
          rw [en] at k
          exact k H5 ((e03.trans e4).trans e5)
        · have en : (decide (tag = "all") && allB rows t rest) = decide (fcs rows t (rows.length - 1) 1 = none) := by
            unfold allB
            generalize (t.any fun o => o.isNone) = an at *
            cases h1 : decide (tag = "all") <;> cases h2 : decide (rest.length = 0) <;> simp_all
          rw [en] at k
          have e04 := e03.trans e4
          refine s_ret (ev_is (ev_op (ev_call (ea_cons (ev_var (i := 0) rfl) (ea_cons (ev_var (i := 1) rfl) ea_nil)) (spP_v fun H5 e5 => ⟨wv, .ref b, rows, _, rfl, hw.up (e04.trans e5), hdp (e04.trans e5), ht, rfl⟩)) ev_c fun H5 e5 Q2 q => ⟨rfl, q H5 (Ex.refl _)⟩) (by cases fcs rows t (rows.length - 1) 1 <;> rfl)) fun H5 e5 => k H5 (e04.trans e5)
    · have hT' : isTu d = false := by simpa using hT
      rw [hdB_noT hT'] at k
      refine q_when (b := !false || true) (et_or (a := !false) (b := true) (et_not (et_B (ev_is (ev_isi v2 hd (kit_tup _)) (by rw [hT'])))) fun z => by cases z) (fun hb2 H1 e1 => s_ret ev_c fun H2 e2 => k H2 (e1.trans e2)) (fun hb2 => by simp at hb2)
theorem treeG_all {f2 : Addr} {fd2 : FuncData} (B : Bl mg) (hz : mg "zip" = none) (T : WTx K mg CW) (C : Cal P w K mg base "is_router" ["size", "thing"] 3 spRouter) (CC : Cal P w K mg base "choices" ["wishes", "router"] 6 (spChoices K CW)) (CU : Cal P w K mg base "is_tuple_of" ["many", "thing"] 1 (spTupOf CW)) (CR : Cal P w K mg base "replaced" nRepl 1 spRepl)
    (CN' : Cal P w K mg base "is_no" nIsNo 7 (spNoG K CW)) (CF : Cal P w K mg base "first_that_cannot_stay" ["wishes", "items"] 7 (spFirst K CW)) (F : FnP K "is_tree" sIsTree f fd) (hg : mg "is_tree" = some (.ref f)) (F2 : FnP K "is_take" sIsTake f2 fd2) (hg2 : mg "is_take" = some (.ref f2)) :
    ∀ m, FnOk P w K mg base CX0 (2 * m + 8 + 1) f fd nIsNo (spTreeG K CW m)
  | 0 => ok_treeG 0 B ⟨⟨f2, fd2, ok_takeG 0 0 (fun _ _ _ _ => False) (by omega) ⟨⟨f, fd, ⟨fun _ _ _ _ h => h.elim, fun _ _ _ _ _ _ _ _ _ _ _ _ _ h => h.elim⟩, hg, F.kp, F.bindsN fun _ _ _ _ _ _ us hl => match us, hl with | [_, _, _], _ => rfl⟩⟩ (fun _ _ _ _ ⟨m', e, _⟩ => by omega) B hz T C CC CU CR F2, hg2, F2.kp, F2.bindsN fun _ _ _ _ _ _ us hl => match us, hl with | [_, _, _], _ => rfl⟩⟩ CN' CF F
  | m + 1 => ok_treeG (m + 1) B ⟨⟨f2, fd2, ok_takeG (m + 1) (2 * m + 8 + 1) (spTreeG K CW m) (by omega) ⟨⟨f, fd, treeG_all B hz T C CC CU CR CN' CF F hg F2 hg2 m, hg, F.kp, F.bindsN fun _ _ _ _ _ _ us hl => match us, hl with | [_, _, _], _ => rfl⟩⟩ (fun vs H Q E ⟨m', e, h⟩ => by
        have e2 : m' = m := by omega
        subst e2
        exact h) B hz T C CC CU CR F2, hg2, F2.kp, F2.bindsN fun _ _ _ _ _ _ us hl => match us, hl with | [_, _, _], _ => rfl⟩⟩ CN' CF F
end
end Wk

set_option Elab.async false
set_option linter.all false
set_option maxRecDepth 100000
set_option maxHeartbeats 4000000
namespace Wk
open PySem PySem.Spec PyProof.Rows L2 Evl
theorem sq_len {K : PySem.W.Frag} {σ : L2.St} {H : Hp} {ta : TE} {b : Addr} {xs : List V} (h : Ev ta σ H (.ref b)) (hb : SqL K H b xs ∨ SqT K H b xs) : Ev (tCB (rLenS K) (tCons ta tNil)) σ H (.int (xs.length : Int)) := ev_lenS h fun e => sq_up e hb
theorem goal_hit {rows : List (List Wy)} {t : List (Option Wy)} (hG : GW rows) (ht : TkO rows t) {i : Nat} {row : List Wy} {own : Wy} {j : Nat} {oj : Option Wy} (hr : rows[i]? = some row) (ho : own ∈ row) (hj : own[1]? = some (j : Int)) (hoj : t.getD j none = oj) (h2 : ¬ 2 < own.length) : oj = none ∨ oj = some (own.drop 1) := by
  have ok := hG.ok i row hr own ho
  have hl : own.length = 2 := by have := ok.l2; omega
  match own, hl, ok, hj with
  | [x, y], _, ok, hj =>
    have e1 : y = (j : Int) := by simpa using hj
    have e2 := ok.lt
    simp at e2
    have hj0 : j = 0 := by omega
    subst hj0
    cases oj with
    | none => exact .inl rfl
    | some u =>
      refine .inr ?_
      have hl0 : 0 < t.length := by
        rcases Nat.eq_zero_or_pos t.length with z | z
        · rw [List.getD_eq_getElem?_getD, List.getElem?_eq_none (by omega)] at hoj
          cases hoj
        · exact z
      rw [List.getD_eq_getElem?_getD, List.getElem?_eq_getElem hl0] at hoj
      have hc := ht.ok 0 u (by rw [List.getElem?_eq_getElem hl0]; exact congrArg some hoj)
      unfold chW at hc
      rw [if_pos rfl] at hc
      rw [List.mem_singleton.mp hc, e2]
      rfl
section
variable {P : Program} {w : World} {K : PySem.W.Frag} {mg : Str → Option Value} {base : Heap} {f : Addr} {fd : FuncData} {CW CN CT : Addr}
abbrev spBlk (K : PySem.W.Frag) : Sp := spP fun H vs z => ∃ (lv tv : V) (i : Nat) (rows : List (List Wy)) (t : List (Option Wy)) (own : Wy), vs = [lv, tv, .int (i : Int)] ∧ Dq H lv (pd rows) ∧ GW rows ∧ TkS K H tv t ∧ TkO rows t ∧ 1 ≤ i ∧ i < rows.length ∧ t.getD i none = some own ∧ z = .bl (csB rows t i)
abbrev sBlk : Stmt := top 45
abbrev nBlk : List Str := ["_law_lists_here", "_law_items", "_law_router", "_law_item", "_law_way"]
theorem scBlk : FnScope nBlk ["_law_lists_here", "_law_items", "_law_router"] (defScope sBlk) := ⟨rfl, rfl, rfl, by decide +kernel, rfl, by decide +kernel, by decide +kernel⟩
theorem ok_blk (B : Bl mg) (F : FnP K "_law_blocked" sBlk f fd) : FnOk P w K mg base CX0 1 f fd ["_law_lists_here", "_law_items", "_law_router"] (spBlk K) := by
  refine F.ok scBlk (fun vs H Q E h => ?_) (fun cdv A outer s H vs Q E hr h => ?_)
  · obtain ⟨z, ⟨lv, tv, i, rows, t, own, rfl, _⟩, _⟩ := h
    rfl
  · obtain ⟨z, ⟨lv, tv, i, rows, t, own, rfl, hl, hG, htk, ht, hi1, hin, hown0, rfl⟩, k⟩ := h
    have hu : (A.deeper (envOfC "_law_blocked" (defScope sBlk) s.heap.objs.size f cdv)).units + 64 < cLine := by have := hr.un; omega
    refine ⟨_, pss_cons (ps_set (i := 3) scBlk.nd rfl (Or.inl rfl) (pe_ix ix_seq (pv 1) (pv 2) (fun _ _ => rfl)))
      (pss_cons (ps_if (PW.pt (pw_and (pt_cmpR op_gt (pe_callB call_len_seq (by rfl) B.len PySem.boot_len (pa_cons (pv 3) pa_nil)) pe_int (nomark _)) (pw_and (pt_cmpR op_notN (pe_ix ix_seq (pv 1) (pe_ix ix_tup (pv 3) pe_int (fun _ _ => rfl)) (fun _ _ => rfl)) pe_non (nomark _)) (pw_and1 (pt_cmpR (op_neD hu) (pe_ix ix_seq (pv 1) (pe_ix ix_tup (pv 3) pe_int (fun _ _ => rfl)) (fun _ _ => rfl)) (pe_slice sl_tupA (pv 3) (po_some pe_int) po_none) (nomark _)))))) (pss_one (ps_ret pe_bl)) pss_nil)
      (pss_cons (ps_for (passes_of rfl) rfl (pi_tup (pe_ix ix_tup (pv 0) (pv 2) (fun _ _ => rfl))) (pg_name (i := 4) scBlk.nd rfl (Or.inl rfl))
        (pss_cons (ps_if (pt_cmpR (op_eqD hu) (pv 4) (pv 3) (nomark _)) (pss_one (ps_ret pe_bl)) pss_nil)
        (pss_one (ps_if (pt_cmpR (op_eqD hu) (pe_ix ix_seq (pv 1) (pe_ix ix_tup (pv 4) pe_int (fun _ _ => rfl)) (fun _ _ => rfl)) (pe_slice sl_tupA (pv 4) (po_some pe_int) po_none) (nomark _)) (pss_one (ps_ret pe_bl)) pss_nil))))
      (pss_one (ps_ret pe_bl)))), ?_⟩
    have hil : i < t.length := by rw [ht.len]; exact hin
    have hti : t[i]? = some (some own) := by
      rw [List.getD_eq_getElem?_getD, List.getElem?_eq_getElem hil] at hown0
      rw [List.getElem?_eq_getElem hil]
      exact congrArg some hown0
    have hrw : rows[i]? = some rows[i] := List.getElem?_eq_getElem hin
    have erg : rows.getD i [] = rows[i] := by rw [List.getD_eq_getElem?_getD, hrw]; rfl
    unfold csB at k
    rw [hown0, erg] at k
    unfold pd at hl
    cases hl with
    | tup l1 l2 =>
      rename_i la lxs
      obtain ⟨rv, hrv, hdr⟩ := l2.at (i := i) (d := rd rows[i]) (by rw [List.getElem?_map, hrw]; rfl)
      generalize rows[i] = row at *
      unfold rd at hdr
      cases hdr with
      | tup r1 r2 =>
        rename_i ra rxs
        have rl := r2.length
        rw [List.length_map] at rl
        obtain ⟨b, xs, rfl, hb, hxs⟩ := htk
        obtain ⟨x, hx, hdx⟩ := dpa_at (i := i) (d := od (some own)) hxs (by rw [List.getElem?_map, hti]; rfl)
        obtain ⟨ao, rfl, hao⟩ := dp_wd hdx
        refine q_asg (ev_atS (K := K) (ev_var (i := 1) rfl) hb (ev_var (i := 2) rfl) hx) fun H1 e1 => ?_
        change tSeq _ _ _ [some (.ref la), some (.ref b), some (.int (i : Int)), some (.ref ao), none] H1
        have k' : ∀ (H' : Hp), Ex H H' → Q (.bl (if own ≠ [] ∧ t.getD (own.getD 1 0).toNat none ≠ none ∧ hit t own = false then true else csL t own row)) H' := k
        clear k
        have item : ∀ u : Wy, u ∈ row → ∃ (j : Nat) (y : V) (oj : Option Wy), u[1]? = some (j : Int) ∧ (u.getD 1 0).toNat = j ∧ xs[j]? = some y ∧ Dp K H y (od oj) ∧ t.getD j none = oj := fun u h2 => by
          obtain ⟨j, j1, j2, j3, _⟩ := ways_in hG hrw h2
          have hjl : j < t.length := by rw [ht.len]; exact j3
          have htj : t[j]? = some t[j] := List.getElem?_eq_getElem hjl
          obtain ⟨y, y1, y2⟩ := dpa_at (i := j) (d := od t[j]) hxs (by rw [List.getElem?_map, htj]; rfl)
          exact ⟨j, y, t[j], j1, by rw [j2]; rfl, y1, y2, by rw [List.getD_eq_getElem?_getD, htj]; rfl⟩
        have hown : own ≠ [] → own ∈ row := fun hne => by
          have q := ht.ok i own hti
          unfold chW at q
          rw [if_neg (by omega), erg] at q
          rcases List.mem_append.mp q with z | z
          · exact z
          · exact absurd (List.mem_singleton.mp z) hne
        have vi : ∀ {H3 : Hp} {o4 : Option V}, Ev (tVar 1) [some (.ref la), some (.ref b), some (.int (i : Int)), some (.ref ao), o4] H3 (.ref b) := ev_var rfl
        have vo : ∀ {H3 : Hp} {o4 : Option V}, Ev (tVar 3) [some (.ref la), some (.ref b), some (.int (i : Int)), some (.ref ao), o4] H3 (.ref ao) := ev_var rfl
        have hlen : Ev (tCB (rLenS K) (tCons (tVar 3) tNil)) [some (.ref la), some (.ref b), some (.int (i : Int)), some (.ref ao), none] H1 (.int (own.length : Int)) := by
          have z := ev_lenT (K := K) (vo (H3 := H1) (o4 := none)) (ex_t e1 hao)
          rw [List.length_map] at z
          exact z
        refine q_when (b := decide (own ≠ [] ∧ t.getD (own.getD 1 0).toNat none ≠ none ∧ hit t own = false)) ?_ (fun hb2 H3 e3 => s_ret ev_c fun H4 e4 => ?_) (fun hb2 H3 e3 => ?_)
        · by_cases hne : own = []
          · refine et_is (et_and (a := decide ((own.length : Int) > 2)) (b := false) (et_test (ev_op hlen ev_c rv_I0)) (fun z => ?_)) (by simp [hne])
            rw [hne] at z
            simp at z
          · obtain ⟨j, y, oj, j1, j2, j3, j4, j5⟩ := item own (hown hne)
            have hsec : Ev (tOp (rIx K) (tVar 1) (tOp (rIxT K) (tVar 3) (tC (.int 1)))) [some (.ref la), some (.ref b), some (.int (i : Int)), some (.ref ao), none] H1 y := ev_atS (K := K) vi (sq_up e1 hb) (ev_second vo (ex_t e1 hao) j1) j3
            refine et_is (et_and (a := decide ((own.length : Int) > 2)) (b := (!decide (y = V.non)) && !decide (oj = some (own.drop 1))) (et_test (ev_op hlen ev_c rv_I0))
              (fun _ => et_and (et_test (ev_op hsec ev_c fun H3 e3 Q2 q => ⟨rfl, q H3 (Ex.refl H3)⟩)) fun _ => et_test (ev_neTail hsec (Dp.up e1 j4) (eq_tail vo (ex_t e1 hao))))) ?_
            rw [j2, j5]
            have hh : hit t own = decide (oj = some (own.drop 1)) := by unfold hit; rw [j2, j5]
            rw [hh]
            by_cases c2 : 2 < own.length
            · rw [decide_eq_true (show (own.length : Int) > 2 by omega)]
              cases oj with
              | none =>
                rw [dp_od_none j4]
                simp
              | some u =>
                obtain ⟨_, rfl, _⟩ := dp_wd j4
                by_cases c : u = own.drop 1
                · simp [c]
                · simp [c, hne]
            · rw [decide_eq_false (show ¬ (own.length : Int) > 2 by omega)]
              rcases goal_hit hG ht hrw (hown hne) j1 j5 c2 with z | z
              · rw [z]; simp
              · rw [z]; simp
        · rw [if_pos (of_decide_eq_true hb2)] at k'
          exact k' H4 ((e1.trans e3).trans e4)
        · have kk : ∀ (H' : Hp), Ex H H' → Q (.bl (csL t own row)) H' := fun H' e' => by
            have q := k' H' e'
            rw [if_neg (of_decide_eq_false hb2)] at q
            exact q
          clear k' hb2
          have e13 := e1.trans e3
          refine q_forT (K := K) (ev_at (K := K) (ev_var (i := 0) rfl) (st_of (e13 _ _ l1)) (ev_var (i := 2) rfl) hrv) (st_of (e13 _ _ r1)) (fun m σ' H' => Ex H3 H' ∧ (∃ o4, σ' = [some (.ref la), some (.ref b), some (.int (i : Int)), some (.ref ao), o4]) ∧ csL t own row = csL t own (row.drop m)) (fun H4 e4 => ⟨e4, ⟨_, rfl⟩, rfl⟩) (fun m σ' H' _ p => st_of ((e13.trans p.1) _ _ r1)) ?_ ?_
          · rintro m y σ' H5 hy ⟨e5, ⟨o4, rfl⟩, hd⟩
            obtain ⟨u, hu1, hu2⟩ := r2.wds_inv hy
            have hum := List.mem_of_getElem? hu1
            obtain ⟨au, rfl, hau⟩ := wd_ref hu2
            have hdrop := csL_drop (t := t) (own := own) hu1
            obtain ⟨j, yj, oj, j1, j2, j3, j4, j5⟩ := item u hum
            have e15 := e13.trans e5
            have hau5 := e15 _ _ hau
            refine g_name ?_
            change tSeq _ _ _ [some (.ref la), some (.ref b), some (.int (i : Int)), some (.ref ao), some (.ref au)] H5
            refine q_when (b := decide (u = own)) (et_test (ev_eqWy (ev_var rfl) vo (dp_of_wd (st_of hau5)) (dp_of_wd (ex_t e15 hao)))) (fun hb6 H6 e6 => s_ret ev_c fun H7 e7 => ?_) (fun hb6 H6 e6 => ?_)
            · rw [hd, hdrop, if_pos (of_decide_eq_true hb6)] at kk
              exact kk H7 ((e15.trans e6).trans e7)
            · rw [if_neg (of_decide_eq_false hb6)] at hdrop
              have e16 := e15.trans e6
              have vu : Ev (tVar 4) [some (.ref la), some (.ref b), some (.int (i : Int)), some (.ref ao), some (.ref au)] H6 (.ref au) := ev_var rfl
              have hau6 : SqT K H6 au (u.map V.int) := st_of (e6 _ _ hau5)
              have hsec := ev_atS (K := K) vi (sq_up e16 hb) (ev_second vu hau6 j1) j3
              have hh : hit t u = decide (oj = some (u.drop 1)) := by unfold hit; rw [j2, j5]
              rw [hh] at hdrop
              refine s_when (b := decide (oj = some (u.drop 1))) (et_test (ev_eqTail hsec (Dp.up e16 j4) (eq_tail vu hau6))) (fun hb7 H7 e7 => s_ret ev_c fun H8 e8 => ?_) (fun hb7 H7 e7 => ?_)
              · rw [hd, hdrop, if_pos hb7] at kk
                exact kk H8 ((e16.trans e7).trans e8)
              · rw [if_neg (by rw [hb7]; decide)] at hdrop
                exact ⟨(e5.trans e6).trans e7, ⟨_, rfl⟩, by rw [hd, hdrop]⟩
          · rintro σ' H5 ⟨e5, ⟨o4, rfl⟩, hd⟩
            rw [hd, rl, List.drop_length] at kk
            exact s_ret ev_c fun H6 e6 => kk H6 ((e13.trans e5).trans e6)
end
end Wk

set_option Elab.async false
set_option linter.all false
set_option maxRecDepth 100000
set_option maxHeartbeats 4000000
namespace Wk
open PySem PySem.Spec PyProof.Rows L2 Evl
/-! takings that are takings -/
structure FullT (rows : List (List Wy)) (pre : List Wy) : Prop where
  len : pre.length = rows.length
  ok : ∀ (i : Nat) (x : Wy), pre[i]? = some x → x ∈ chW rows i
theorem FullT.pre {rows : List (List Wy)} {pre : List Wy} (h : FullT rows pre) : PreOk rows pre := ⟨by rw [h.len]; exact Nat.le_refl _, h.ok⟩
theorem FullT.ptk {rows : List (List Wy)} {pre : List Wy} (h : FullT rows pre) : ptk rows.length pre = pre.map some := by rw [← h.len]; exact ptk_full
theorem FullT.l8 {rows : List (List Wy)} {pre : List Wy} (h : FullT rows pre) (hG : GW rows) {x : Wy} (hx : x ∈ pre) : x.length ≤ 8 := by
  obtain ⟨i, hi⟩ := List.mem_iff_getElem?.mp hx
  have hc := h.ok i x hi
  have hil := (List.getElem?_eq_some_iff.mp hi).1
  unfold chW at hc
  by_cases c : i = 0
  · rw [if_pos c] at hc
    rw [List.mem_singleton.mp hc]
    simp
  · have hil2 : i < rows.length := by rw [← h.len]; exact hil
    have hr : rows[i]? = some rows[i] := List.getElem?_eq_getElem hil2
    rw [if_neg c, List.getD_eq_getElem?_getD, hr] at hc
    rcases List.mem_append.mp hc with z | z
    · exact (hG.ok i _ hr x z).l8
    · rw [List.mem_singleton.mp z]
      simp
theorem range_true (n : Nat) : ((List.range n).map fun _ => true).all id = true := by simp
section
variable {P : Program} {w : World} {K : PySem.W.Frag} {mg : Str → Option Value} {base : Heap} {f : Addr} {fd : FuncData} {CW CN : Addr}
abbrev spTup1 (K : PySem.W.Frag) : Sp := spP fun H vs z => ∃ (n : Int) (v : V) (ds : List PyData), vs = [.int n, v] ∧ Dp K H v (.tuple ds) ∧ z = .bl (decide (V.int (ds.length : Int) = V.int n))
theorem ok_tup1 (B : Bl mg) (F : FnP K "is_tuple_of" sTupOf f fd) : FnOk P w K mg base CX0 1 f fd ["many", "thing"] (spTup1 K) := by
  refine F.ok scTupOf (fun vs H Q E h => ?_) (fun cdv A outer s H vs Q E hr h => ?_)
  · obtain ⟨z, ⟨n, v, o, rfl, _⟩, _⟩ := h
    rfl
  · obtain ⟨z, ⟨n, v, ds, rfl, hv, rfl⟩, k⟩ := h
    refine ⟨_, pss_one (ps_ret (pe_and (pe_callB call_isi (by rfl) B.isi boot_isinstance (pa_cons (pv 1) (pa_cons (pe_bltn (v := .ty "tuple") (by rfl) B.tuple PyProof.Rows.boot_tuple rfl) pa_nil)))
      (pe_one (pe_cmpR op_eq (pe_callB call_len_seq (by rfl) B.len PySem.boot_len (pa_cons (pv 1) pa_nil)) (pv 0) (nomark _))))), ?_⟩
    refine s_ret (ev_is (ev_andV (a := true) (ep_isi (K := K) (ev_var rfl) hv k_tt) fun _ => ?_) rfl) k
    cases hv with
    | tup h1 h2 =>
      rename_i a xs
      rw [← dpa_len h2]
      exact ev_op (ev_lenT (K := K) (ta := tVar 1) (ev_var rfl) h1) (ev_var (i := 0) rfl) (rv_eq rfl)
theorem FullT.dp {K : PySem.W.Frag} {H : Hp} {v : V} {rows : List (List Wy)} {pre : List Wy} (h : FullT rows pre) (hv : Dp K H v (.tuple (pre.map wd))) : Dp K H v (.tuple ((Wk.ptk rows.length pre).map od)) := by
  rw [h.ptk, od_some]
  exact hv
/-! the law's words of such -/
abbrev spLTaking1 (K : PySem.W.Frag) : Sp := spP fun H vs z => ∃ (lv v : V) (pre : List Wy) (rows : List (List Wy)), vs = [lv, v] ∧ Dq H lv (pd rows) ∧ GW rows ∧ rows.length ≤ 8 ∧ Dp K H v (.tuple (pre.map wd)) ∧ FullT rows pre ∧ z = .bl true
theorem ok_lTaking1 (B : Bl mg) (C : Cal P w K mg base "_law_is_int" ["_law_thing"] 1 spIsInt) (F : FnP K "_law_is_taking" sLTaking f fd) : FnOk P w K mg base CX0 2 f fd ["_law_lists_here", "_law_thing"] (spLTaking1 K) := by
  refine F.ok scLTaking (fun vs H Q E h => ?_) (fun cdv A outer s H vs Q E hr h => ?_)
  · obtain ⟨z, ⟨lv, v, o, rows, rfl, _⟩, _⟩ := h
    rfl
  · obtain ⟨z, ⟨lv, v, pre, rows, rfl, hl, hG, hn8, hv, hf, rfl⟩, k⟩ := h
    have hu : (A.deeper (envOfC "_law_is_taking" (defScope sLTaking) s.heap.objs.size f cdv)).units + 66 < cLine := by have := hr.un; omega
    have hu4 : (A.deeper (envOfC "_law_is_taking" (defScope sLTaking) s.heap.objs.size f cdv)).units + 64 < cLine := by omega
    refine ⟨_, pss_cons (ps_if (PW.pt (pw_or (pt_not (pt_val (pe_callB call_isi (by rfl) B.isi boot_isinstance (pa_cons (pv 1) (pa_cons (pe_bltn (v := .ty "tuple") (by rfl) B.tuple PyProof.Rows.boot_tuple rfl) pa_nil)))))
        (pw_or1 (pt_cmpR op_ne (pe_callB call_len_seq (by rfl) B.len PySem.boot_len (pa_cons (pv 1) pa_nil)) (pe_callB call_len_seq (by rfl) B.len PySem.boot_len (pa_cons (pv 0) pa_nil)) (nomark _))))) (pss_one (ps_ret pe_bl)) pss_nil)
      (pss_cons (ps_for (passes_of rfl) rfl (pi_range1 (by rfl) B.range (pa_cons (pe_callB call_len_seq (by rfl) B.len PySem.boot_len (pa_cons (pv 0) pa_nil)) pa_nil)) (pg_name (i := 2) scLTaking.nd rfl (Or.inl rfl))
        (pss_cons (ps_set (i := 3) scLTaking.nd rfl (Or.inl rfl) (pe_ix ix_tup (pv 1) (pv 2) (fun _ _ => rfl)))
        (pss_cons (ps_if (PW.pt (pw_or (pt_not (pt_val (pe_callB call_isi (by rfl) B.isi boot_isinstance (pa_cons (pv 3) (pa_cons (pe_bltn (v := .ty "tuple") (by rfl) B.tuple PyProof.Rows.boot_tuple rfl) pa_nil)))))
            (pw_or1 (pt_not (pt_val (pe_callB (cr_all rfl) (by rfl) B.all boot_all (pa_cons (pe_lc (own := [("_law_part", 4)]) (g := gName 4) (tt := tYes) rfl scLTaking.nd (pi_tup (pv 3)) (blkOk_by (N := nLTaking) (sc := defScope sLTaking) (by decide +kernel))
              (fun _ _ _ _ _ => pg_name (i := 4) scLTaking.nd rfl (Or.inl rfl)) (fun _ _ _ _ _ => pts_nil) (fun _ _ _ _ _ => pe_cal C hr (by rfl) (pa_cons (pv 4) pa_nil))) pa_nil))))))) (pss_one (ps_ret pe_bl)) pss_nil)
        (pss_one (ps_if (PW.pt (pw_or (PW.pt (pw_and (pt_cmpR op_eq (pv 2) pe_int (nomark _)) (pw_and1 (pt_cmpR (op_neD hu4) (pv 3) (pe_tup (pa_cons pe_int pa_nil)) (nomark _)))))
            (pw_or1 (PW.pt (pw_and (pt_cmpR op_gt (pv 2) pe_int (nomark _)) (pw_and (pt_cmpR (op_neD hu4) (pv 3) (pe_tup pa_nil) (nomark _)) (pw_and1 (pt_cmpR (op_notInU hu) (pv 3) (pe_ix ix_tup (pv 0) (pv 2) (fun _ _ => rfl)) rfl)))))))) (pss_one (ps_ret pe_bl)) pss_nil)))))
      (pss_one (ps_ret pe_bl))), ?_⟩
    have v0 : ∀ {H1 : Hp} {o2 o3 o4 : Option V}, Ev (tVar 0) [some lv, some v, o2, o3, o4] H1 lv := ev_var rfl
    have v1 : ∀ {H1 : Hp} {o2 o3 o4 : Option V}, Ev (tVar 1) [some lv, some v, o2, o3, o4] H1 v := ev_var rfl
    have hv0 := hv
    unfold pd at hl
    cases hl with
    | tup l1 l2 =>
      rename_i la lxs
      have lxl := l2.length
      rw [List.length_map] at lxl
      have hlen0 : ∀ {H1 : Hp} {o2 o3 o4 : Option V}, Ex H H1 → Ev (tCB (rLenS K) (tCons (tVar 0) tNil)) [some (.ref la), some v, o2, o3, o4] H1 (.int (rows.length : Int)) := fun {H1 o2 o3 o4} e => by
        rw [← lxl]
        exact ev_lenT v0 (st_of (e _ _ l1))
      cases hv with
      | tup h1 h2 =>
        rename_i a xs
        have hxl := dpa_len h2
        rw [List.length_map] at hxl
        have hfl := hf.len
        have hlx : Ev (tCB (rLenS K) (tCons (tVar 1) tNil)) [some (.ref la), some (.ref a), none, none, none] H (.int (rows.length : Int)) := by
          rw [← hfl, ← hxl]
          exact ev_lenT (v1 (H1 := H)) h1
        refine q_when (b := !true || !decide (V.int (rows.length : Int) = V.int (rows.length : Int))) (et_or (et_not (et_B (ep_isi (K := K) (v1 (H1 := H)) hv0 k_tt))) fun _ => et_test (ev_op hlx (hlen0 (Ex.refl H)) (rv_ne rfl))) (fun hb H1 e1 => by simp at hb) (fun hb H1 e1 => ?_)
        refine q_forR1 (ea_cons (hlen0 e1) ea_nil) (by omega) (fun i σ' H' => Ex H H' ∧ (∃ o2 o3, σ' = [some (.ref la), some (.ref a), o2, o3, none])) (fun H2 e2 => ⟨e1.trans e2, ⟨_, _, rfl⟩⟩) ?_ ?_
        · rintro i σ' H2 hi ⟨e2, ⟨o2, o3, rfl⟩⟩
          change tSeq _ _ _ [some (.ref la), some (.ref a), some (.int (i : Int)), o3, none] H2
          have hil : i < pre.length := by omega
          have hpi : pre[i]? = some pre[i] := List.getElem?_eq_getElem hil
          obtain ⟨x, hx, hdx⟩ := dpa_at h2 (i := i) (d := wd pre[i]) (by rw [List.getElem?_map, hpi]; rfl)
          have hch := hf.ok i _ hpi
          have hl8 := hf.l8 hG (List.mem_of_getElem? hpi)
          generalize pre[i] = u at *
          refine q_asg (ev_at (K := K) (ev_var (i := 1) rfl) (ex_t e2 h1) (ev_var (i := 2) rfl) hx) fun H3 e3 => ?_
          change tSeq _ _ _ [some (.ref la), some (.ref a), some (.int (i : Int)), some x, none] H3
          have e13 := e2.trans e3
          have v3 : ∀ {H4 : Hp}, Ev (tVar 3) [some (.ref la), some (.ref a), some (.int (i : Int)), some x, none] H4 x := ev_var rfl
          have hdx3 := Dp.up e13 hdx
          refine q_when (b := !true || !true) (et_or (et_not (et_B (ep_isi (K := K) v3 hdx3 k_tt))) fun _ => et_not (et_B ?_)) (fun hb H4 e4 => by simp at hb) (fun hb H4 e4 => ?_)
          · obtain ⟨ax, rfl, hax⟩ := dp_wd hdx3
            have q := ev_allT (K := K) (H := H3) (j := 4) (vs := [4]) (σ := [some (.ref la), some (.ref a), some (.int (i : Int)), some (.ref ax), none]) (tl := tVar 3) (te := tCall spIsInt [] E0 (tCons (tVar 4) tNil)) (fun i => true) (ev_var rfl) hax (by rw [List.length_map]; omega) (fun x => rfl)
              (fun i y H2 e2 hx => by
                rw [List.getElem?_map] at hx
                cases hq : u[i]? with
                | none => rw [hq] at hx; cases hx
                | some n =>
                  rw [hq] at hx
                  have e : y = .int n := (Option.some.inj hx).symm
                  subst e
                  exact ev_call (ea_cons (ev_var rfl) ea_nil) (spP_v fun H3 e5 => ⟨.int n, .int n, rfl, .int n, rfl⟩))
            rw [range_true] at q
            exact q
          · have e14 := e13.trans e4
            have hdu : Dp K H4 x (wd u) := Dp.up e4 hdx3
            have hri : rows[i]? = some rows[i] := List.getElem?_eq_getElem (by omega)
            obtain ⟨rv, hrv, hdr⟩ := l2.at (i := i) (d := rd rows[i]) (by rw [List.getElem?_map, hri]; rfl)
            have hcw : chW rows i = if i = 0 then [[0]] else rows[i] ++ [[]] := by
              unfold chW
              rw [List.getD_eq_getElem?_getD, hri]
              rfl
            generalize rows[i] = row at *
            have hne : ∀ {te : TE} {y : Wy} {H5 : Hp}, Ex H4 H5 → EvU te [some (.ref la), some (.ref a), some (.int (i : Int)), some x, none] H5 (y.map V.int) → Ev (tOp (rNeD K) (tVar 3) te) [some (.ref la), some (.ref a), some (.int (i : Int)), some x, none] H5 (.bl (!decide (u = y))) := fun {te y H5} e hy => by
              rw [← eqv_wd]
              exact ev_opU v3 hy fun p H6 hp e6 => fun H7 e7 Q2 q => ⟨wd u, wd y, Dp.up ((e.trans e6).trans e7) hdu, dp_of_wd (st_of (e7 _ _ hp)), shaped_wd u, shaped_wd y, q H7 (Ex.refl H7)⟩
            refine s_when (b := (decide (V.int (i : Int) = V.int 0) && !decide (u = [0])) || (decide ((i : Int) > 0) && (!decide (u = []) && !decide (u ∈ row)))) (et_or (et_and (et_test (ev_op (ev_var rfl) ev_c (rv_eq rfl))) fun _ => et_test (hne (Ex.refl H4) (eu_tup (ea_cons ev_c ea_nil) (by simp)))) fun _ => et_and (et_test (ev_op (ev_var rfl) ev_c rv_I0)) fun _ => et_and (et_test (hne (Ex.refl H4) (eu_tup ea_nil (by simp)))) fun _ => et_test ?_)
              (fun hb H5 e5 => ?_) (fun hb H5 e5 => ⟨e14.trans e5, ⟨_, _, rfl⟩⟩)
            · rw [← any_wd]
              unfold rd at hdr
              have hdr4 := hdr.mono e14
              exact ev_op v3 (ev_at (K := K) (ev_var (i := 0) rfl) (st_of (e14 _ _ l1)) (ev_var (i := 2) rfl) hrv) fun H7 e7 Q2 q => ⟨wd u, row.map wd, Dp.up e7 hdu, Dq.dp (by simp only [PyData.canLay0]; exact lay_wds row) (hdr4.mono e7), shaped_wd u, lay_wds row, q H7 (Ex.refl H7)⟩
            · exfalso
              rw [hcw] at hch
              by_cases c : i = 0
              · subst c
                simp at hb hch
                exact hb hch
              · rw [if_neg c] at hch
                simp only [Bool.or_eq_true, Bool.and_eq_true, decide_eq_true_eq, Bool.not_eq_true', decide_eq_false_iff_not] at hb
                rcases hb with ⟨z, _⟩ | ⟨_, z1, z2⟩
                · injection z with z; omega
                · rcases List.mem_append.mp hch with y | y
                  · exact z2 y
                  · exact z1 (List.mem_singleton.mp y)
        · rintro σ' H2 ⟨e2, ⟨o2, o3, rfl⟩⟩
          exact s_ret ev_c fun H3 e3 => k H3 (e2.trans e3)
abbrev spLOut1 (K : PySem.W.Frag) : Sp := spP fun H vs z => ∃ (lv v : V) (pre : List Wy) (rows : List (List Wy)), vs = [lv, v] ∧ Dq H lv (pd rows) ∧ GW rows ∧ 2 ≤ rows.length ∧ rows.length ≤ 8 ∧ Dp K H v (.tuple (pre.map wd)) ∧ FullT rows pre ∧ z = .bl (okP rows pre)
theorem okP_ls {rows : List (List Wy)} {pre : List Wy} (hG : GW rows) (hn2 : 2 ≤ rows.length) (hf : FullT rows pre) : okP rows pre = lsB rows (pre.map some) (rows.length - 1) 1 := by
  have ht := hf.pre.tk
  rw [hf.ptk] at ht
  rw [lsB_fcs hG ht (fun x hx => by obtain ⟨y, _, rfl⟩ := List.mem_map.mp hx; simp) _ 1 (Nat.le_refl 1) (by omega)]
  unfold okP
  rw [hf.ptk]
theorem ok_lOut1 (C : Cal P w K mg base "_law_is_taking" ["_law_lists_here", "_law_thing"] 2 (spLTaking1 K)) (C2 : Cal P w K mg base "_law_stays" ["_law_lists_here", "_law_taking"] 2 (spLStays K)) (F : FnP K "_law_is_outcome" sLOut f fd) : FnOk P w K mg base CX0 3 f fd ["_law_lists_here", "_law_thing"] (spLOut1 K) := by
  refine F.ok scLOut (fun vs H Q E h => ?_) (fun cdv A outer s H vs Q E hr h => ?_)
  · obtain ⟨z, ⟨lv, v, o, rows, rfl, _⟩, _⟩ := h
    rfl
  · obtain ⟨z, ⟨lv, v, pre, rows, rfl, hl, hG, hn2, hn8, hv, hf, rfl⟩, k⟩ := h
    refine ⟨_, pss_one (ps_ret (pe_and (pe_cal C hr (by rfl) (pa_cons (pv 0) (pa_cons (pv 1) pa_nil))) (pe_one (pe_cal C2 hr (by rfl) (pa_cons (pv 0) (pa_cons (pv 1) pa_nil)))))), ?_⟩
    refine s_ret (ev_is (ev_andV (a := true) (b := okP rows pre) (ev_call (ea_cons (ev_var rfl) (ea_cons (ev_var rfl) ea_nil)) (spP_v fun H1 e => ⟨lv, v, pre, rows, rfl, hl.mono e, hG, hn8, Dp.up e hv, hf, rfl⟩)) fun hb => ?_) (by simp)) k
    rw [okP_ls hG hn2 hf]
    exact ev_call (ea_cons (ev_var rfl) (ea_cons (ev_var rfl) ea_nil)) (spP_v fun H1 e => ⟨lv, v, rows, pre.map some, rfl, hl.mono e, hG, hn2, hn8, by rw [od_some]; exact Dp.up e hv, by rw [List.length_map]; exact hf.len, rfl⟩)
end
end Wk

set_option Elab.async false
set_option linter.all false
set_option maxRecDepth 100000
set_option maxHeartbeats 4000000
namespace Wk
open PySem PySem.Spec PyProof.Rows L2 Evl
theorem goal_pre {rows : List (List Wy)} (h : 1 ≤ rows.length) : PreOk rows [[0]] := ⟨h, fun i x hx => by
  cases i with
  | zero => simp at hx; subst hx; simp [chW]
  | succ i => simp at hx⟩
theorem goal_nns (n : Nat) : nns (ptk n [[0]]) = n - 1 := by
  unfold nns ptk
  rw [List.filter_append]
  simp
theorem nns_le_len (t : List (Option Wy)) : nns t ≤ t.length := List.length_filter_le _ _
/-! the heads -/
section
variable {rows : List (List Wy)} {g : List (Option Wy) → PyData → Bool} {t : List (Option Wy)}
theorem takeB_ne {rest : List PyData} (h : rest.length ≠ 2) : takeB rows g t rest = false := by
  unfold takeB
  split
  · simp at h
  · rfl
theorem noB_ne {rest : List PyData} (h : rest.length ≠ 1) : noB rows t rest = false := by
  unfold noB
  split
  · simp at h
  · rfl
theorem allB_ne {rest : List PyData} (h : rest.length ≠ 0) : allB rows t rest = false := by
  unfold allB
  rw [decide_eq_false h, Bool.false_and]
theorem hdB_ite (tag : Str) (rest : List PyData) : hdB rows g t (.tuple (.str tag :: rest)) = if tag = "take" then takeB rows g t rest else if tag = "no" then noB rows t rest else decide (tag = "all") && allB rows t rest := rfl
theorem hdB_nil : hdB rows g t (.tuple []) = false := rfl
def stB (d : PyData) (s : Str) : Bool := match d with
  | .str x => decide (x = s)
  | _ => false
theorem hdB_1 (x : PyData) : hdB rows g t (.tuple [x]) = (stB x "all" && (!(t.any fun o => o.isNone) && decide (fcs rows t (rows.length - 1) 1 = none))) := by
  cases x with
  | str tag =>
    rw [hdB_ite, takeB_ne (by simp), noB_ne (by simp)]
    have e : allB rows t [] = (!(t.any fun o => o.isNone) && decide (fcs rows t (rows.length - 1) 1 = none)) := by simp [allB]
    rw [e]
    show _ = (decide (tag = "all") && _)
    by_cases h1 : tag = "take"
    · rw [if_pos h1, h1]
      rfl
    · rw [if_neg h1]
      by_cases h2 : tag = "no"
      · rw [if_pos h2, h2]
        rfl
      · rw [if_neg h2]
  | _ => rfl
theorem hdB_2 (x r : PyData) : hdB rows g t (.tuple [x, r]) = (stB x "no" && noB rows t [r]) := by
  cases x with
  | str tag =>
    rw [hdB_ite, takeB_ne (by simp), allB_ne (by simp), Bool.and_false]
    show _ = (decide (tag = "no") && _)
    by_cases h1 : tag = "take"
    · rw [if_pos h1, h1]
      rfl
    · rw [if_neg h1]
      by_cases h2 : tag = "no"
      · rw [if_pos h2, decide_eq_true h2, Bool.true_and]
      · rw [if_neg h2, decide_eq_false h2, Bool.false_and]
  | _ => rfl
theorem hdB_3 (x r z : PyData) : hdB rows g t (.tuple [x, r, z]) = (stB x "take" && takeB rows g t [r, z]) := by
  cases x with
  | str tag =>
    rw [hdB_ite, noB_ne (by simp), allB_ne (by simp), Bool.and_false]
    show _ = (decide (tag = "take") && _)
    by_cases h1 : tag = "take"
    · rw [if_pos h1, decide_eq_true h1, Bool.true_and]
    · rw [if_neg h1, decide_eq_false h1, Bool.false_and]
      split <;> rfl
  | _ => rfl
theorem hdB_4 (x : PyData) (rest : List PyData) (h : 3 ≤ rest.length) : hdB rows g t (.tuple (x :: rest)) = false := by
  cases x with
  | str tag =>
    rw [hdB_ite, takeB_ne (by omega), noB_ne (by omega), allB_ne (by omega), Bool.and_false]
    split
    · rfl
    · split <;> rfl
  | _ => rfl
theorem eqv_stB (d : PyData) (s : Str) : PyData.eqv d (.str s) = stB d s := by
  cases d with
  | str x =>
    simp only [PyData.eqv, stB]
    first | rfl | exact beq_eq_decide x s | (by_cases h : x = s <;> simp [h])
  | _ => simp [PyData.eqv, stB]
end
theorem full_of {rows : List (List Wy)} {t : List (Option Wy)} (ht : TkO rows t) (h : (t.any fun o => o.isNone) = false) : ∃ pre, t = pre.map some ∧ FullT rows pre ∧ ptk rows.length pre = t := by
  have hs : ∀ {t : List (Option Wy)}, (t.any fun o => o.isNone) = false → ∃ pre : List Wy, t = pre.map some := by
    intro t
    induction t with
    | nil => exact fun _ => ⟨[], rfl⟩
    | cons o t ih =>
      intro h
      rw [List.any_cons, Bool.or_eq_false_iff] at h
      obtain ⟨pre, e⟩ := ih h.2
      cases o with
      | none => cases h.1
      | some x => exact ⟨x :: pre, by rw [e]; rfl⟩
  obtain ⟨pre, rfl⟩ := hs h
  have hl : pre.length = rows.length := by have := ht.len; rwa [List.length_map] at this
  have hf : FullT rows pre := ⟨hl, fun i x hx => ht.ok i x (by rw [List.getElem?_map, hx]; rfl)⟩
  exact ⟨pre, rfl, hf, hf.ptk⟩
section
variable {P : Program} {w : World} {K : PySem.W.Frag} {mg : Str → Option Value} {base : Heap} {f : Addr} {fd : FuncData} {CW CN : Addr}
/-! is_outcome_tree -/
def spIOT (K : PySem.W.Frag) (CW : Addr) : Sp := fun vs H Q _ => ∃ (wv tv : V) (rows : List (List Wy)) (d : PyData), vs = [wv, tv] ∧ WO CW H wv rows ∧ Dq H tv d ∧ ∀ H', Ex H H' → Q (.bl (trB rows 7 (ptk rows.length [[0]]) d)) H'
abbrev sIOT : Stmt := top 22
theorem scIOT : FnScope ["wishes", "thing"] ["wishes", "thing"] (defScope sIOT) := ⟨rfl, rfl, rfl, by decide +kernel, rfl, by decide +kernel, by decide +kernel⟩
theorem ok_iot (CNo : Cal P w K mg base "no_items" ["wishes"] 1 (spNoI K CW)) (CTr : Cal P w K mg base "is_tree" nIsNo 23 (spTreeG K CW 7)) (F : FnP K "is_outcome_tree" sIOT f fd) : FnOk P w K mg base CX0 24 f fd ["wishes", "thing"] (spIOT K CW) := by
  refine F.ok scIOT (fun vs H Q E h => ?_) (fun cdv A outer s H vs Q E hr h => ?_)
  · obtain ⟨wv, tv, rows, d, rfl, _⟩ := h
    rfl
  · obtain ⟨wv, tv, rows, d, rfl, hw, hd, k⟩ := h
    have n2 := hw.n2
    have n8 := hw.n8
    have hr1 : Room 1 (A.deeper (envOfC "is_outcome_tree" (defScope sIOT) s.heap.objs.size f cdv)) := hr.mono (by decide)
    refine ⟨_, pss_one (ps_ret (pe_cal CTr hr (by rfl) (pa_cons (pv 0) (pa_cons (pe_cal CNo hr1 (by rfl) (pa_cons (pv 0) pa_nil)) (pa_cons (pv 1) pa_nil))))), ?_⟩
    refine ⟨wv, rfl, wv, rfl, wv, rows, rfl, hw, fun H1 b xs e1 hb hx => ?_⟩
    exact ⟨tv, rfl, wv, .ref b, tv, rows, ptk rows.length [[0]], d, rfl, hw.up e1, ⟨b, xs, rfl, hb, hx⟩, (goal_pre (by omega)).tk, by rw [goal_nns]; omega, hd.mono e1, fun H2 e2 => k H2 (e1.trans e2)⟩
end
end Wk

set_option Elab.async false
set_option linter.all false
set_option maxRecDepth 100000
set_option maxHeartbeats 4000000
namespace Wk
open PySem PySem.Spec PyProof.Rows L2 Evl
/-- all but D stays -/
def Ob (D : Addr) (H H' : Hp) : Prop := ∀ b o, b ≠ D → H b = some o → H' b = some o
theorem Ob.ex {D : Addr} {H H' : Hp} (e : Ex H H') : Ob D H H' := fun b o _ h => e b o h
theorem Ob.trans {D : Addr} {H H1 H2 : Hp} (a : Ob D H H1) (b : Ob D H1 H2) : Ob D H H2 := fun c o n h => b c o n (a c o n h)
theorem Ob.put {D : Addr} {H : Hp} {o : HO} : Ob D H (upd H D o) := fun b u n h => by rw [upd_ne n]; exact h
theorem Ob.kp {D : Addr} {H H' : Hp} {l : List V} (a : Ob D H H') (h : H D = some (.lst l)) : Kp H H' := fun b o hb k1 k2 => a b o (fun z => by rw [z, h] at hb; injection hb with hb; exact k1 _ hb.symm) hb
theorem Ob.from {D : Addr} {G H H' : Hp} (a : Ob D H H') (e : Ex G H) (n : G D = none) : Ex G H' := fun b o hb => a b o (fun z => by rw [z, n] at hb; cases hb) (e b o hb)
theorem el_cat {K : PySem.W.Frag} {σ : L2.St} {H : Hp} {ta tb : TE} {xs ys : List V} (ha : EvL ta σ H xs) (hb : EvL tb σ H ys) (hz : xs.length + ys.length ≤ 100000) : EvL (tOp rCat ta tb) σ H (xs ++ ys) := fun H1 e Q q =>
  ha H1 e _ fun p H2 np e2 hp => hb H2 (e.trans e2) _ fun r H3 nr e3 hr => ⟨p, r, xs, ys, rfl, rfl, e3 _ _ hp, hr, by rw [sizeLine_eq]; omega, fun t ht => q t _ (fresh_back (e2.trans e3) ht) ((e2.trans e3).trans (Ex.new ht)) upd_same⟩
theorem lay_list (t : List (Option Wy)) (h : t.length ≤ 1000) : SeqAt.shaped (.list (t.map od)) = true := by
  unfold SeqAt.shaped
  have h2 : PyData.depthAll (t.map od) ≤ 1 := depAll.mpr fun d hd => by
    obtain ⟨o, _, rfl⟩ := List.mem_map.mp hd
    cases o with
    | none => simp [od, PyData.depth]
    | some x => simp [od, wd, PyData.depth, depth_ints]
  have : decide ((PyData.list (t.map od)).depth ≤ 64) = true := decide_eq_true (by simp only [PyData.depth]; omega)
  rw [this]
  simp [PyData.canLay0, lay_ods]
theorem sh_all : SeqAt.shaped (.str "all") = true := by decide +kernel
theorem sh_no : SeqAt.shaped (.str "no") = true := by decide +kernel
theorem sh_take : SeqAt.shaped (.str "take") = true := by decide +kernel
/-- data whose heads may be compared, m levels deep -/
def Gt : Nat → PyData → Prop
  | 0, d => ∀ x rest, d = .tuple (x :: rest) → SeqAt.shaped x = true
  | m + 1, d => (∀ x rest, d = .tuple (x :: rest) → SeqAt.shaped x = true) ∧ ∀ x r ds, d = .tuple [x, r, .tuple ds] → ∀ e ∈ ds, Gt m e
theorem Gt.hd {m : Nat} {d : PyData} (h : Gt m d) {x : PyData} {rest : List PyData} (e : d = .tuple (x :: rest)) : SeqAt.shaped x = true := by
  cases m with
  | zero => exact h x rest e
  | succ m => exact h.1 x rest e
/-- routers that a tree may name -/
def gR (n : Int) (r : PyData) : Bool := isI r && (decide (0 < valI r) && decide (valI r < n))
theorem gR_of {n : Nat} {r : PyData} (h : gR (n : Int) r = true) : ∃ j : Nat, r = .int (j : Int) ∧ 1 ≤ j ∧ j < n := by
  unfold gR at h
  obtain ⟨h1, h2⟩ := Bool.and_eq_true_iff.mp h
  obtain ⟨h3, h4⟩ := Bool.and_eq_true_iff.mp h2
  have e := isI_eq h1
  have a := of_decide_eq_true h3
  have b := of_decide_eq_true h4
  refine ⟨(valI r).toNat, ?_, by omega, by omega⟩
  rw [show (((valI r).toNat : Nat) : Int) = valI r by omega]
  exact e
theorem gR_not {n : Nat} {r : PyData} (h : gR (n : Int) r = false) (h2 : isR (n : Int) r = true) : r = .int 0 := by
  obtain ⟨j, rfl, jn⟩ := isR_nat h2
  have : gR (n : Int) (.int (j : Int)) = (decide ((0 : Int) < (j : Int)) && decide ((j : Int) < (n : Int))) := rfl
  rw [this, decide_eq_true (show (j : Int) < (n : Int) by omega), Bool.and_true] at h
  have := of_decide_eq_false h
  rw [show (j : Int) = 0 by omega]
theorem gR_no {rows : List (List Wy)} {t : List (Option Wy)} {r : PyData} (h : gR (rows.length : Int) r = false) : noB rows t [r] = false := by
  show (isR (rows.length : Int) r && (!decide (valI r = 0) && csB rows t (valI r).toNat)) = false
  cases hR : isR (rows.length : Int) r with
  | false => rfl
  | true =>
    have e := gR_not h hR
    subst e
    rfl
theorem gR_take {rows : List (List Wy)} {g : List (Option Wy) → PyData → Bool} {t : List (Option Wy)} {r z : PyData} (h0 : t.getD 0 none ≠ none) (h : gR (rows.length : Int) r = false) : takeB rows g t [r, z] = false := by
  show (isR (rows.length : Int) r && (decide (t.getD (valI r).toNat (some []) = none) && _)) = false
  cases hR : isR (rows.length : Int) r with
  | false => rfl
  | true =>
    have e := gR_not h hR
    subst e
    have : ¬ t.getD (valI (.int 0)).toNat (some []) = none := by
      show ¬ t.getD 0 (some []) = none
      cases t with
      | nil => exact fun z => by cases z
      | cons o t => exact h0
    rw [decide_eq_false this]
    rfl
theorem gR_noB {rows : List (List Wy)} {t : List (Option Wy)} {j : Nat} (h1 : 1 ≤ j) (h2 : j < rows.length) : noB rows t [.int (j : Int)] = csB rows t j := by
  show (isR (rows.length : Int) (.int (j : Int)) && (!decide (valI (.int (j : Int)) = 0) && csB rows t (valI (.int (j : Int))).toNat)) = _
  rw [isR_of h2]
  have : ¬ valI (.int (j : Int)) = 0 := by show ¬ (j : Int) = 0; omega
  rw [decide_eq_false this]
  rfl
theorem gR_takeB {rows : List (List Wy)} {g : List (Option Wy) → PyData → Bool} {t : List (Option Wy)} {j : Nat} {z : PyData} {o : Option Wy} (h2 : j < rows.length) (ho : t[j]? = some o) : takeB rows g t [.int (j : Int), z] = (decide (o = none) && (tgN ((chW rows j).length : Int) (some z) && ((chW rows j).zip (itemsT z)).all fun p => g (t.set j (some p.1)) p.2)) := by
  show (isR (rows.length : Int) (.int (j : Int)) && (decide (t.getD (valI (.int (j : Int))).toNat (some []) = none) && _)) = _
  rw [isR_of h2, Bool.true_and]
  have : t.getD (valI (.int (j : Int))).toNat (some []) = o := by
    show t.getD j (some []) = o
    rw [List.getD_eq_getElem?_getD, ho]
    rfl
  rw [this]
  rfl
section
variable {P : Program} {w : World} {K : PySem.W.Frag} {mg : Str → Option Value} {base : Heap} {f : Addr} {fd : FuncData} {CW CN CT : Addr}
def spWalk (K : PySem.W.Frag) (m : Nat) : Sp := fun vs H Q _ => ∃ (G : Hp) (lv tv : V) (I D : Addr) (xs acc : List V) (rows : List (List Wy)) (t : List (Option Wy)) (d : PyData), vs = [lv, .ref I, tv, .ref D] ∧ Ex G H ∧ G D = none ∧ Dq G lv (pd rows) ∧ GW rows ∧ 2 ≤ rows.length ∧ rows.length ≤ 8 ∧ (∀ row ∈ rows, row.length ≤ 6) ∧ H I = some (.lst xs) ∧ I ≠ D ∧ DpAll K H xs (t.map od) ∧
  TkO rows t ∧ nns t ≤ m ∧ t.getD 0 none ≠ none ∧ Dq G tv d ∧ Gt m d ∧ H D = some (.lst acc) ∧ acc.length + 7 ^ m ≤ 16000000 ∧
  ∀ H' acc', Ob D H H' → H' D = some (.lst acc') → acc'.length ≤ acc.length + 7 ^ m → Q (.bl (trB rows m t d)) H'
abbrev sWalk : Stmt := top 46
abbrev nWalk : List Str := ["_law_lists_here", "_law_items", "_law_tree_here", "_law_found", "_law_router", "_law_choices", "_law_place", "_law_longer"]
theorem scWalk : FnScope nWalk ["_law_lists_here", "_law_items", "_law_tree_here", "_law_found"] (defScope sWalk) := ⟨rfl, rfl, rfl, by decide +kernel, rfl, by decide +kernel, by decide +kernel⟩
theorem ok_walk (m k' : Nat) (sp' : Sp) (hk : k' ≤ m + 3) (CT : Cal P w K mg base "_law_walk" ["_law_lists_here", "_law_items", "_law_tree_here", "_law_found"] k' sp') (hT : ∀ vs H Q E, (∃ m', m = m' + 1 ∧ spWalk K m' vs H Q E) → sp' vs H Q E)
    (B : Bl mg) (CI : Cal P w K mg base "_law_is_int" ["_law_thing"] 1 spIsInt) (CO : Cal P w K mg base "_law_is_outcome" ["_law_lists_here", "_law_thing"] 3 (spLOut1 K)) (CB : Cal P w K mg base "_law_blocked" ["_law_lists_here", "_law_items", "_law_router"] 1 (spBlk K)) (F : FnP K "_law_walk" sWalk f fd) :
    FnOk P w K mg base CX0 (m + 3 + 1) f fd ["_law_lists_here", "_law_items", "_law_tree_here", "_law_found"] (spWalk K m) := by
  refine F.ok scWalk (fun vs H Q E h => ?_) (fun cdv A outer s H vs Q E hr h => ?_)
  · obtain ⟨G, lv, tv, I, D, xs, acc, rows, t, d, rfl, _⟩ := h
    rfl
  · obtain ⟨G, lv, tv, I, D, xs, acc, rows, t, d, rfl, eG, gD, hl, hG, hn2, hn8, h6, hI, hID, hx, ht, hnn, ht0, hd, hgt, hD, hcap, k⟩ := h
    have hu : (A.deeper (envOfC "_law_walk" (defScope sWalk) s.heap.objs.size f cdv)).units + 65 < cLine := by have := hr.un; omega
    have hu4 : (A.deeper (envOfC "_law_walk" (defScope sWalk) s.heap.objs.size f cdv)).units + 64 < cLine := by omega
    have r3 : Room 3 (A.deeper (envOfC "_law_walk" (defScope sWalk) s.heap.objs.size f cdv)) := hr.mono (by omega)
    have rk : Room k' (A.deeper (envOfC "_law_walk" (defScope sWalk) s.heap.objs.size f cdv)) := hr.mono (by omega)
    refine ⟨_, pss_cons (ps_if (PW.pt (pw_or (pt_not (pt_val (pe_callB call_isi (by rfl) B.isi boot_isinstance (pa_cons (pv 2) (pa_cons (pe_bltn (v := .ty "tuple") (by rfl) B.tuple PyProof.Rows.boot_tuple rfl) pa_nil)))))
        (pw_or1 (pt_not (pt_chain op_le op_le pe_int (pe_callB call_len_seq (by rfl) B.len PySem.boot_len (pa_cons (pv 2) pa_nil)) pe_int))))) (pss_one (ps_ret pe_bl)) pss_nil)
      (pss_cons (ps_if (pt_cmpR op_eq (pe_callB call_len_seq (by rfl) B.len PySem.boot_len (pa_cons (pv 2) pa_nil)) pe_int (nomark _))
        (pss_cons (ps_if (PW.pt (pw_or (pt_cmpR (op_neD hu4) (pe_ix ix_tup (pv 2) pe_int (fun _ _ => rfl)) pe_str (nomark _)) (pw_or (pt_cmpR (op_inD hu) pe_non (pv 1) rfl) (pw_or1 (pt_not (pt_val (pe_cal CO r3 (by rfl) (pa_cons (pv 0) (pa_cons (pe_callTy (call_tupleK (K := K) rfl) (by rfl) B.tuple PyProof.Rows.boot_tuple (pa_cons (pv 1) pa_nil)) pa_nil))))))))) (pss_one (ps_ret pe_bl)) pss_nil)
        (pss_cons (ps_expr (pe_bm PySem.F.plainAttrs_list PySem.F.slot_list_append PySem.F.type_list_append mt_append (pv 3) (pa_cons (pe_callTy (call_tupleK (K := K) rfl) (by rfl) B.tuple PyProof.Rows.boot_tuple (pa_cons (pv 1) pa_nil)) pa_nil)))
        (pss_one (ps_ret pe_bl)))) pss_nil)
      (pss_cons (ps_set (i := 4) scWalk.nd rfl (Or.inl rfl) (pe_ix ix_tup (pv 2) pe_int (fun _ _ => rfl)))
      (pss_cons (ps_if (PW.pt (pw_or (pt_not (pt_val (pe_cal CI r3 (by rfl) (pa_cons (pv 4) pa_nil)))) (pw_or1 (pt_not (pt_chain op_lt op_lt pe_int (pv 4) (pe_callB call_len_seq (by rfl) B.len PySem.boot_len (pa_cons (pv 0) pa_nil))))))) (pss_one (ps_ret pe_bl)) pss_nil)
      (pss_cons (ps_if (pt_cmpR op_eq (pe_callB call_len_seq (by rfl) B.len PySem.boot_len (pa_cons (pv 2) pa_nil)) pe_int (nomark _))
        (pss_one (ps_ret (pe_and (pe_cmpR (op_eqD hu4) (pe_ix ix_tup (pv 2) pe_int (fun _ _ => rfl)) pe_str (nomark _)) (pe_and (pe_cmpR op_notN1 (pe_ix ix_list (pv 1) (pv 4) (fun _ _ => rfl)) pe_non (nomark _)) (pe_one (pe_cal CB r3 (by rfl) (pa_cons (pv 0) (pa_cons (pv 1) (pa_cons (pv 4) pa_nil))))))))) pss_nil)
      (pss_cons (ps_set (i := 5) scWalk.nd rfl (Or.inl rfl) (pe_op op_cat (pe_callTy (call_listK2 (K := K) rfl) (by rfl) B.list PyProof.Rows.boot_list (pa_cons (pe_ix ix_tup (pv 0) (pv 4) (fun _ _ => rfl)) pa_nil)) (pe_lst (pa_cons (pe_tup pa_nil) pa_nil))))
      (pss_cons (ps_if (PW.pt (pw_or (pt_cmpR (op_neD hu4) (pe_ix ix_tup (pv 2) pe_int (fun _ _ => rfl)) pe_str (nomark _)) (pw_or1 (pt_cmpR op_notN1 (pe_ix ix_list (pv 1) (pv 4) (fun _ _ => rfl)) pe_non (nomark _))))) (pss_one (ps_ret pe_bl)) pss_nil)
      (pss_cons (ps_if (PW.pt (pw_or (pt_not (pt_val (pe_callB call_isi (by rfl) B.isi boot_isinstance (pa_cons (pe_ix ix_tup (pv 2) pe_int (fun _ _ => rfl)) (pa_cons (pe_bltn (v := .ty "tuple") (by rfl) B.tuple PyProof.Rows.boot_tuple rfl) pa_nil)))))
          (pw_or1 (pt_cmpR op_ne (pe_callB call_len_seq (by rfl) B.len PySem.boot_len (pa_cons (pe_ix ix_tup (pv 2) pe_int (fun _ _ => rfl)) pa_nil)) (pe_callB call_len_seq (by rfl) B.len PySem.boot_len (pa_cons (pv 5) pa_nil)) (nomark _))))) (pss_one (ps_ret pe_bl)) pss_nil)
      (pss_cons (ps_for (passes_of rfl) rfl (pi_range1 (by rfl) B.range (pa_cons (pe_callB call_len_seq (by rfl) B.len PySem.boot_len (pa_cons (pv 5) pa_nil)) pa_nil)) (pg_name (i := 6) scWalk.nd rfl (Or.inl rfl))
        (pss_cons (ps_set (i := 7) scWalk.nd rfl (Or.inl rfl) (pe_op op_cat (pe_op op_cat (pe_slice sl_list (pv 1) po_none (po_some (pv 4))) (pe_lst (pa_cons (pe_ix ix_list (pv 5) (pv 6) (fun _ _ => rfl)) pa_nil))) (pe_slice sl_list (pv 1) (po_some (pe_op op_add (pv 4) pe_int)) po_none)))
        (pss_one (ps_if (pt_not (pt_val (pe_cal CT rk (by rfl) (pa_cons (pv 0) (pa_cons (pv 7) (pa_cons (pe_ix ix_tup (pe_ix ix_tup (pv 2) pe_int (fun _ _ => rfl)) (pv 6) (fun _ _ => rfl)) (pa_cons (pv 3) pa_nil)))) (Nat.le_refl _)))) (pss_one (ps_ret pe_bl)) pss_nil))))
      (pss_one (ps_ret pe_bl)))))))))), ?_⟩
    have hxl : xs.length = rows.length := by
      have := dpa_len hx
      rw [List.length_map, ht.len] at this
      exact this
    have p1 : 1 ≤ 7 ^ m := Nat.pow_pos (by omega)
    have hll : ∃ la lxs, lv = .ref la ∧ G la = some (.tup lxs) ∧ lxs.length = rows.length ∧ DqA G lxs (rows.map rd) := by
      unfold pd at hl
      cases hl with
      | tup z1 z2 =>
        have := z2.length
        rw [List.length_map] at this
        exact ⟨_, _, rfl, z1, this, z2⟩
    have hl0 := hl
    obtain ⟨la, lxs, rfl, l1, lxl, l2⟩ := hll
    have hlen0 : ∀ {H1 : Hp} {o1 o2 o3 o4 o5 o6 o7 : Option V}, Ex H H1 → Ev (tCB (rLenS K) (tCons (tVar 0) tNil)) [some (.ref la), o1, o2, o3, o4, o5, o6, o7] H1 (.int (rows.length : Int)) := fun {H1 o1 o2 o3 o4 o5 o6 o7} e => by
      rw [← lxl]
      exact ev_lenT (ev_var rfl) (st_of (e _ _ (eG _ _ l1)))
    have k1 : ∀ H', Ex H H' → Q (.bl (trB rows m t d)) H' := fun H' e => k H' acc (Ob.ex e) (e _ _ hD) (Nat.le_add_right _ _)
    rw [trB_hd] at k k1
    by_cases hT' : isTu d = true
    · obtain ⟨ta, ts, ds, rfl, rfl, s1, s2⟩ := dq_tup hd hT'
      have v2 : ∀ {H1 : Hp} {o4 o5 o6 o7 : Option V}, Ev (tVar 2) [some (.ref la), some (.ref I), some (.ref ta), some (.ref D), o4, o5, o6, o7] H1 (.ref ta) := ev_var rfl
      have hdl := s2.length
      have hln : ∀ {H1 : Hp} {o4 o5 o6 o7 : Option V}, Ex H H1 → Ev (tCB (rLenS K) (tCons (tVar 2) tNil)) [some (.ref la), some (.ref I), some (.ref ta), some (.ref D), o4, o5, o6, o7] H1 (.int (ts.length : Int)) := fun {H1 o4 o5 o6 o7} e => ev_lenT (K := K) v2 (st_of (e _ _ (eG _ _ s1)))
      refine q_when (b := !true || !(decide ((1 : Int) ≤ (ts.length : Int)) && decide ((ts.length : Int) ≤ 3))) (et_or (et_not (et_B (ev_isi v2 (hd.mono eG) (kit_tup _)))) fun _ => et_not (et_test (ev_chain ev_c (hln (Ex.refl H)) ev_c rv_I0 rv_I0))) (fun hb H1 e1 => s_ret ev_c fun H2 e2 => ?_) (fun hb H1 e1 => ?_)
      · have en : hdB rows (prevB rows m) t (.tuple ds) = false := by
          cases ds with
          | nil => rfl
          | cons x rest =>
            refine hdB_4 x rest ?_
            simp at hb
            rw [List.length_cons] at hdl
            omega
        rw [en] at k1
        exact k1 H2 (e1.trans e2)
      have hb13 : 1 ≤ ts.length ∧ ts.length ≤ 3 := by simp at hb; omega
      clear hb
      cases s2 with
      | nil => simp at hb13
      | cons q1 q2 =>
        rename_i x0 ts x rest
        have hsx : SeqAt.shaped x = true := hgt.hd rfl
        have t0 : ∀ {H1 : Hp} {o4 o5 o6 o7 : Option V}, Ex H H1 → Ev (tOp (rIxT K) (tVar 2) (tC (.int 0))) [some (.ref la), some (.ref I), some (.ref ta), some (.ref D), o4, o5, o6, o7] H1 x0 := fun {H1 o4 o5 o6 o7} e => ev_at (K := K) (j := 0) v2 (st_of (e _ _ (eG _ _ s1))) (ev_is ev_c rfl) rfl
        have dx : ∀ {H1 : Hp}, Ex H H1 → Dp K H1 x0 x := fun {H1} e => Dq.dp (SeqAt.canLay_of_shaped hsx) (q1.mono (eG.trans e))
        have neS : ∀ {z : Str} (hz : SeqAt.shaped (.str z) = true) {H1 : Hp} {o4 o5 o6 o7 : Option V}, Ex H H1 → Ev (tOp (rNeD K) (tOp (rIxT K) (tVar 2) (tC (.int 0))) (tC (.str z))) [some (.ref la), some (.ref I), some (.ref ta), some (.ref D), o4, o5, o6, o7] H1 (.bl (!stB x z)) := fun {z} hz {H1 o4 o5 o6 o7} e => ev_op (t0 e) ev_c fun H2 e2 Q2 q => ⟨x, .str z, dx (e.trans e2), .str z, hsx, hz, by rw [eqv_stB]; exact q H2 (Ex.refl _)⟩
        have eqS : ∀ {z : Str} (hz : SeqAt.shaped (.str z) = true) {H1 : Hp} {o4 o5 o6 o7 : Option V}, Ex H H1 → Ev (tOp (rEqD K) (tOp (rIxT K) (tVar 2) (tC (.int 0))) (tC (.str z))) [some (.ref la), some (.ref I), some (.ref ta), some (.ref D), o4, o5, o6, o7] H1 (.bl (stB x z)) := fun {z} hz {H1 o4 o5 o6 o7} e => ev_op (t0 e) ev_c fun H2 e2 Q2 q => ⟨x, .str z, dx (e.trans e2), .str z, hsx, hz, by rw [eqv_stB]; exact q H2 (Ex.refl _)⟩
        cases q2 with
        | nil =>
          rw [hdB_1] at k k1
          refine q_when (b := decide (V.int (([x0].length : Nat) : Int) = V.int 1)) (et_test (ev_op (hln e1) ev_c (rv_eq rfl))) (fun _ H2 e2 => ?_) (fun hb => by simp at hb)
          have e02 := e1.trans e2
          refine q_when (b := !stB x "all" || ((t.any fun o => o.isNone) || !decide (fcs rows t (rows.length - 1) 1 = none))) (et_or (et_test (neS sh_all e02)) fun _ => et_or (et_test (ev_op ev_c (ev_var (i := 1) rfl) fun H3 e3 Q2 q => ⟨.none, t.map od, .non, .lst (sq_of ((e02.trans e3) _ _ hI)) (DpAll.up (e02.trans e3) hx), shaped_none, lay_list _ (by rw [ht.len]; omega), by rw [any_nones]; exact q H3 (Ex.refl _)⟩)) fun hz =>
            et_not (et_B fun H3 e3 Q2 q => by
              obtain ⟨pre, rfl, hfull, hpt⟩ := full_of ht hz
              have hok : okP rows pre = decide (fcs rows (pre.map some) (rows.length - 1) 1 = none) := by unfold okP; rw [hpt]
              refine ⟨.ref la, rfl, .ref I, rfl, I, xs, rfl, .inl ⟨sq_of ((e02.trans e3) _ _ hI), fun v hv => ⟨_, ⟨.ref la, .ref v, pre, rows, rfl, hl0.mono (eG.trans ((e02.trans e3).trans (Ex.new hv))), hG, hn2, hn8, .tup (st_of upd_same) ?_, hfull, rfl⟩, fun H4 e4 => ?_⟩⟩⟩
              · have z := DpAll.up ((e02.trans e3).trans (Ex.new (o := .tup xs) hv)) hx
                rw [od_some] at z
                exact z
              · rw [hok]
                exact q H4 ((Ex.new hv).trans e4))) (fun hb H3 e3 => s_ret ev_c fun H4 e4 => ?_) (fun hb H3 e3 => ?_)
          · have en : (stB x "all" && (!(t.any fun o => o.isNone) && decide (fcs rows t (rows.length - 1) 1 = none))) = false := by
              generalize (t.any fun o => o.isNone) = an at *
              generalize decide (fcs rows t (rows.length - 1) 1 = none) = bn at *
              generalize stB x "all" = cn at *
              cases an <;> cases bn <;> cases cn <;> simp_all
            rw [en] at k1
            exact k1 H4 ((e02.trans e3).trans e4)
          · have en : (stB x "all" && (!(t.any fun o => o.isNone) && decide (fcs rows t (rows.length - 1) 1 = none))) = true := by
              generalize (t.any fun o => o.isNone) = an at *
              generalize decide (fcs rows t (rows.length - 1) 1 = none) = bn at *
              generalize stB x "all" = cn at *
              cases an <;> cases bn <;> cases cn <;> simp_all
            rw [en] at k
            have e03 := e02.trans e3
            change tSeq _ _ _ [some (.ref la), some (.ref I), some (.ref ta), some (.ref D), none, none, none, none] H3
            refine ⟨.ref D, rfl, .inl ⟨rfl, _, sq_of (e03 _ _ hD)⟩, .ref I, rfl, I, xs, rfl, .inl ⟨sq_of (e03 _ _ hI), fun v hv => ?_⟩⟩
            have e4 := Ex.new (o := .tup xs) hv
            refine ⟨D, acc, .ref v, rfl, rfl, e4 _ _ (e03 _ _ hD), by rw [sizeLine_eq]; omega, ?_⟩
            have e04 := e03.trans e4
            dsimp only
            refine s_ret ev_c fun H5 e5 => ?_
            have ob : Ob D H H5 := ((Ob.ex e04).trans (Ob.put (o := .lst (acc ++ [.ref v])))).trans (Ob.ex e5)
            exact k H5 (acc ++ [.ref v]) ob (e5 _ _ upd_same) (by rw [List.length_append]; show _ + 1 ≤ _; omega)
        | cons q3 q4 =>
          rename_i rv ts r rest
          have hne1 : ¬ V.int (((x0 :: rv :: ts).length : Nat) : Int) = V.int 1 := fun z => by
            injection z with z
            rw [List.length_cons, List.length_cons] at z
            omega
          refine q_when (b := decide (V.int (((x0 :: rv :: ts).length : Nat) : Int) = V.int 1)) (et_test (ev_op (hln e1) ev_c (rv_eq rfl))) (fun hb => absurd (of_decide_eq_true hb) hne1) (fun _ H2 e2 => ?_)
          have e02 := e1.trans e2
          refine q_asg (v := rv) (ev_at (K := K) (j := 1) v2 (st_of (e02 _ _ (eG _ _ s1))) (ev_is ev_c rfl) rfl) fun H3 e3 => ?_
          have e03 := e02.trans e3
          change tSeq _ _ _ [some (.ref la), some (.ref I), some (.ref ta), some (.ref D), some rv, none, none, none] H3
          refine q_when (b := !isI r || !(decide ((0 : Int) < valI r) && decide (valI r < (rows.length : Int)))) (et_or (et_not (et_B (ev_call (ea_cons (ev_var (i := 4) rfl) ea_nil) (spP_v fun H4 e4 => ⟨rv, r, rfl, q3.mono (eG.trans (e03.trans e4)), rfl⟩)))) fun hz => ?_) (fun hb H4 e4 => s_ret ev_c fun H5 e5 => ?_) (fun hb H4 e4 => ?_)
          · have e := isI_eq (d := r) (by simpa using hz)
            rw [e] at q3
            cases q3
            exact et_not (et_test (ev_chain ev_c (ev_var (i := 4) rfl) (hlen0 e03) rv_I0 rv_I0))
          · have hg0 : gR (rows.length : Int) r = false := by
              unfold gR
              generalize isI r = an at *
              generalize (decide (0 < valI r) && decide (valI r < (rows.length : Int))) = bn at *
              cases an <;> cases bn <;> simp_all
            have en : hdB rows (prevB rows m) t (.tuple (x :: r :: rest)) = false := by
              match rest with
              | [] => rw [hdB_2, gR_no hg0, Bool.and_false]
              | [z] => rw [hdB_3, gR_take ht0 hg0, Bool.and_false]
              | _ :: _ :: _ => exact hdB_4 _ _ (by simp)
            rw [en] at k1
            exact k1 H5 ((e03.trans e4).trans e5)
          have hg0 : gR (rows.length : Int) r = true := by
            unfold gR
            generalize isI r = an at *
            generalize (decide (0 < valI r) && decide (valI r < (rows.length : Int))) = bn at *
            cases an <;> cases bn <;> simp_all
          clear hb
          obtain ⟨j, rfl, j1, jn⟩ := gR_of hg0
          cases q3
          have e04 := e03.trans e4
          have hjl : j < t.length := by rw [ht.len]; exact jn
          have htj : t[j]? = some t[j] := List.getElem?_eq_getElem hjl
          obtain ⟨y, hy1, hy2⟩ := dpa_at hx (i := j) (d := od t[j]) (by rw [List.getElem?_map, htj]; rfl)
          generalize t[j] = o at *
          have hyn : decide (y = V.non) = decide (o = none) := by
            cases o with
            | none => rw [dp_od_none hy2]; rfl
            | some u =>
              obtain ⟨_, rfl, _⟩ := dp_wd hy2
              rfl
          cases q4 with
          | nil =>
            rw [hdB_2, gR_noB j1 jn] at k1
            refine q_when (b := decide (V.int (([x0, V.int (j : Int)].length : Nat) : Int) = V.int 2)) (et_test (ev_op (hln e04) ev_c (rv_eq rfl))) (fun _ H5 e5 => ?_) (fun hb => by simp at hb)
            have e05 := e04.trans e5
            have hcn : csB rows t j = (!decide (y = V.non) && csB rows t j) := by
              rw [hyn]
              cases o with
              | none =>
                unfold csB
                rw [List.getD_eq_getElem?_getD, htj]
                rfl
              | some u => rfl
            rw [hcn] at k1
            refine s_ret (ev_andV (a := stB x "no") (b := !decide (y = V.non) && csB rows t j) (eqS sh_no e05) fun _ => ev_andV (ev_op (ev_op (ev_var (i := 1) rfl) (ev_var (i := 4) rfl) (rv_ixL (sq_of (e05 _ _ hI)) (atI_nat hy1))) ev_c fun H6 e6 Q2 q => ⟨rfl, q H6 (Ex.refl _)⟩) fun hy => ?_) fun H6 e6 => k1 H6 (e05.trans e6)
            rw [hyn] at hy
            cases o with
            | none => cases hy
            | some own =>
              exact ev_call (ea_cons (ev_var (i := 0) rfl) (ea_cons (ev_var (i := 1) rfl) (ea_cons (ev_var (i := 4) rfl) ea_nil))) (spP_v fun H6 e6 => ⟨.ref la, .ref I, j, rows, _, own, rfl, hl0.mono (eG.trans (e05.trans e6)), hG, ⟨I, xs, rfl, .inl (sq_of ((e05.trans e6) _ _ hI)), DpAll.up (e05.trans e6) hx⟩, ht, j1, jn, by rw [List.getD_eq_getElem?_getD, htj]; rfl, rfl⟩)
          | @cons zv ts z rest q5 q6 =>
            have hne2 : ¬ V.int (((x0 :: V.int (j : Int) :: zv :: ts).length : Nat) : Int) = V.int 2 := fun z => by
              injection z with z
              rw [List.length_cons, List.length_cons, List.length_cons] at z
              omega
            refine q_when (b := decide (V.int (((x0 :: V.int (j : Int) :: zv :: ts).length : Nat) : Int) = V.int 2)) (et_test (ev_op (hln e04) ev_c (rv_eq rfl))) (fun hb => absurd (of_decide_eq_true hb) hne2) (fun _ H5 e5 => ?_)
            have e05 := e04.trans e5
            cases q6 with
            | cons _ _ => exact absurd hb13.2 (by simp)
            | nil =>
            rw [hdB_3, gR_takeB jn htj] at k k1
            have hrw : rows[j]? = some rows[j] := List.getElem?_eq_getElem jn
            have hcw : chW rows j = rows[j] ++ [[]] := by
              unfold chW
              rw [if_neg (by omega), List.getD_eq_getElem?_getD, hrw]
              rfl
            have hr6 := h6 _ (List.getElem_mem jn)
            obtain ⟨wv, hrv, hdr⟩ := l2.at (i := j) (d := rd rows[j]) (by rw [List.getElem?_map, hrw]; rfl)
            have hpx : ∀ u, u ∈ chW rows j → TkO rows (t.set j (some u)) := fun u hu => tko_set ht hu
            generalize hcg : chW rows j = cw at *
            generalize rows[j] = row at *
            unfold rd at hdr
            cases hdr with
            | tup z1 z2 =>
            rename_i ra rws
            have rl := z2.length
            rw [List.length_map] at rl
            have ez1 : ∀ {H1 : Hp}, Ex H H1 → H1 ra = some (.tup rws) := fun {H1} e => e _ _ (eG _ _ z1)
            refine ⟨.ref la, rfl, .int (j : Int), rfl, la, lxs, _, _, rfl, rfl, st_of (e05 _ _ (eG _ _ l1)), atI_nat hrv, ra, rws, rfl, .inr (st_of (ez1 e05)), fun c1 hc1 => ⟨by show 0 ≤ sizeLine; decide, fun e0 he0 => ⟨by show 1 ≤ sizeLine; decide, fun c2 hc2 => ?_⟩⟩⟩
            have f1 := Ex.new (o := .lst rws) hc1
            have f2 := Ex.new (o := .tup ([] : List V)) he0
            have f3 := Ex.new (o := .lst [V.ref e0]) hc2
            refine ⟨c1, c2, rws, [.ref e0], rfl, rfl, f3 _ _ (f2 _ _ upd_same), upd_same, by rw [sizeLine_eq]; show rws.length + 1 ≤ _; omega, fun c3 hc3 => ?_⟩
            have f4 := Ex.new (o := .lst (rws ++ [V.ref e0])) hc3
            have e06 := e05.trans (((f1.trans f2).trans f3).trans f4)
            have hC : (upd (upd (upd (upd H5 c1 (.lst rws)) e0 (.tup [])) c2 (.lst [.ref e0])) c3 (.lst (rws ++ [.ref e0]))) c3 = some (.lst (rws ++ [.ref e0])) := upd_same
            have hE0 := (f3.trans f4) _ _ (show (upd (upd H5 c1 (.lst rws)) e0 (.tup [])) e0 = some (.tup []) from upd_same)
            have hgC : H c3 = none := fresh_back (e05.trans ((f1.trans f2).trans f3)) hc3
            generalize upd (upd (upd (upd H5 c1 (.lst rws)) e0 (.tup [])) c2 (.lst [.ref e0])) c3 (.lst (rws ++ [.ref e0])) = H6 at *
            have hcd : DpAll K H6 (rws ++ [V.ref e0]) (cw.map wd) := by
              rw [hcw, List.map_append]
              exact dpa_app (DqA.dp (lay_wds row) (z2.mono (eG.trans e06))) (.cons (dp_of_wd (w := []) (st_of hE0)) .nil)
            have hcdl := dpa_len hcd
            rw [List.length_map] at hcdl
            generalize rws ++ [V.ref e0] = cv at *
            have hcwl : cw.length ≤ 7 := by
              rw [hcw, List.length_append]
              show _ + 1 ≤ _
              omega
            refine g_name ?_
            dsimp only
            change tSeq _ _ _ [some (.ref la), some (.ref I), some (.ref ta), some (.ref D), some (.int (j : Int)), some (.ref c3), none, none] H6
            have nCD : c3 ≠ D := fun z => by rw [z, hD] at hgC; cases hgC
            refine q_when (b := !stB x "take" || !decide (y = V.non)) (et_or (et_test (neS sh_take e06)) fun _ => et_test (ev_op (ev_op (ev_var (i := 1) rfl) (ev_var (i := 4) rfl) (rv_ixL (sq_of (e06 _ _ hI)) (atI_nat hy1))) ev_c fun H7 e7 Q2 q => ⟨rfl, q H7 (Ex.refl _)⟩)) (fun hb H7 e7 => s_ret ev_c fun H8 e8 => ?_) (fun hb H7 e7 => ?_)
            · rw [hyn] at hb
              have en : ∀ b : Bool, (stB x "take" && (decide (o = none) && b)) = false := fun b => by
                generalize stB x "take" = cn at *
                generalize decide (o = none) = an at *
                cases an <;> cases cn <;> simp_all
              rw [en] at k1
              exact k1 H8 ((e06.trans e7).trans e8)
            rw [hyn] at hb
            have hbs : stB x "take" = true ∧ decide (o = none) = true := by
              generalize stB x "take" = cn at *
              generalize decide (o = none) = an at *
              cases an <;> cases cn <;> simp_all
            have ho : o = none := of_decide_eq_true hbs.2
            subst ho
            rw [hbs.1, Bool.true_and, decide_eq_true rfl, Bool.true_and] at k k1
            have e07 := e06.trans e7
            have t2 : ∀ {H1 : Hp} {o4 o5 o6 o7 : Option V}, SqT K H1 ta [x0, V.int (j : Int), zv] → Ev (tOp (rIxT K) (tVar 2) (tC (.int 2))) [some (.ref la), some (.ref I), some (.ref ta), some (.ref D), o4, o5, o6, o7] H1 zv := fun {H1 o4 o5 o6 o7} e => ev_at (K := K) (j := 2) v2 e (ev_is ev_c rfl) rfl
            have hlc : ∀ {H1 : Hp} {o6 o7 : Option V}, H1 c3 = some (.lst cv) → Ev (tCB (rLenS K) (tCons (tVar 5) tNil)) [some (.ref la), some (.ref I), some (.ref ta), some (.ref D), some (.int (j : Int)), some (.ref c3), o6, o7] H1 (.int (cv.length : Int)) := fun {H1 o6 o7} h => ev_len (ev_var (i := 5) rfl) (sq_of h)
            have es1 : ∀ {H1 : Hp}, Ex H H1 → SqT K H1 ta [x0, V.int (j : Int), zv] := fun {H1} e => st_of (e _ _ (eG _ _ s1))
            refine q_when (b := !isTu z || !decide (V.int ((itemsT z).length : Int) = V.int (cv.length : Int))) (et_or (et_not (et_B (ev_isi (t2 (es1 e07)) (q5.mono (eG.trans e07)) (kit_tup _)))) fun hz => ?_) (fun hb2 H8 e8 => s_ret ev_c fun H9 e9 => ?_) (fun hb2 H8 e8 => ?_)
            · obtain ⟨ca, cs, ds2, rfl, rfl, c1', c2'⟩ := dq_tup q5 (by simpa using hz)
              have hcl := c2'.length
              exact et_is (et_test (ev_op (ev_lenT (K := K) (t2 (es1 e07)) (st_of (e07 _ _ (eG _ _ c1')))) (hlc (e7 _ _ hC)) (rv_ne rfl))) (by rw [hcl]; rfl)
            · have en : tgN (cw.length : Int) (some z) = false := by
                show (isTu z && decide (V.int ((itemsT z).length : Int) = V.int (cw.length : Int))) = false
                rw [← hcdl]
                generalize isTu z = cn at *
                generalize decide (V.int ((itemsT z).length : Int) = V.int (cv.length : Int)) = an at *
                cases an <;> cases cn <;> simp_all
              rw [en, Bool.false_and] at k1
              exact k1 H9 ((e07.trans e8).trans e9)
            have hzz : isTu z = true ∧ decide (V.int ((itemsT z).length : Int) = V.int (cv.length : Int)) = true := by
              generalize isTu z = cn at *
              generalize decide (V.int ((itemsT z).length : Int) = V.int (cv.length : Int)) = an at *
              cases an <;> cases cn <;> simp_all
            obtain ⟨ca, cs, ds2, rfl, rfl, c1', c2'⟩ := dq_tup q5 hzz.1
            have en : tgN (cw.length : Int) (some (.tuple ds2)) = true := by
              show (isTu (.tuple ds2) && decide (V.int ((itemsT (.tuple ds2)).length : Int) = V.int (cw.length : Int))) = true
              rw [← hcdl, hzz.2]
              rfl
            rw [en, Bool.true_and] at k k1
            have hdsl : ds2.length = cw.length := by
              have := of_decide_eq_true hzz.2
              injection this with this
              have e : (itemsT (.tuple ds2)).length = ds2.length := rfl
              omega
            have hcl := c2'.length
            have hm0 : 0 < m := by have := nns_pos htj; omega
            obtain ⟨m', rfl⟩ : ∃ m', m = m' + 1 := ⟨m - 1, by omega⟩
            have e08 := e07.trans e8
            have e68 := e7.trans e8
            have hpw : 7 ^ (m' + 1) = 7 * 7 ^ m' := by rw [Nat.pow_succ, Nat.mul_comm]
            have hgc := hgt.2 x _ ds2 rfl
            have k' : ∀ H' acc', Ob D H H' → H' D = some (.lst acc') → acc'.length ≤ acc.length + 7 ^ (m' + 1) → Q (.bl ((cw.zip ds2).all fun p => trB rows m' (t.set j (some p.1)) p.2)) H' := k
            rw [hpw] at k' hcap
            clear k k1
            generalize hpp : 7 ^ m' = pp at *
            have hup : ∀ i, i < cw.length → (i + 1) * pp ≤ 7 * pp := fun i hi => Nat.mul_le_mul_right _ (by omega)
            refine q_forR1 (ea_cons (hlc (e68 _ _ hC)) ea_nil) (by omega) (fun i σ' H' => Ob D H8 H' ∧ ∃ (o6 o7 : Option V) (acc' : List V), σ' = [some (.ref la), some (.ref I), some (.ref ta), some (.ref D), some (.int (j : Int)), some (.ref c3), o6, o7] ∧ H' D = some (.lst acc') ∧ acc'.length ≤ acc.length + i * pp ∧ ((cw.zip ds2).take i).all (fun p => trB rows m' (t.set j (some p.1)) p.2) = true)
              (fun H9 e9 => ⟨Ob.ex e9, _, _, acc, rfl, (e08.trans e9) _ _ hD, by omega, by simp⟩) ?_ ?_
            · rintro i σ' H9 hi ⟨ob9, o6, o7, acc9, rfl, hD9, hal9, hall⟩
              have ob09 : Ob D H H9 := (Ob.ex e08).trans ob9
              have kp09 := ob09.kp hD
              have ob69 : Ob D H6 H9 := (Ob.ex e68).trans ob9
              have kp69 := ob69.kp (e06 _ _ hD)
              change tSeq _ _ _ [some (.ref la), some (.ref I), some (.ref ta), some (.ref D), some (.int (j : Int)), some (.ref c3), some (.int (i : Int)), o7] H9
              have hic : i < cv.length := by omega
              have hcvi : cv[i]? = some cv[i] := List.getElem?_eq_getElem hic
              obtain ⟨u, hu1, hu2⟩ := dpa_get hcd hcvi
              have hum := List.mem_of_getElem? hu1
              generalize cv[i] = cvi at *
              have hI9 := ob09 _ _ hID hI
              have hC9 := ob69 _ _ nCD hC
              refine q_asgL (xs := xs.take j ++ [cvi] ++ xs.drop (j + 1)) ?_ fun Lg H10 gLg e10 hLg => ?_
              · have g1 := el_sl (K := K) (te := tVar 1) (σ := [some (.ref la), some (.ref I), some (.ref ta), some (.ref D), some (.int (j : Int)), some (.ref c3), some (.int (i : Int)), o7]) (H := H9) (ev_var rfl) eo_none (eo_some (te := tVar 4) (i := (j : Int)) (ev_var rfl)) (sq_of hI9)
                have g3 := el_sl (K := K) (te := tVar 1) (σ := [some (.ref la), some (.ref I), some (.ref ta), some (.ref D), some (.int (j : Int)), some (.ref c3), some (.int (i : Int)), o7]) (H := H9) (ev_var rfl) (eo_some (te := tOp (rI0 fun i j => .int (i + j)) (tVar 4) (tC (.int 1))) (i := (j : Int) + 1) (ev_op (ev_var rfl) ev_c rv_I0)) eo_none (sq_of hI9)
                rw [cut_to _ _ (by omega)] at g1
                rw [show (j : Int) + 1 = ((j + 1 : Nat) : Int) by omega, cut_from _ _ (by omega)] at g3
                have g2 := el_lst (ta := tCons (tOp (rIxL K) (tVar 5) (tVar 6)) tNil) (vs := [cvi]) (σ := [some (.ref la), some (.ref I), some (.ref ta), some (.ref D), some (.int (j : Int)), some (.ref c3), some (.int (i : Int)), o7]) (H := H9) (ea_cons (ev_op (ev_var (i := 5) rfl) (ev_var (i := 6) rfl) (rv_ixL (sq_of hC9) (atI_nat hcvi))) ea_nil) (by simp)
                exact el_cat (K := K) (el_cat (K := K) g1 g2 (by simp; omega)) g3 (by simp; omega)
              have nLD : Lg ≠ D := fun z => by rw [z, hD9] at gLg; cases gLg
              have ob010 : Ob D H H10 := ob09.trans (Ob.ex e10)
              have kp010 := ob010.kp hD
              have kp610 : Kp H6 H10 := kp69.trans (.ex e10)
              have eG10 : Ex G H10 := ob010.from eG gD
              change tIfS _ _ _ _ [some (.ref la), some (.ref I), some (.ref ta), some (.ref D), some (.int (j : Int)), some (.ref c3), some (.int (i : Int)), some (.ref Lg)] H10
              have hcsi : cs[i]? = some cs[i] := List.getElem?_eq_getElem (by omega)
              obtain ⟨dd, hd1, hd2⟩ := c2'.get hcsi
              generalize cs[i] = ty at *
              have hxn : DpAll K H10 (xs.take j ++ [cvi] ++ xs.drop (j + 1)) ((t.set j (some u)).map od) := by
                have h1 := dpa_set (kp610.odK (o := some u) hu2) j (kp010.odsK hx)
                rw [← List.map_set, List.set_eq_take_append_cons_drop, if_pos (by omega)] at h1
                rw [List.append_assoc]
                exact h1
              have hzip : (cw.zip ds2)[i]? = some (u, dd) := by rw [List.getElem?_zip_eq_some]; exact ⟨hu1, hd1⟩
              have hicw : i < cw.length := by omega
              have hupi := hup i hicw
              rw [Nat.add_mul, Nat.one_mul] at hupi
              have ht0' : (t.set j (some u)).getD 0 none ≠ none := by
                rw [List.getD_eq_getElem?_getD, List.getElem?_set_ne (by omega), ← List.getD_eq_getElem?_getD]
                exact ht0
              refine ⟨.ref la, rfl, .ref Lg, rfl, .ref ta, rfl, ta, _, 2, .ref ca, rfl, rfl, st_of (eG10 _ _ s1), rfl, .int (i : Int), rfl, ca, cs, (i : Int), ty, rfl, rfl, st_of (eG10 _ _ c1'), atI_nat hcsi, .ref D, rfl, ?_⟩
              refine hT _ _ _ _ ⟨m', rfl, G, .ref la, ty, Lg, D, _, acc9, rows, t.set j (some u), dd, rfl, eG10, gD, hl0, hG, hn2, hn8, h6, hLg, nLD, hxn, hpx u hum, by have := nns_set (x := u) htj; omega, ht0', hd2, hgc dd (List.mem_of_getElem? hd1), e10 _ _ hD9, by omega, fun H11 acc11 ob11 hD11 hal11 => ?_⟩
              rw [hpp] at hal11
              refine ⟨trB rows m' (t.set j (some u)) dd, rfl, ?_⟩
              have ob811 : Ob D H8 H11 := ob9.trans ((Ob.ex e10).trans ob11)
              change (if (!trB rows m' (t.set j (some u)) dd) = true then _ else _)
              cases hbb : trB rows m' (t.set j (some u)) dd with
              | false =>
                rw [if_pos (by decide)]
                refine s_ret ev_c fun H12 e12 => ?_
                have z := k' H12 acc11 (((Ob.ex e08).trans ob811).trans (Ob.ex e12)) (e12 _ _ hD11) (by omega)
                rw [all_not (g := fun p => trB rows m' (t.set j (some p.1)) p.2) hzip hbb] at z
                exact z
              | true =>
                rw [if_neg (by decide)]
                refine ⟨ob811, _, _, acc11, rfl, hD11, by rw [Nat.add_mul, Nat.one_mul]; omega, all_take hzip hbb hall⟩
            · rintro σ' H9 ⟨ob9, o6, o7, acc9, rfl, hD9, hal9, hall⟩
              refine s_ret ev_c fun H10 e10 => ?_
              rw [show ((cv.length : Int)).toNat = cv.length by omega, List.take_of_length_le (by simp [List.length_zip]; omega)] at hall
              rw [hall] at k'
              have h7 : cv.length * pp ≤ 7 * pp := Nat.mul_le_mul_right _ (by omega)
              rw [show ((cv.length : Int)).toNat = cv.length by omega] at hal9
              exact k' H10 acc9 (((Ob.ex e08).trans ob9).trans (Ob.ex e10)) (e10 _ _ hD9) (by omega)
    · have hF : isTu d = false := by simpa using hT'
      rw [hdB_noT hF] at k1
      refine q_when (b := !false || true) (et_or (a := !false) (b := true) (et_not (et_B (ev_is (ev_isi (ev_var (i := 2) rfl) (hd.mono eG) (kit_tup _)) (by rw [hF])))) fun z => by cases z) (fun hb2 H1 e1 => s_ret ev_c fun H2 e2 => k1 H2 (e1.trans e2)) (fun hb2 => by simp at hb2)
theorem walk_all (B : Bl mg) (CI : Cal P w K mg base "_law_is_int" ["_law_thing"] 1 spIsInt) (CO : Cal P w K mg base "_law_is_outcome" ["_law_lists_here", "_law_thing"] 3 (spLOut1 K)) (CB : Cal P w K mg base "_law_blocked" ["_law_lists_here", "_law_items", "_law_router"] 1 (spBlk K)) (F : FnP K "_law_walk" sWalk f fd) (hg : mg "_law_walk" = some (.ref f)) :
    ∀ m, FnOk P w K mg base CX0 (m + 3 + 1) f fd ["_law_lists_here", "_law_items", "_law_tree_here", "_law_found"] (spWalk K m)
  | 0 => ok_walk 0 0 (fun _ _ _ _ => False) (by omega) ⟨⟨f, fd, ⟨fun _ _ _ _ h => h.elim, fun _ _ _ _ _ _ _ _ _ _ _ _ _ h => h.elim⟩, hg, F.kp, F.bindsN fun _ _ _ _ _ _ us hl => match us, hl with | [_, _, _, _], _ => rfl⟩⟩ (fun _ _ _ _ ⟨m', e, _⟩ => by omega) B CI CO CB F
  | m + 1 => ok_walk (m + 1) (m + 3 + 1) (spWalk K m) (by omega) ⟨⟨f, fd, walk_all B CI CO CB F hg m, hg, F.kp, F.bindsN fun _ _ _ _ _ _ us hl => match us, hl with | [_, _, _, _], _ => rfl⟩⟩ (fun vs H Q E ⟨m', e, h⟩ => by
      have e2 : m' = m := by omega
      subst e2
      exact h) B CI CO CB F
end
end Wk

set_option Elab.async false
set_option linter.all false
set_option maxRecDepth 100000
set_option maxHeartbeats 4000000
namespace Wk
open PySem PySem.Spec PyProof.Rows L2 Evl
/-- how wishes are made -/
structure Mkr (P : Program) (w : World) (K : PySem.W.Frag) (mg : Str → Option Value) (base : Heap) (CW CB : Addr) : Prop where
  tx : WTx K mg CW
  ex : ∃ (fI : Addr) (fd : FuncData), Mk K CW fI ∧ FnOk P w K mg base (L2.CX P w) 8 fI fd ["self", "lists"] (spWI CW CB) ∧ Binds K fd ["self", "lists"] []
theorem t_make0 {CW CB : Addr} {σ : L2.St} {H : Hp} {ta : TE} {v : V} {rows : List (List Wy)} {Q : VK} {W : L2.St → XK} (ha : Ev ta σ H v) (hv : Dq H v (pd rows)) (hG : GW rows) (h2 : 2 ≤ rows.length) (h8 : rows.length ≤ 8) (h6 : ∀ row ∈ rows, row.length ≤ 6)
    (k : ∀ H' x, Ex H H' → WO CW H' (.ref x) rows → Q (.ref x) H') : tMkAt CW (spWI CW CB) W (tCons ta tNil) σ H Q := ha H (Ex.refl H) _ fun H1 e1 => fun x dx nx ndx nex => by
  have hdue := due_pd hG h2 h8 h6
  have hl : (itemsT (pd rows)).length = rows.length := by simp [pd, itemsT]
  refine ⟨H1, x, dx, v, pd rows, rfl, upd_same, fun b o hb => ?_, nx, hv.mono e1, fun _ H2 e2 hx => ⟨rfl, ?_⟩, fun r hr => ?_⟩
  · rw [upd_ne (ne_of_none hb nx), upd_ne (ne_of_none hb ndx)]
    exact hb
  · rw [hl] at hx
    exact k H2 x (e1.trans e2) ⟨⟨x, dx, v, rfl, hx, hv.mono (e1.trans e2)⟩, hG, h2, h8, h6⟩
  · rw [hdue] at hr
    cases hr
/-- [(0,)] + [None] * n, as data -/
theorem items_goal {K : PySem.W.Frag} {H : Hp} {z : Addr} (n : Nat) (h : H z = some (.tup [.int 0])) : DpAll K H ([V.ref z] ++ List.replicate (n - 1) V.non) ((ptk n [[0]]).map od) :=
  .cons (dp_of_wd (w := [0]) (st_of h)) (dpa_non _)
theorem q_asgO {te : TE} {tz : TS} {D : Ends} {σ : L2.St} {H : Hp} {i : Nat} (h : te σ H fun x H1 => tz D (σ.set i (some x)) H1) : tSeq (tAsg te (gName i)) tz D σ H := h
theorem t_items {K : PySem.W.Frag} {σ : L2.St} {H : Hp} {tl : TE} {n : Nat} {Q : VK} (hl : ∀ H1, Ex H H1 → Ev tl σ H1 (.int (n : Int))) (h2 : 2 ≤ n) (h8 : n ≤ 8)
    (k : ∀ H' I xs, Ex H H' → H I = none → H' I = some (.lst xs) → DpAll K H' xs ((ptk n [[0]]).map od) → Q (.ref I) H') :
    tOp rCat (tLst (tCons (tTup (tCons (tC (.int 0)) tNil)) tNil)) (tOp rRep (tLst (tCons (tC .non) tNil)) (tOp (rI0 fun i j => .int (i - j)) tl (tC (.int 1)))) σ H Q := by
  refine ⟨by show 1 ≤ sizeLine; decide, fun z hz => ⟨by show 1 ≤ sizeLine; decide, fun i1 hi1 => ⟨by show 1 ≤ sizeLine; decide, fun i2 hi2 => ?_⟩⟩⟩
  have f1 := Ex.new (o := .tup [V.int 0]) hz
  have f2 := Ex.new (o := .lst [V.ref z]) hi1
  have f3 := Ex.new (o := .lst [V.non]) hi2
  have hz3 := (f2.trans f3) _ _ (show (upd H z (.tup [.int 0])) z = some (.tup [.int 0]) from upd_same)
  have h13 := f3 _ _ (show (upd (upd H z (.tup [.int 0])) i1 (.lst [.ref z])) i1 = some (.lst [.ref z]) from upd_same)
  have h23 : (upd (upd (upd H z (.tup [.int 0])) i1 (.lst [.ref z])) i2 (.lst [.non])) i2 = some (.lst [.non]) := upd_same
  have f13 := (f1.trans f2).trans f3
  generalize upd (upd (upd H z (.tup [.int 0])) i1 (.lst [.ref z])) i2 (.lst [.non]) = H10 at *
  refine (ev_op (r := rI0 fun i j => .int (i - j)) (tb := tC (.int 1)) (y := .int 1) (z := .int ((n : Int) - 1)) (hl H10 f13) ev_c rv_I0) H10 (Ex.refl _) _ fun H11 e11 => ?_
  refine ⟨i2, (n : Int) - 1, [V.non], rfl, rfl, e11 _ _ h23, by omega, by omega, by rw [sizeLine_eq]; simp; omega, fun i3 hi3 => ?_⟩
  rw [flat_rep, show ((n : Int) - 1).toNat = n - 1 by omega]
  have f4 := Ex.new (o := .lst (List.replicate (n - 1) V.non)) hi3
  refine ⟨i1, i3, [.ref z], List.replicate (n - 1) V.non, rfl, rfl, f4 _ _ (e11 _ _ h13), upd_same, by rw [sizeLine_eq]; simp; omega, fun I hI => ?_⟩
  have f5 := Ex.new (o := .lst ([V.ref z] ++ List.replicate (n - 1) V.non)) hI
  exact k _ I _ (f13.trans ((e11.trans f4).trans f5)) (fresh_back (f13.trans (e11.trans f4)) hI) upd_same (items_goal n (((e11.trans f4).trans f5) _ _ hz3))
theorem k_bb : kitB "bool" "bool" = some true := by decide +kernel
theorem t_walkd {sp : Sp} {E : XK} {ti : TE} {σ : L2.St} {H : Hp} {lv : V} {Q : VK} (h0 : σ[0]? = some (some lv)) (h : ti σ H fun I H1 => ∃ t, σ[1]? = some (some t) ∧ (0 ≤ sizeLine ∧ ∀ D, H1 D = none → sp [lv, I, t, .ref D] (upd H1 D (.lst [])) Q E)) :
    tCall sp [] E (tCons (tVar 0) (tCons ti (tCons (tVar 1) (tCons (tLst tNil) tNil)))) σ H Q := ⟨lv, h0, h⟩
section
variable {P : Program} {w : World} {K : PySem.W.Frag} {mg : Str → Option Value} {base : Heap} {f : Addr} {fd : FuncData} {CW CN CB CT : Addr}
def spAsked : Sp := fun vs H Q _ => ∃ (lv tv : V) (rows : List (List Wy)) (d : PyData), vs = [lv, tv] ∧ Dq H lv (pd rows) ∧ GW rows ∧ 2 ≤ rows.length ∧ rows.length ≤ 8 ∧ (∀ row ∈ rows, row.length ≤ 6) ∧ Dq H tv d ∧ Gt 7 d ∧ ∀ H', Q (.bl true) H'
abbrev sAsked : Stmt := top 51
abbrev nAsked : List Str := ["_law_lists_here", "_law_tree_here", "_law_wishes", "_law_due", "_law_count", "_law_told"]
theorem scAsked : FnScope nAsked ["_law_lists_here", "_law_tree_here"] (defScope sAsked) := ⟨rfl, rfl, rfl, by decide +kernel, rfl, by decide +kernel, by decide +kernel⟩
theorem ok_asked (B : Bl mg) (M : Mkr P w K mg base CW CB) (CWk : Cal P w K mg base "_law_walk" ["_law_lists_here", "_law_items", "_law_tree_here", "_law_found"] 11 (spWalk K 7)) (CI : Cal P w K mg base "is_outcome_tree" ["wishes", "thing"] 24 (spIOT K CW)) (F : FnP K "_law_asked" sAsked f fd) : FnOk P w K mg base CX0 25 f fd ["_law_lists_here", "_law_tree_here"] spAsked := by
  obtain ⟨fI, fdI, mk, FI, bI⟩ := M.ex
  refine F.ok scAsked (fun vs H Q E h => ?_) (fun cdv A outer s H vs Q E hr h => ?_)
  · obtain ⟨lv, tv, rows, d, rfl, _⟩ := h
    rfl
  · obtain ⟨lv, tv, rows, d, rfl, hl, hG, hn2, hn8, h6, hd, hgt, k⟩ := h
    have r9 : Room 9 (A.deeper (envOfC "_law_asked" (defScope sAsked) s.heap.objs.size f cdv)) := hr.mono (by decide)
    have r11 : Room 11 (A.deeper (envOfC "_law_asked" (defScope sAsked) s.heap.objs.size f cdv)) := hr.mono (by decide)
    refine ⟨_, pss_cons (ps_set (i := 2) scAsked.nd rfl (Or.inl rfl) (pe_mkAt mk FI r9 (by rfl) M.tx.g bI (fun σ => passAt takes0 σ) (pa_cons (pv 0) pa_nil)))
      (pss_cons (ps_set (i := 3) scAsked.nd rfl (Or.inl rfl) (pe_cal CWk r11 (by rfl) (pa_cons (pv 0) (pa_cons (pe_op op_cat (pe_lst (pa_cons (pe_tup (pa_cons pe_int pa_nil)) pa_nil)) (pe_op op_rep (pe_lst (pa_cons pe_non pa_nil)) (pe_op op_sub (pe_callB call_len_seq (by rfl) B.len PySem.boot_len (pa_cons (pv 0) pa_nil)) pe_int))) (pa_cons (pv 1) (pa_cons (pe_lst pa_nil) pa_nil))))))
      (pss_cons (ps_for (passes_of rfl) rfl (pi_range1 (by rfl) B.range (pa_cons pe_int pa_nil)) (pg_name (i := 4) scAsked.nd rfl (Or.inl rfl))
        (pss_cons (ps_set (i := 5) scAsked.nd rfl (Or.inl rfl) (pe_cal CI hr (by rfl) (pa_cons (pv 2) (pa_cons (pv 1) pa_nil))))
        (pss_one (ps_if (PW.pt (pw_or (pt_not (pt_val (pe_callB call_isi (by rfl) B.isi boot_isinstance (pa_cons (pv 5) (pa_cons (pe_bltn (v := .ty "bool") (by rfl) B.bool PyProof.Rows.boot_bool rfl) pa_nil))))) (pw_or1 (pt_cmpR op_ne (pv 5) (pv 3) (nomark _))))) (pss_one (ps_ret pe_bl)) pss_nil))))
      (pss_one (ps_ret pe_bl)))), ?_⟩
    refine q_asgO (t_make0 (ev_var (i := 0) rfl) hl hG hn2 hn8 h6 fun H1 x e1 hW => ?_)
    change tSeq _ _ _ [some lv, some tv, some (.ref x), none, none, none] H1
    have hll : ∃ la lxs, lv = .ref la ∧ H la = some (.tup lxs) ∧ lxs.length = rows.length := by
      have hl' := hl
      unfold pd at hl'
      cases hl' with
      | tup z1 z2 =>
        have := z2.length
        rw [List.length_map] at this
        exact ⟨_, _, rfl, z1, this⟩
    obtain ⟨la, lxs, rfl, l1, lxl⟩ := hll
    refine q_asgO (t_walkd rfl ?_)
    refine t_items (K := K) (n := rows.length) (fun H2 e2 => by
      rw [← lxl]
      exact ev_lenT (K := K) (ev_var (i := 0) rfl) (st_of (e2 _ _ (e1 _ _ l1)))) hn2 hn8 fun H2 I xs e2 gI hI hx => ⟨tv, rfl, by show 0 ≤ sizeLine; decide, fun D hD => ?_⟩
    have e3 := Ex.new (o := .lst ([] : List V)) hD
    have e02 := e1.trans e2
    have nID : I ≠ D := fun z => by rw [← z, hI] at hD; cases hD
    have tg : (ptk rows.length [[0]]).getD 0 none ≠ none := by
      rw [ptk_getD]
      simp
    refine ⟨H, .ref la, tv, I, D, xs, [], rows, _, d, rfl, e02.trans e3, fresh_back e02 hD, hl, hG, hn2, hn8, h6, e3 _ _ hI, nID, DpAll.up e3 hx, (goal_pre (by omega)).tk, by rw [goal_nns]; omega, tg, hd, hgt, upd_same, by decide, fun H4 acc ob hD4 _ => ?_⟩
    have eH4 : Ex H H4 := ob.from (e02.trans e3) (fresh_back e02 hD)
    have kp := ob.kp (l := []) upd_same
    have hW4 : WO CW H4 (.ref x) rows := (hW.up (e2.trans e3)).kp kp
    generalize hbb : trB rows 7 (ptk rows.length [[0]]) d = b at *
    change tSeq _ _ _ [some (.ref la), some tv, some (.ref x), some (.bl b), none, none] H4
    refine q_forR1 (ea_cons ev_c ea_nil) (by omega) (fun i σ' H' => Ex H4 H' ∧ ∃ o4 o5, σ' = [some (.ref la), some tv, some (.ref x), some (.bl b), o4, o5]) (fun H5 e5 => ⟨e5, _, _, rfl⟩) ?_ ?_
    · rintro i σ' H5 hi ⟨e5, o4, o5, rfl⟩
      change tSeq _ _ _ [some (.ref la), some tv, some (.ref x), some (.bl b), some (.int (i : Int)), o5] H5
      refine q_asgO ?_
      refine ⟨.ref x, rfl, tv, rfl, .ref x, tv, rows, d, rfl, hW4.up e5, hd.mono (eH4.trans e5), fun H6 e6 => ?_⟩
      rw [hbb]
      change tIfS _ _ _ _ [some (.ref la), some tv, some (.ref x), some (.bl b), some (.int (i : Int)), some (.bl b)] H6
      refine s_when (b := !true || !decide (V.bl b = V.bl b)) (et_or (et_not (et_B (ev_isi (ev_var (i := 5) rfl) (.bl b) k_bb))) fun _ => et_test (ev_op (ev_var (i := 5) rfl) (ev_var (i := 3) rfl) (rv_ne rfl))) (fun hb => by simp at hb) (fun _ H7 e7 => ⟨(e5.trans e6).trans e7, _, _, rfl⟩)
    · rintro σ' H5 ⟨e5, o4, o5, rfl⟩
      exact s_ret ev_c fun H6 e6 => k H6
end
end Wk

set_option Elab.async false
set_option linter.all false
set_option maxRecDepth 100000
set_option maxHeartbeats 4000000
namespace Wk
open PySem PySem.Spec PyProof.Rows L2 Evl
theorem eu_tupL {K : PySem.W.Frag} {σ : L2.St} {H : Hp} {ta : TE} {a : Addr} {xs : List V} (h : Ev ta σ H (.ref a)) (ha : H a = some (.lst xs)) :
    EvU (tCB (fun xs H Q => ∃ p ys, xs = [.ref p] ∧ ((SqL K H p ys ∧ ∀ l, H l = none → Q (.ref l) (upd H l (.tup ys))) ∨ (SqT K H p ys ∧ Q (.ref p) H))) (tCons ta tNil)) σ H xs := fun H1 e Q q =>
  h H1 e _ fun H2 e2 => ⟨a, xs, rfl, .inl ⟨sq_of ((e.trans e2) _ _ ha), fun l hl => q l _ (fresh_back e2 hl) (e2.trans (Ex.new hl)) upd_same⟩⟩
theorem Pl.more {G H H1 : Hp} {p q a : Addr} {o : HO} (h : Pl G H p q) (ha : H a = none) (e : Ex H H1) (h1 : H1 a = some o) : Pl (upd G a o) H1 p q := (h.ext e).hold h1 (h.np ha) (h.nq ha)
theorem if_and {a : Bool} {t u : TT} {tu tw : TS} {D : Ends} {σ : L2.St} {H : Hp} (h1 : EvT t σ H a) (hF : a = false → ∀ H1, Ex H H1 → tw D σ H1) (hT : a = true → ∀ H1, Ex H H1 → tIfS u tu tw D σ H1) : tIfS (tAnd t u) tu tw D σ H :=
  h1 H (Ex.refl _) _ fun H1 e1 => by
    cases a with
    | true => exact hT rfl H1 e1
    | false => exact hF rfl H1 e1
/-! straight lists -/
def stR (r : Nat) (os : List Nat) : List Wy := [(r : Int), 0] :: os.map fun (o : Nat) => [(r : Int), (o : Int), 0]
/-- the others of a router -/
structure StOs (r k : Nat) (os : List Nat) : Prop where
  rg : ∀ o ∈ os, 1 ≤ o ∧ o < k ∧ o ≠ r
  nd : os.Nodup
  l5 : os.length ≤ 5
structure StL (L : List (List Wy)) : Prop where
  z : L[0]? = some []
  at_ : ∀ (i : Nat) (row : List Wy), 1 ≤ i → L[i]? = some row → ∃ os, row = stR i os ∧ StOs i 8 os
theorem StOs.nil (r k : Nat) : StOs r k [] := ⟨fun o h => (by cases h), List.nodup_nil, by simp⟩
theorem StOs.up {r k : Nat} {os : List Nat} (h : StOs r k os) : StOs r (k + 1) os := ⟨fun o ho => by obtain ⟨a, b, c⟩ := h.rg o ho; exact ⟨a, by omega, c⟩, h.nd, h.l5⟩
theorem StOs.put {r k : Nat} {os : List Nat} (h : StOs r k os) (h1 : 1 ≤ k) (hr : k ≠ r) (h4 : os.length < 5) : StOs r (k + 1) (os ++ [k]) := by
  refine ⟨fun o ho => ?_, ?_, by rw [List.length_append]; show _ + 1 ≤ _; omega⟩
  · rcases List.mem_append.mp ho with z | z
    · obtain ⟨a, b, c⟩ := h.rg o z
      exact ⟨a, by omega, c⟩
    · rw [List.mem_singleton.mp z]
      exact ⟨h1, by omega, hr⟩
  · rw [List.nodup_append]
    refine ⟨h.nd, by simp, fun x hx y hy e => ?_⟩
    rw [List.mem_singleton.mp hy] at e
    obtain ⟨_, b, _⟩ := h.rg x hx
    omega
theorem stR_put (r : Nat) (os : List Nat) (k : Nat) : stR r (os ++ [k]) = stR r os ++ [[(r : Int), (k : Int), 0]] := by
  unfold stR
  rw [List.map_append]
  rfl
theorem stR_len (r : Nat) (os : List Nat) : (stR r os).length = os.length + 1 := by
  unfold stR
  rw [List.length_cons, List.length_map]
theorem StL.put {L : List (List Wy)} (h : StL L) {os : List Nat} (ho : StOs L.length 8 os) : StL (L ++ [stR L.length os]) := by
  refine ⟨?_, fun i row h1 hr => ?_⟩
  · have := (List.getElem?_eq_some_iff.mp h.z).1
    rw [List.getElem?_append_left this]
    exact h.z
  · by_cases c : i < L.length
    · rw [List.getElem?_append_left c] at hr
      exact h.at_ i row h1 hr
    · have hl := (List.getElem?_eq_some_iff.mp hr).1
      rw [List.length_append] at hl
      have e : i = L.length := by
        have : i < L.length + 1 := hl
        omega
      subst e
      rw [List.getElem?_append_right (Nat.le_refl _), Nat.sub_self] at hr
      have e2 : stR L.length os = row := by simpa using hr
      exact ⟨os, e2.symm, ho⟩
theorem StL.gw {L : List (List Wy)} (h : StL L) (hl : L.length = 8) : GW L := by
  have hrow : ∀ (i : Nat), 1 ≤ i → i < 8 → ∃ os, L[i]? = some (stR i os) ∧ StOs i 8 os := fun i h1 h8 => by
    have e : L[i]? = some L[i] := List.getElem?_eq_getElem (by omega)
    obtain ⟨os, e2, ho⟩ := h.at_ i _ h1 e
    exact ⟨os, by rw [e, e2], ho⟩
  refine ⟨fun row hr => ?_, fun i row hr => ?_, fun i row hr w hw => ?_, fun i row hr w hw => ?_⟩
  · rw [h.z] at hr
    exact (Option.some.inj hr).symm
  all_goals by_cases c : i = 0
  · subst c
    rw [h.z] at hr
    rw [← Option.some.inj hr]
    exact List.nodup_nil
  · obtain ⟨os, rfl, ho⟩ := h.at_ i row (by omega) hr
    unfold stR
    rw [List.nodup_cons]
    constructor
    · intro z
      obtain ⟨o, _, e⟩ := List.mem_map.mp z
      have := congrArg List.length e
      simp at this
    · unfold List.Nodup
      rw [List.pairwise_map]
      refine List.Pairwise.imp (fun {a b} hab e => ?_) ho.nd
      simp at e
      omega
  · subst c
    rw [h.z] at hr
    rw [← Option.some.inj hr] at hw
    cases hw
  · have hi8 : i < 8 := by have := (List.getElem?_eq_some_iff.mp hr).1; omega
    obtain ⟨os, rfl, ho⟩ := h.at_ i row (by omega) hr
    unfold stR at hw
    rcases List.mem_cons.mp hw with rfl | z
    · refine ⟨by simp, by simp, rfl, rfl, ?_, fun x hx => ?_⟩
      · simp
        omega
      · simp at hx
        rcases hx with rfl | rfl <;> constructor <;> omega
    · obtain ⟨o, hm, rfl⟩ := List.mem_map.mp z
      obtain ⟨a, b, c2⟩ := ho.rg o hm
      refine ⟨by simp, by simp, rfl, rfl, ?_, fun x hx => ?_⟩
      · simp
        omega
      · simp at hx
        rcases hx with rfl | rfl | rfl <;> constructor <;> omega
  · subst c
    rw [h.z] at hr
    rw [← Option.some.inj hr] at hw
    cases hw
  · obtain ⟨os, rfl, ho⟩ := h.at_ i row (by omega) hr
    unfold stR at hw
    rcases List.mem_cons.mp hw with rfl | z
    · exact .inl rfl
    · obtain ⟨o, hm, rfl⟩ := List.mem_map.mp z
      obtain ⟨a, b, c2⟩ := ho.rg o hm
      obtain ⟨os', e, _⟩ := hrow o a b
      exact .inr ⟨o, _, rfl, e, by unfold stR; exact List.mem_cons_self⟩
theorem StL.l6 {L : List (List Wy)} (h : StL L) : ∀ row ∈ L, row.length ≤ 6 := fun row hr => by
  obtain ⟨i, hi⟩ := List.mem_iff_getElem?.mp hr
  by_cases c : i = 0
  · subst c
    rw [h.z] at hi
    rw [← Option.some.inj hi]
    simp
  · obtain ⟨os, rfl, ho⟩ := h.at_ i row (by omega) hi
    rw [stR_len]
    have := ho.l5
    omega
theorem DqA.put {G : Hp} {vs : List V} {ds : List PyData} (h : DqA G vs ds) {v : V} {d : PyData} (hv : Dq G v d) : DqA G (vs ++ [v]) (ds ++ [d]) := by
  induction vs generalizing ds with
  | nil =>
    cases h
    exact .cons hv .nil
  | cons x vs ih =>
    cases h with
    | cons a b => exact .cons a (ih b)
section
variable {P : Program} {w : World} {K : PySem.W.Frag} {mg : Str → Option Value} {base : Heap} {f : Addr} {fd : FuncData}
/-! _law_straight -/
def spStraight : Sp := fun vs H Q _ => ∃ (G : Hp) (p q : Addr), vs = [.ref p] ∧ Pl G H p q ∧ ∀ G' H' lv rows, Ex G G' → Pl G' H' p q → Dq G' lv (pd rows) → rows.length = 8 → GW rows → (∀ row ∈ rows, row.length ≤ 6) → (∀ i row, 1 ≤ i → rows[i]? = some row → row ≠ []) → Q lv H'
abbrev sStraight : Stmt := top 49
abbrev nStraight : List Str := ["_law_pool_here", "_law_lists_here", "_law_router", "_law_row", "_law_other"]
theorem scStraight : FnScope nStraight ["_law_pool_here"] (defScope sStraight) := ⟨rfl, rfl, rfl, by decide +kernel, rfl, by decide +kernel, by decide +kernel⟩
theorem ok_straight (B : Bl mg) (C : Cal P w K mg base "_law_draw" ["_law_pool_here", "_law_size"] 1 spDraw) (F : FnP K "_law_straight" sStraight f fd) : FnOk P w K mg base CX0 2 f fd ["_law_pool_here"] spStraight := by
  refine F.ok scStraight (fun vs H Q E h => ?_) (fun cdv A outer s H vs Q E hr h => ?_)
  · obtain ⟨G, p, q, rfl, _⟩ := h
    rfl
  · obtain ⟨G, p, q, rfl, hP, k⟩ := h
    refine ⟨_, pss_cons (ps_set (i := 1) scStraight.nd rfl (Or.inl rfl) (pe_lst (pa_cons (pe_tup pa_nil) pa_nil)))
      (pss_cons (ps_for (passes_of rfl) rfl (pi_range2 (by rfl) B.range (pa_cons pe_int (pa_cons pe_int pa_nil))) (pg_name (i := 2) scStraight.nd rfl (Or.inl rfl))
        (pss_cons (ps_set (i := 3) scStraight.nd rfl (Or.inl rfl) (pe_lst (pa_cons (pe_tup (pa_cons (pv 2) (pa_cons pe_int pa_nil))) pa_nil)))
        (pss_cons (ps_for (passes_of rfl) rfl (pi_range2 (by rfl) B.range (pa_cons pe_int (pa_cons pe_int pa_nil))) (pg_name (i := 4) scStraight.nd rfl (Or.inl rfl))
          (pss_one (ps_if (PW.pt (pw_and (pt_cmpR op_ne (pv 4) (pv 2) (nomark _)) (pw_and (pt_cmpR op_lt (pe_callB call_len_seq (by rfl) B.len PySem.boot_len (pa_cons (pv 3) pa_nil)) pe_int (nomark _)) (pw_and1 (pt_cmpR op_gt (pe_cal C hr (by rfl) (pa_cons (pv 0) (pa_cons pe_int pa_nil))) pe_int (nomark _))))))
            (pss_one (ps_expr (pe_bm PySem.F.plainAttrs_list PySem.F.slot_list_append PySem.F.type_list_append mt_append (pv 3) (pa_cons (pe_tup (pa_cons (pv 2) (pa_cons (pv 4) (pa_cons pe_int pa_nil)))) pa_nil)))) pss_nil)))
        (pss_one (ps_expr (pe_bm PySem.F.plainAttrs_list PySem.F.slot_list_append PySem.F.type_list_append mt_append (pv 1) (pa_cons (pe_callTy (call_tupleK (K := K) rfl) (by rfl) B.tuple PyProof.Rows.boot_tuple (pa_cons (pv 3) pa_nil)) pa_nil)))))))
      (pss_one (ps_ret (pe_callTy (call_tupleK (K := K) rfl) (by rfl) B.tuple PyProof.Rows.boot_tuple (pa_cons (pv 1) pa_nil))))), ?_⟩
    refine ⟨by show 0 ≤ sizeLine; decide, fun e0 he0 => ⟨by show 1 ≤ sizeLine; decide, fun A hA => ?_⟩⟩
    have hP1 := hP.new (o := .tup []) he0
    have eG1 : Ex G (upd G e0 (.tup [])) := Ex.new (fresh_back hP.ex he0)
    have hE : Dq (upd G e0 (.tup [])) (.ref e0) (rd []) := .tup upd_same .nil
    generalize upd G e0 (.tup []) = G1 at *
    generalize upd H e0 (.tup []) = H1 at *
    have hP2 := hP1.ext (Ex.new (o := .lst [V.ref e0]) hA)
    have hA2 : (upd H1 A (.lst [V.ref e0])) A = some (.lst [.ref e0]) := upd_same
    have gA := fresh_back hP1.ex hA
    have nAp := hP1.np hA
    have nAq := hP1.nq hA
    generalize upd H1 A (.lst [V.ref e0]) = H2 at *
    refine g_name ?_
    dsimp only
    change tSeq _ _ _ [some (.ref p), some (.ref A), none, none, none] H2
    refine q_forR2 (ea_cons ev_c (ea_cons ev_c ea_nil)) (by omega) (fun i σ' H' => ∃ (G3 : Hp) (us : List V) (L : List (List Wy)) (o2 o3 o4 : Option V), σ' = [some (.ref p), some (.ref A), o2, o3, o4] ∧ Ex G G3 ∧ Pl G3 H' p q ∧ G3 A = none ∧ H' A = some (.lst us) ∧ DqA G3 us (L.map rd) ∧ L.length = i + 1 ∧ StL L)
      (fun H3 e3 => ⟨G1, [.ref e0], [[]], none, none, none, rfl, eG1, hP2.ext e3, gA, e3 _ _ hA2, .cons hE .nil, rfl, rfl, fun i row h1 hr => by
        have := (List.getElem?_eq_some_iff.mp hr).1
        simp at this
        omega⟩) ?_ ?_
    · rintro i σ' H3 hi ⟨G3, us, L, o2, o3, o4, rfl, eG3, hP3, gA3, hA3, hus, hL, hst⟩
      have hi7 : i < 7 := by omega
      have hr : (1 : Int) + (i : Int) = ((L.length : Nat) : Int) := by omega
      rw [hr]
      have hul := hus.length
      rw [List.length_map] at hul
      change tSeq _ _ _ [some (.ref p), some (.ref A), some (.int (L.length : Int)), o3, o4] H3
      refine ⟨_, rfl, by show 2 ≤ sizeLine; decide, fun t1 ht1 => ⟨by show 1 ≤ sizeLine; decide, fun R hR => ?_⟩⟩
      have hP4 := hP3.new (o := .tup [.int (L.length : Int), .int 0]) ht1
      have gt1 := fresh_back hP3.ex ht1
      have eG4 : Ex G3 (upd G3 t1 (.tup [.int (L.length : Int), .int 0])) := Ex.new gt1
      have hd1 : Dq (upd G3 t1 (.tup [.int (L.length : Int), .int 0])) (.ref t1) (wd [(L.length : Int), 0]) := wd_of (w := [(L.length : Int), 0]) upd_same
      have nAt : A ≠ t1 := fun z => by rw [← z, hA3] at ht1; cases ht1
      have gA4 : (upd G3 t1 (.tup [.int (L.length : Int), .int 0])) A = none := by rw [upd_ne nAt]; exact gA3
      have e4 := Ex.new (o := .tup [.int (L.length : Int), .int 0]) ht1
      have hA4 := e4 _ _ hA3
      generalize upd G3 t1 (.tup [.int (L.length : Int), .int 0]) = G4 at *
      generalize upd H3 t1 (.tup [.int (L.length : Int), .int 0]) = H4 at *
      have e5 := Ex.new (o := .lst [V.ref t1]) hR
      have hP5 := hP4.ext e5
      have gR := fresh_back hP4.ex hR
      have nRp := hP4.np hR
      have nRq := hP4.nq hR
      have nAR : A ≠ R := fun z => by rw [← z, hA4] at hR; cases hR
      have hA5 := e5 _ _ hA4
      have hR5 : (upd H4 R (.lst [V.ref t1])) R = some (.lst [.ref t1]) := upd_same
      generalize upd H4 R (.lst [V.ref t1]) = H5 at *
      refine g_name ?_
      dsimp only
      change tSeq _ _ _ [some (.ref p), some (.ref A), some (.int (L.length : Int)), some (.ref R), o4] H5
      refine q_forR2 (ea_cons ev_c (ea_cons ev_c ea_nil)) (by omega) (fun m σ' H' => ∃ (G6 : Hp) (ws : List V) (os : List Nat) (o4 : Option V), σ' = [some (.ref p), some (.ref A), some (.int (L.length : Int)), some (.ref R), o4] ∧ Ex G4 G6 ∧ Pl G6 H' p q ∧ G6 A = none ∧ G6 R = none ∧ H' A = some (.lst us) ∧ H' R = some (.lst ws) ∧ DqA G6 ws ((stR L.length os).map wd) ∧ StOs L.length (m + 1) os)
        (fun H6 e6 => ⟨G4, [.ref t1], [], o4, rfl, Ex.refl _, hP5.ext e6, gA4, gR, e6 _ _ hA5, e6 _ _ hR5, .cons hd1 .nil, StOs.nil _ _⟩) ?_ ?_
      · rintro m σ' H6 hm ⟨G6, ws, os, o4', rfl, eG6, hP6, gA6, gR6, hA6, hR6, hws, hos⟩
        have hm7 : m < 7 := by omega
        have hwl := hws.length
        rw [List.length_map, stR_len] at hwl
        rw [show (1 : Int) + (m : Int) = (((m + 1 : Nat)) : Int) by omega]
        change tIfS _ _ _ _ [some (.ref p), some (.ref A), some (.int (L.length : Int)), some (.ref R), some (.int ((m + 1 : Nat) : Int))] H6
        have stay : ∀ {H7 : Hp}, Pl G6 H7 p q → H7 A = some (.lst us) → H7 R = some (.lst ws) → ∃ (G6 : Hp) (ws : List V) (os : List Nat) (o4 : Option V), [some (V.ref p), some (.ref A), some (.int (L.length : Int)), some (.ref R), some (.int ((m + 1 : Nat) : Int))] = [some (.ref p), some (.ref A), some (.int (L.length : Int)), some (.ref R), o4] ∧ Ex G4 G6 ∧ Pl G6 H7 p q ∧ G6 A = none ∧ G6 R = none ∧ H7 A = some (.lst us) ∧ H7 R = some (.lst ws) ∧ DqA G6 ws ((stR L.length os).map wd) ∧ StOs L.length (m + 1 + 1) os :=
          fun {H7} a b c => ⟨G6, ws, os, _, rfl, eG6, a, gA6, gR6, b, c, hws, hos.up⟩
        refine if_and (a := !decide (V.int ((m + 1 : Nat) : Int) = V.int (L.length : Int))) (et_test (ev_op (ev_var (i := 4) rfl) (ev_var (i := 2) rfl) (rv_ne rfl))) (fun _ H7 e7 => stay (hP6.ext e7) (e7 _ _ hA6) (e7 _ _ hR6)) (fun hb H7 e7 => ?_)
        have hne : m + 1 ≠ L.length := fun z => by rw [z] at hb; simp at hb
        refine if_and (a := decide ((ws.length : Int) < 6)) (et_test (ev_op (ev_len (ev_var (i := 3) rfl) (sq_of (e7 _ _ hR6))) ev_c rv_I0)) (fun _ H8 e8 => stay (hP6.ext (e7.trans e8)) ((e7.trans e8) _ _ hA6) ((e7.trans e8) _ _ hR6)) (fun hb2 H8 e8 => ?_)
        have hl4 : os.length < 5 := by have := of_decide_eq_true hb2; omega
        have hP8 := hP6.ext (e7.trans e8)
        have hA8 := (e7.trans e8) _ _ hA6
        have hR8 := (e7.trans e8) _ _ hR6
        refine ⟨.ref p, rfl, Hd H8 p q, p, q, 6, rfl, hP8.hd, by decide, by decide, fun H9 y hp9 hy0 hy1 => ⟨y, 0, rfl, rfl, _, rfl, ?_⟩⟩
        have hP9 := hP8.back hp9
        have hA9 := hp9.off _ _ nAp nAq hA8
        have hR9 := hp9.off _ _ nRp nRq hR8
        change (if decide ((0 : Int) < y) = true then _ else _)
        by_cases hy : decide ((0 : Int) < y) = true
        · rw [if_pos hy]
          refine s_appU hR9 (ev_var (i := 3) rfl) (eu_tup (ea_cons (ev_var (i := 2) rfl) (ea_cons (ev_var (i := 4) rfl) (ea_cons ev_c ea_nil))) (by simp)) (by omega) fun t H10 ht e10 h10 => ?_
          have nAt2 : A ≠ t := fun z => by rw [← z, hA9] at ht; cases ht
          have nRt2 : R ≠ t := fun z => by rw [← z, hR9] at ht; cases ht
          have gt := fresh_back hP9.ex ht
          have eG7 : Ex G6 (upd G6 t (.tup [.int (L.length : Int), .int ((m + 1 : Nat) : Int), .int 0])) := Ex.new gt
          refine ⟨upd G6 t (.tup [.int (L.length : Int), .int ((m + 1 : Nat) : Int), .int 0]), ws ++ [.ref t], os ++ [m + 1], _, rfl, eG6.trans eG7, (hP9.more ht e10 h10).mut (by rw [upd_ne nRt2]; exact gR6) nRp nRq, by rw [upd_ne nAt2]; exact gA6, by rw [upd_ne nRt2]; exact gR6, by rw [upd_ne nAR]; exact e10 _ _ hA9, upd_same, ?_, hos.put (by omega) hne hl4⟩
          rw [stR_put, List.map_append]
          exact (hws.mono eG7).put (wd_of (w := [(L.length : Int), ((m + 1 : Nat) : Int), 0]) upd_same)
        · rw [if_neg hy]
          exact stay hP9 hA9 hR9
      · rintro σ' H6 ⟨G6, ws, os, o4', rfl, eG6, hP6, gA6, gR6, hA6, hR6, hws, hos⟩
        refine s_appU hA6 (ev_var (i := 1) rfl) (eu_tupL (K := K) (ev_var (i := 3) rfl) hR6) (by omega) fun t H7 ht e7 h7 => ?_
        have nAt2 : A ≠ t := fun z => by rw [← z, hA6] at ht; cases ht
        have eG7 : Ex G6 (upd G6 t (.tup ws)) := Ex.new (fresh_back hP6.ex ht)
        refine ⟨upd G6 t (.tup ws), us ++ [.ref t], L ++ [stR L.length os], _, _, _, rfl, ((eG3.trans eG4).trans eG6).trans eG7, (hP6.more ht e7 h7).mut (by rw [upd_ne nAt2]; exact gA6) nAp nAq, by rw [upd_ne nAt2]; exact gA6, upd_same, ?_, by rw [List.length_append, hL]; rfl, hst.put hos⟩
        rw [List.map_append]
        exact (hus.mono ((eG4.trans eG6).trans eG7)).put (.tup upd_same (hws.mono eG7))
    · rintro σ' H3 ⟨G3, us, L, o2, o3, o4, rfl, eG3, hP3, gA3, hA3, hus, hL, hst⟩
      have hL8 : L.length = 8 := hL
      refine s_retU (eu_tupL (K := K) (ev_var (i := 1) rfl) hA3) fun t H4 ht e4 h4 => ?_
      have hP4 := hP3.more ht e4 h4
      have eG4 : Ex G3 (upd G3 t (.tup us)) := Ex.new (fresh_back hP3.ex ht)
      exact k _ H4 (.ref t) L (eG3.trans eG4) hP4 (.tup upd_same (hus.mono eG4)) hL8 (hst.gw hL8) hst.l6 fun i row h1 hr z => by
        obtain ⟨os, e, _⟩ := hst.at_ i row h1 hr
        rw [z] at e
        cases e
end
end Wk

set_option Elab.async false
set_option linter.all false
set_option maxRecDepth 100000
set_option maxHeartbeats 4000000
namespace Wk
open PySem PySem.Spec PyProof.Rows L2 Evl
/-! displays that may hold an old thing -/
def EvX (G0 : Hp) (p q : Addr) (te : TE) (σ : L2.St) (d : PyData) : Prop := ∀ G H, Ex G0 G → Pl G H p q → ∀ Q : VK, (∀ G' H' v, Gr p q G H G' H' → Dq G' v d → Q v H') → te σ H Q
def EvXA (G0 : Hp) (p q : Addr) (ta : TA) (σ : L2.St) (ds : List PyData) : Prop := ∀ G H, Ex G0 G → Pl G H p q → ∀ Q : List V → Hp → Prop, (∀ G' H' vs, Gr p q G H G' H' → DqA G' vs ds → Q vs H') → ta σ H Q
section
variable {p q : Addr} {σ : L2.St} {te tb : TE} {ta : TA} {d : PyData} {ds es : List PyData} {G0 : Hp} {v : V}
theorem x_of (h : EvDt p q te σ d) : EvX G0 p q te σ d := fun G H _ hP Q k => h G H hP Q k
theorem x_c {v : V} (h : ∀ G, Dq G v d) : EvX G0 p q (tC v) σ d := x_of (ed_c h)
theorem x_str (s : Str) : EvX G0 p q (tC (.str s)) σ (.str s) := x_c fun G => .str s
theorem x_nil : EvXA G0 p q tNil σ [] := fun G H _ hP Q k => k G H [] (Gr.refl hP) .nil
theorem x_cons (h : EvX G0 p q te σ d) (hr : EvXA G0 p q ta σ ds) : EvXA G0 p q (tCons te ta) σ (d :: ds) := fun G H e hP Q k =>
  h G H e hP _ fun G1 H1 v g1 hv => hr G1 H1 (e.trans g1.ex) g1.pl _ fun G2 H2 vs g2 hvs => k G2 H2 (v :: vs) (g1.trans g2) (.cons (hv.mono g2.ex) hvs)
theorem x_lst (h : EvXA G0 p q ta σ ds) (hl : ds.length ≤ 1000) : EvX G0 p q (tLst ta) σ (.list ds) := fun G H e hP Q k =>
  h G H e hP _ fun G1 H1 vs g1 hvs => ⟨by have := hvs.length; rw [sizeLine_eq]; omega, fun t ht => k (upd G1 t (.lst vs)) _ (.ref t) (g1.trans (Gr.new g1.pl ht)) (.lst upd_same (hvs.mono (Gr.new (o := .lst vs) g1.pl ht).ex))⟩
theorem x_tup (h : EvXA G0 p q ta σ ds) (hl : ds.length ≤ 1000) : EvX G0 p q (tTup ta) σ (.tuple ds) := fun G H e hP Q k =>
  h G H e hP _ fun G1 H1 vs g1 hvs => ⟨by have := hvs.length; rw [sizeLine_eq]; omega, fun t ht => k (upd G1 t (.tup vs)) _ (.ref t) (g1.trans (Gr.new g1.pl ht)) (.tup upd_same (hvs.mono (Gr.new (o := .tup vs) g1.pl ht).ex))⟩
theorem x_var {i : Nat} (hv : σ[i]? = some (some v)) (h0 : Dq G0 v d) : EvX G0 p q (tVar i) σ d := fun G H e hP Q k => ⟨v, hv, k G H v (Gr.refl hP) (h0.mono e)⟩
theorem x_ev (h : ∀ H, Ex G0 H → Ev te σ H v) (hd : ∀ G, Ex G0 G → Dq G v d) : EvX G0 p q te σ d := fun G H e hP Q k => h H (e.trans hP.ex) H (Ex.refl _) _ fun H1 e1 => k G H1 v (Gr.ext hP e1) (hd G e)
/-- things[draw] -/
theorem x_pick {K : PySem.W.Frag} {z : Int} (h : EvX G0 p q te σ (.list ds)) (hz : z = (ds.length : Int)) (h0 : 0 < z) (h9 : z ≤ 1000) (hs : σ[0]? = some (some (.ref p))) {G H : Hp} (e : Ex G0 G) (hP : Pl G H p q) {Q : VK} (k : ∀ G' H' v d, Gr p q G H G' H' → d ∈ ds → Dq G' v d → Q v H') :
    tOp (rIxL K) te (tCall spDraw [] E0 (tCons (tVar 0) (tCons (tC (.int z)) tNil))) σ H Q := by
  refine h G H e hP _ fun G1 H1 v1 g1 hv1 => ?_
  cases hv1 with
  | @lst A xs _ a1 a2 =>
    refine ⟨.ref p, hs, ⟨_, p, q, z, rfl, g1.pl.hd, h0, by omega, fun H2 j h2 hj0 hj1 => ?_⟩⟩
    have g2 := g1.trans (Gr.draw g1.pl h2)
    have l1 := a2.length
    obtain ⟨m, rfl⟩ : ∃ m : Nat, j = (m : Int) := ⟨j.toNat, by omega⟩
    have hm : m < ds.length := by omega
    obtain ⟨u, hu1, hu2⟩ := a2.at (List.getElem?_eq_getElem hm)
    exact ⟨A, xs, (m : Int), u, rfl, rfl, sq_of (g2.pl.ex _ _ a1), atI_nat hu1, k _ H2 u _ g2 (List.getElem_mem hm) hu2⟩
end
/-! data that may stand anywhere in a tree -/
theorem gt_nt {d : PyData} (h : isTu d = false) : ∀ m, Gt m d
  | 0 => fun x rest e => by rw [e] at h; cases h
  | m + 1 => ⟨fun x rest e => (by rw [e] at h; cases h), fun x r ds e => (by rw [e] at h; cases h)⟩
theorem gt_nil : ∀ m, Gt m (.tuple [])
  | 0 => fun x rest e => by cases e
  | m + 1 => ⟨fun x rest e => (by cases e), fun x r ds e => (by cases e)⟩
theorem gt_of {x : PyData} {rest : List PyData} (hx : SeqAt.shaped x = true) (hc : ∀ r ds, rest = [r, .tuple ds] → ds = []) : ∀ m, Gt m (.tuple (x :: rest))
  | 0 => fun x' rest' e => by
    injection e with e
    injection e with e1 e2
    rw [← e1]; exact hx
  | m + 1 => ⟨fun x' rest' e => by
    injection e with e
    injection e with e1 e2
    rw [← e1]; exact hx, fun x' r ds e => by
    injection e with e
    injection e with e1 e2
    rw [hc r ds e2]
    intro y hy
    cases hy⟩
theorem gt_take {m : Nat} {x r : PyData} {ds : List PyData} (hx : SeqAt.shaped x = true) (hc : ∀ e ∈ ds, Gt m e) : Gt (m + 1) (.tuple [x, r, .tuple ds]) :=
  ⟨fun x' rest' e => by
    injection e with e
    injection e with e1 e2
    rw [← e1]; exact hx, fun x' r' ds' e => by
    injection e with e
    injection e with e1 e2
    injection e2 with e2 e3
    injection e3 with e3 _
    injection e3 with e3
    rw [← e3]
    exact hc⟩
theorem cat_go {K : PySem.W.Frag} {a b : Addr} {xs ys : List V} {H : Hp} {Q : VK} (ha : H a = some (.tup xs)) (hb : H b = some (.tup ys)) (hz : xs.length + ys.length ≤ 100000) (k : ∀ p H', Ex H H' → H' p = some (.tup (xs ++ ys)) → (∀ c, H c ≠ none → c ≠ p → True) → Q (.ref p) H') : rCatA K (.ref a) (.ref b) H Q :=
  ⟨a, b, xs, ys, rfl, rfl, st_of ha, st_of hb, by rw [sizeLine_eq]; omega, fun z => by subst z; exact k b H (Ex.refl H) hb (fun _ _ _ => trivial), fun _ z => by subst z; exact k a H (Ex.refl H) (by rw [List.append_nil]; exact ha) (fun _ _ _ => trivial), fun _ _ r hr => k r _ (Ex.new hr) upd_same (fun _ _ _ => trivial)⟩
/-- a walk down from n to 1 -/
theorem q_forD1 {ta : TA} {g : TG} {tu tz : TS} {D : Ends} {σ : L2.St} {H : Hp} {n : Nat} (h : EvA ta σ H [.int (n : Int), .int 0, .int (-1)]) (hn : n ≤ 1000) (Pv : Nat → L2.St → Hp → Prop) (h0 : ∀ H1, Ex H H1 → Pv 0 σ H1)
    (hs : ∀ (i : Nat) σ' H', i < n → Pv i σ' H' → g (.int ((n : Int) + (i : Nat) * (-1))) σ' H' fun σ2 H2 => tu { D with nx := Pv (i + 1), ct := Pv (i + 1), bk := tz D } σ2 H2) (hd : ∀ σ' H', Pv n σ' H' → tz D σ' H') : tSeq (tFor (iRng3 ta) g tu) tz D σ H :=
  h H (Ex.refl H) _ fun H1 e => ⟨(n : Int), 0, -1, n, rfl, by
    have z := RgC.neg (i := (n : Int)) (j := 0) (by omega) (by omega) (by decide) (by decide)
    rw [show ((n : Int) - 0).toNat = n by omega] at z
    exact z, for_it walk_rangeC Pv (h0 H1 e) (fun _ _ _ _ _ => trivial) (fun i x σ' H2 H3 hi p y => by
      obtain ⟨rfl, rfl⟩ := y
      exact hs i σ' _ hi p) hd⟩
end Wk

set_option Elab.async false
set_option linter.all false
set_option maxRecDepth 100000
set_option maxHeartbeats 400000
namespace Wk
open PySem PySem.Spec PyProof.Rows L2 Evl
def Lf (d : PyData) : Prop := ∀ m, Gt m d
theorem lf_no (r : Int) : Lf (.tuple [.str "no", .int r]) := gt_of sh_no fun _ _ e => by
  injection e with _ e
  cases e
theorem lf_no1 (d : PyData) : Lf (.tuple [.str "no", d]) := gt_of sh_no fun _ _ e => by
  injection e with _ e
  cases e
theorem lf_all : Lf (.tuple [.str "all"]) := gt_of sh_all fun _ _ e => by cases e
theorem lf_no2 (d : PyData) : Lf (.tuple [.str "no", d, .tuple []]) := gt_of sh_no fun _ _ e => by
  injection e with _ e
  injection e with e _
  injection e with e
  exact e.symm
theorem q_asgX {G0 : Hp} {p q : Addr} {i : Nat} {te : TE} {tz : TS} {D : Ends} {σ : L2.St} {G H : Hp} {d : PyData} (h : EvX G0 p q te σ d) (e : Ex G0 G) (hP : Pl G H p q) (k : ∀ G' H' v, Gr p q G H G' H' → Dq G' v d → tz D (σ.set i (some v)) H') : tSeq (tAsg te (gName i)) tz D σ H := h G H e hP _ k
theorem dqa_rep {G : Hp} {v : V} {d : PyData} (h : Dq G v d) : ∀ n, DqA G (List.replicate n v) (List.replicate n d)
  | 0 => .nil
  | n + 1 => .cons h (dqa_rep h n)
section
variable {P : Program} {w : World} {K : PySem.W.Frag} {mg : Str → Option Value} {base : Heap} {f : Addr} {fd : FuncData}
/-! _law_long_tree -/
def spLong : Sp := fun vs H Q _ => ∃ (G : Hp) (p q : Addr) (lv : V) (rows : List (List Wy)), vs = [.ref p, lv] ∧ Pl G H p q ∧ Dq G lv (pd rows) ∧ rows.length = 8 ∧ (∀ row ∈ rows, row.length ≤ 6) ∧ (∀ i row, 1 ≤ i → rows[i]? = some row → row ≠ []) ∧
  ∀ G' H' v d, Ex G G' → Pl G' H' p q → Dq G' v d → Gt 7 d → Q v H'
abbrev sLong : Stmt := top 50
abbrev nLong : List Str := ["_law_pool_here", "_law_lists_here", "_law_order_here", "_law_spoil", "_law_tree_here", "_law_k", "_law_router", "_law_rest", "_law_wrong"]
theorem scLong : FnScope nLong ["_law_pool_here", "_law_lists_here"] (defScope sLong) := ⟨rfl, rfl, rfl, by decide +kernel, rfl, by decide +kernel, by decide +kernel⟩
theorem ok_long (B : Bl mg) (C : Cal P w K mg base "_law_draw" ["_law_pool_here", "_law_size"] 1 spDraw) (C2 : Cal P w K mg base "_law_order" ["_law_pool_here", "_law_size"] 2 spOrder) (F : FnP K "_law_long_tree" sLong f fd) : FnOk P w K mg base CX0 3 f fd ["_law_pool_here", "_law_lists_here"] spLong := by
  refine F.ok scLong (fun vs H Q E h => ?_) (fun cdv A outer s H vs Q E hr h => ?_)
  · obtain ⟨G, p, q, lv, rows, rfl, _⟩ := h
    rfl
  · obtain ⟨G, p, q, lv, rows, rfl, hP, hl, hl8, h6, hne, k⟩ := h
    have r1 : Room 1 (A.deeper (envOfC "_law_long_tree" (defScope sLong) s.heap.objs.size f cdv)) := hr.mono (by decide)
    refine ⟨_, pss_cons (ps_set (i := 2) scLong.nd rfl (Or.inl rfl) (pe_cal C2 hr (by rfl) (pa_cons (pv 0) (pa_cons pe_int pa_nil))))
      (pss_cons (ps_set (i := 3) scLong.nd rfl (Or.inl rfl) (pe_cal C r1 (by rfl) (pa_cons (pv 0) (pa_cons pe_int pa_nil))))
      (pss_cons (ps_set (i := 4) scLong.nd rfl (Or.inl rfl) (pe_tup (pa_cons pe_str pa_nil)))
      (pss_cons (ps_for (passes_of rfl) rfl (pi_range3 (by rfl) B.range (pa_cons pe_int (pa_cons pe_int (pa_cons (pe_un un_neg pe_int) pa_nil)))) (pg_name (i := 5) scLong.nd rfl (Or.inl rfl))
        (pss_cons (ps_set (i := 6) scLong.nd rfl (Or.inl rfl) (pe_ix ix_list (pv 2) (pv 5) (fun _ _ => rfl)))
        (pss_cons (ps_set (i := 7) scLong.nd rfl (Or.inl rfl) (pe_op op_rep (pe_lst (pa_cons (pe_tup (pa_cons pe_str (pa_cons (pv 6) pa_nil))) pa_nil)) (pe_callB call_len_seq (by rfl) B.len PySem.boot_len (pa_cons (pe_ix ix_tup (pv 1) (pv 6) (fun _ _ => rfl)) pa_nil))))
        (pss_cut (ps_if (pt_cmpR op_eq (pv 3) (pv 5) (nomark _))
          (pss_cons (ps_set (i := 8) scLong.nd rfl (Or.inl rfl) (pe_lst (pa_cons (pe_tup (pa_cons pe_str (pa_cons (pe_ix ix_list (pv 2) (pe_op op_sub (pv 5) pe_int) (fun _ _ => rfl)) pa_nil))) (pa_cons (pe_tup (pa_cons pe_str pa_nil)) (pa_cons (pe_tup (pa_cons pe_str (pa_cons (pe_lst (pa_cons (pv 6) pa_nil)) pa_nil))) (pa_cons (pe_tup (pa_cons pe_str (pa_cons (pv 6) (pa_cons (pe_tup pa_nil) pa_nil)))) (pa_cons pe_non pa_nil)))))))
          (pss_one (ps_asg (pe_ix ix_list (pv 8) (pe_cal C r1 (by rfl) (pa_cons (pv 0) (pa_cons pe_int pa_nil))) (fun _ _ => rfl)) (pg_sub (pv 7) (pe_cal C r1 (by rfl) (pa_cons (pv 0) (pa_cons (pe_callB call_len_seq (by rfl) B.len PySem.boot_len (pa_cons (pv 7) pa_nil)) pa_nil))) set_list)))) pss_nil)
        (pss_one (ps_set (i := 4) scLong.nd rfl (Or.inl rfl) (pe_tup (pa_cons pe_str (pa_cons (pv 6) (pa_cons (pe_op op_catA (pe_tup (pa_cons (pv 4) pa_nil)) (pe_callTy (call_tupleK (K := K) rfl) (by rfl) B.tuple PyProof.Rows.boot_tuple (pa_cons (pv 7) pa_nil))) pa_nil))))))))))
      (pss_one (ps_ret (pv 4)))))), ?_⟩
    have hll : ∃ la lxs, lv = .ref la ∧ G la = some (.tup lxs) ∧ lxs.length = 8 ∧ DqA G lxs (rows.map rd) := by
      unfold pd at hl
      cases hl with
      | tup z1 z2 =>
        have := z2.length
        rw [List.length_map, hl8] at this
        exact ⟨_, _, rfl, z1, this, z2⟩
    obtain ⟨la, lxs, rfl, l1, lxl, l2⟩ := hll
    refine ⟨.ref p, rfl, G, p, q, 8, rfl, hP, by decide, by decide, fun H1 b os hP1 hO1 hb0 hb1 hos => ?_⟩
    refine g_name ?_
    have gb := fresh_back hP.ex hb0
    have hP1' := hP1.hold hb1 (hP.np hb0) (hP.nq hb0)
    have eG1 : Ex G (upd G b (.lst (os.map V.int))) := Ex.new gb
    have gb1 : (upd G b (.lst (os.map V.int))) b = some (.lst (os.map V.int)) := upd_same
    generalize upd G b (.lst (os.map V.int)) = G1 at *
    clear hP1
    change tSeq _ _ _ [some (.ref p), some (.ref la), some (.ref b), none, none, none, none, none, none] H1
    refine ⟨.ref p, rfl, Hd H1 p q, p, q, 12, rfl, hP1'.hd, by decide, by decide, fun H2 sp hp2 hs0 hs1 => ?_⟩
    have hP2 := hP1'.back hp2
    refine g_name ?_
    change tSeq _ _ _ [some (.ref p), some (.ref la), some (.ref b), some (.int sp), none, none, none, none, none] H2
    refine ⟨by show 1 ≤ sizeLine; decide, fun t0 ht0 => ?_⟩
    have hP3 := hP2.new (o := .tup [.str "all"]) ht0
    have eG3 : Ex G1 (upd G1 t0 (.tup [.str "all"])) := Ex.new (fresh_back hP2.ex ht0)
    have hd3 : Dq (upd G1 t0 (.tup [.str "all"])) (.ref t0) (.tuple [.str "all"]) := .tup upd_same (.cons (.str _) .nil)
    generalize upd G1 t0 (.tup [V.str "all"]) = G3 at *
    generalize upd H2 t0 (.tup [V.str "all"]) = H3 at *
    refine g_name ?_
    dsimp only
    change tSeq _ _ _ [some (.ref p), some (.ref la), some (.ref b), some (.int sp), some (.ref t0), none, none, none, none] H3
    refine q_forD1 (n := 7) (ea_cons ev_c (ea_cons ev_c (ea_cons (ev_un (r := rU fun i => .int (-i)) (ev_c (v := .int 1)) (fun H1 _ Q q => ⟨1, rfl, q H1 (Ex.refl H1)⟩)) ea_nil))) (by omega) (fun i σ' H' => ∃ (G4 : Hp) (tv : V) (td : PyData) (o5 o6 o7 o8 : Option V), σ' = [some (.ref p), some (.ref la), some (.ref b), some (.int sp), some tv, o5, o6, o7, o8] ∧ Ex G1 G4 ∧ Pl G4 H' p q ∧ Dq G4 tv td ∧ Gt i td)
      (fun H4 e4 => ⟨G3, .ref t0, _, _, _, _, _, rfl, eG3, hP3.ext e4, hd3, lf_all 0⟩) ?_ ?_
    · rintro i σ' H4 hi ⟨G4, tv, td, o5, o6, o7, o8, rfl, eG4, hP4, htd, hgt⟩
      obtain ⟨r, hr1, hr2, hr3, hr8⟩ : ∃ r : Nat, os[7 - i]? = some (r : Int) ∧ (os.map V.int)[7 - i]? = some (.int (r : Int)) ∧ 1 ≤ r ∧ r < 8 := by
        have hln : 7 - i < os.length := by rw [hos.len]; omega
        have e : os[7 - i]? = some os[7 - i] := List.getElem?_eq_getElem hln
        have hg := hos.rg _ (List.mem_of_getElem? e)
        have hn0 : os[7 - i] ≠ 0 := fun z => by
          rw [z] at e
          have := hos.ne e hos.hd
          omega
        refine ⟨(os[7 - i]).toNat, ?_, ?_, by omega, by omega⟩
        · rw [e]; congr 1; omega
        · rw [List.getElem?_map, e]
          show some (V.int _) = _
          congr 2
          omega
      have hk : ((7 : Nat) : Int) + (i : Nat) * (-1) = ((7 - i : Nat) : Int) := by omega
      rw [hk]
      refine g_name ?_
      change tSeq _ _ _ [some (.ref p), some (.ref la), some (.ref b), some (.int sp), some tv, some (.int ((7 - i : Nat) : Int)), o6, o7, o8] H4
      have eG04 := eG1.trans eG4
      have hb4 := hP4.ex _ _ (eG4 _ _ gb1)
      refine q_asg (v := .int (r : Int)) (ev_op (ev_var (i := 2) rfl) (ev_var (i := 5) rfl) (rv_ixL (sq_of hb4) (atI_nat hr2))) fun H5 e5 => ?_
      change tSeq _ _ _ [some (.ref p), some (.ref la), some (.ref b), some (.int sp), some tv, some (.int ((7 - i : Nat) : Int)), some (.int (r : Int)), o7, o8] H5
      have hP5 := hP4.ext e5
      have hrw : rows[r]? = some rows[r] := List.getElem?_eq_getElem (by omega)
      obtain ⟨rv, hrv, hdr⟩ := l2.at (i := r) (d := rd rows[r]) (by rw [List.getElem?_map, hrw]; rfl)
      have hr6 := h6 _ (List.getElem_mem (show r < rows.length by omega))
      have hrn := hne r _ hr3 hrw
      generalize rows[r] = row at *
      have hrl : 1 ≤ row.length := List.length_pos_iff.mpr hrn
      unfold rd at hdr
      cases hdr with
      | tup z1 z2 =>
      rename_i ra rws
      have rl := z2.length
      rw [List.length_map] at rl
      refine ⟨_, rfl, by show 2 ≤ sizeLine; decide, fun tn htn => ⟨by show 1 ≤ sizeLine; decide, fun l0 hl0 => ?_⟩⟩
      have hP6 := hP5.new (o := .tup [.str "no", .int (r : Int)]) htn
      have eG6 : Ex G4 (upd G4 tn (.tup [.str "no", .int (r : Int)])) := Ex.new (fresh_back hP5.ex htn)
      have hd6 : Dq (upd G4 tn (.tup [.str "no", .int (r : Int)])) (.ref tn) (.tuple [.str "no", .int (r : Int)]) := .tup upd_same (.cons (.str _) (.cons (.int _) .nil))
      generalize upd G4 tn (.tup [V.str "no", .int (r : Int)]) = G6 at *
      generalize upd H5 tn (.tup [V.str "no", .int (r : Int)]) = H6 at *
      have e7 := Ex.new (o := .lst [V.ref tn]) hl0
      have hP7 := hP6.ext e7
      have hl07 : (upd H6 l0 (.lst [V.ref tn])) l0 = some (.lst [.ref tn]) := upd_same
      generalize upd H6 l0 (.lst [V.ref tn]) = H7 at *
      have eG06 := eG04.trans eG6
      have hlen : Ev (tCB (rLenS K) (tCons (tOp (rIxT K) (tVar 1) (tVar 6)) tNil)) [some (.ref p), some (.ref la), some (.ref b), some (.int sp), some tv, some (.int ((7 - i : Nat) : Int)), some (.int (r : Int)), o7, o8] H7 (.int (row.length : Int)) := by
        rw [← rl]
        exact ev_lenT (K := K) (ev_at (K := K) (j := r) (ev_var (i := 1) rfl) (st_of (hP7.ex _ _ (eG06 _ _ l1))) (ev_var (i := 6) rfl) hrv) (st_of (hP7.ex _ _ (eG06 _ _ z1)))
      refine hlen H7 (Ex.refl _) _ fun H8 e8 => ?_
      have hP8 := hP7.ext e8
      refine ⟨l0, (row.length : Int), [.ref tn], rfl, rfl, e8 _ _ hl07, by omega, by omega, by rw [sizeLine_eq]; show 1 * _ ≤ _; omega, fun R hR => ?_⟩
      rw [flat_rep, show ((row.length : Int)).toNat = row.length by omega]
      have hP9 := hP8.ext (Ex.new (o := .lst (List.replicate row.length (V.ref tn))) hR)
      have gR := fresh_back hP8.ex hR
      have nRp := hP8.np hR
      have nRq := hP8.nq hR
      have hR9 : (upd H8 R (.lst (List.replicate row.length (V.ref tn)))) R = some (.lst (List.replicate row.length (V.ref tn))) := upd_same
      generalize upd H8 R (.lst (List.replicate row.length (V.ref tn))) = H9 at *
      have hws0 : DqA G6 (List.replicate row.length (V.ref tn)) (List.replicate row.length (.tuple [.str "no", .int (r : Int)])) := dqa_rep hd6 _
      have hwl0 : (List.replicate row.length (V.ref tn)).length = row.length := List.length_replicate ..
      have hlf0 : ∀ d ∈ List.replicate row.length (PyData.tuple [.str "no", .int (r : Int)]), Lf d := fun d hd => by rw [List.eq_of_mem_replicate hd]; exact lf_no _
      generalize List.replicate row.length (V.ref tn) = ws0 at *
      generalize List.replicate row.length (PyData.tuple [.str "no", .int (r : Int)]) = ds0 at *
      refine g_name ?_
      dsimp only
      change tCut _ _ _ [some (.ref p), some (.ref la), some (.ref b), some (.int sp), some tv, some (.int ((7 - i : Nat) : Int)), some (.int (r : Int)), some (.ref R), o8] H9
      refine ⟨fun σ' H' => ∃ (G9 : Hp) (ws : List V) (ds : List PyData) (o8 : Option V), σ' = [some (.ref p), some (.ref la), some (.ref b), some (.int sp), some tv, some (.int ((7 - i : Nat) : Int)), some (.int (r : Int)), some (.ref R), o8] ∧ Ex G6 G9 ∧ Pl G9 H' p q ∧ H' R = some (.lst ws) ∧ DqA G9 ws ds ∧ (∀ d ∈ ds, Lf d) ∧ ws.length = row.length, ?_, ?_⟩
      · refine s_when (b := decide (V.int sp = V.int ((7 - i : Nat) : Int))) (et_test (ev_op (ev_var (i := 3) rfl) (ev_var (i := 5) rfl) (rv_eq rfl))) (fun hb H10 e10 => ?_) (fun hb H10 e10 => ⟨G6, ws0, ds0, o8, rfl, Ex.refl _, hP9.ext e10, e10 _ _ hR9, hws0, hlf0, hwl0⟩)
        have hP10 := hP9.ext e10
        have hR10 := e10 _ _ hR9
        obtain ⟨r', hr1', hr2'⟩ : ∃ r' : Int, os[6 - i]? = some r' ∧ (os.map V.int)[6 - i]? = some (.int r') := by
          have hln : 6 - i < os.length := by rw [hos.len]; omega
          exact ⟨_, List.getElem?_eq_getElem hln, by rw [List.getElem?_map, List.getElem?_eq_getElem hln]; rfl⟩
        have gb6 := eG6 _ _ (eG4 _ _ gb1)
        have hix : ((7 - i : Nat) : Int) - 1 = ((6 - i : Nat) : Int) := by omega
        have vr : ∀ {o : Option V}, EvX G6 p q (tVar 6) [some (.ref p), some (.ref la), some (.ref b), some (.int sp), some tv, some (.int ((7 - i : Nat) : Int)), some (.int (r : Int)), some (.ref R), o] (.int (r : Int)) := fun {o} => x_ev (fun H e => ev_var rfl) (fun G e => .int _)
        have hL5 : ∀ d ∈ [PyData.tuple [.str "no", .int r'], .tuple [.str "all"], .tuple [.str "no", .list [.int (r : Int)]], .tuple [.str "no", .int (r : Int), .tuple []], .none], Lf d := fun d hd => by
          simp only [List.mem_cons, List.not_mem_nil, or_false] at hd
          rcases hd with rfl | rfl | rfl | rfl | rfl
          · exact lf_no _
          · exact lf_all
          · exact lf_no1 _
          · exact lf_no2 _
          · exact gt_nt rfl
        refine q_asgX (G0 := G6) (d := .list [.tuple [.str "no", .int r'], .tuple [.str "all"], .tuple [.str "no", .list [.int (r : Int)]], .tuple [.str "no", .int (r : Int), .tuple []], .none]) (x_lst (x_cons (x_tup (x_cons (x_str _) (x_cons (x_ev (fun H e => ev_op (ev_var (i := 2) rfl) (ev_op (ev_var (i := 5) rfl) ev_c rv_I0) (rv_ixL (sq_of (e _ _ gb6)) (by rw [hix]; exact atI_nat hr2'))) (fun G e => .int _)) x_nil)) (by simp)) (x_cons (x_tup (x_cons (x_str _) x_nil) (by simp)) (x_cons (x_tup (x_cons (x_str _) (x_cons (x_lst (x_cons vr x_nil) (by simp)) x_nil)) (by simp)) (x_cons (x_tup (x_cons (x_str _) (x_cons vr (x_cons (x_tup x_nil (by simp)) x_nil))) (by simp)) (x_cons (x_c fun G => .non) x_nil))))) (by simp)) (Ex.refl _) hP10 fun G11 H11 v g11 hv11 => ?_
        have hP11 := g11.pl
        have hR11 := g11.off _ _ nRp nRq hR10
        change tAsg _ _ _ [some (.ref p), some (.ref la), some (.ref b), some (.int sp), some tv, some (.int ((7 - i : Nat) : Int)), some (.int (r : Int)), some (.ref R), some v] H11
        refine x_pick (K := K) (z := 5) (G0 := G11) (x_var (i := 8) rfl hv11) rfl (by decide) (by decide) rfl (Ex.refl _) hP11 fun G12 H12 u d g12 hd hu => ?_
        have hP12 := g12.pl
        have hR12 := g12.off _ _ nRp nRq hR11
        refine ⟨.ref R, rfl, .ref p, rfl, .ref R, rfl, R, ws0, rfl, .inl (sq_of hR12), Hd H12 p q, p, q, (ws0.length : Int), rfl, hP12.hd, by omega, by omega, fun H13 j h13 hj0 hj1 => ?_⟩
        have hP13 := hP12.back h13
        have hR13 := h13.off _ _ nRp nRq hR12
        have eG612 := g11.ex.trans g12.ex
        have gR12 : G12 R = none := g12.nw R (g11.nw R gR (by rw [hR10]; simp)) (by rw [hR11]; simp)
        obtain ⟨j', rfl⟩ : ∃ j' : Nat, j = (j' : Int) := ⟨j.toNat, by omega⟩
        refine ⟨R, ws0, (j' : Int), j', rfl, rfl, hR13, ixN_nat (by omega), ?_⟩
        refine ⟨G12, ws0.set j' u, ds0.set j' d, some v, rfl, eG612, hP13.mut gR12 nRp nRq, upd_same, DqA.set hu _ (hws0.mono eG612), fun x hx => ?_, by rw [List.length_set]; exact hwl0⟩
        rcases List.mem_or_eq_of_mem_set hx with z | z
        · exact hlf0 x z
        · rw [z]; exact hL5 d hd
      · rintro σ' H10 ⟨G9, ws, ds, o8', rfl, eG9, hP10, hR10, hws, hlf, hwl⟩
        refine ⟨.int (r : Int), rfl, tv, rfl, by show 1 ≤ sizeLine; decide, fun t1 ht1 => ⟨.ref R, rfl, R, ws, rfl, .inl ⟨sq_of ((Ex.new ht1) _ _ hR10), fun t2 ht2 => ?_⟩⟩⟩
        have e11 := (Ex.new (o := .tup [tv]) ht1)
        have h1 : (upd H10 t1 (.tup [tv])) t1 = some (.tup [tv]) := upd_same
        generalize upd H10 t1 (.tup [tv]) = H11 at *
        have e12 := (Ex.new (o := .tup ws) ht2)
        have h2 : (upd H11 t2 (.tup ws)) t2 = some (.tup ws) := upd_same
        have h1' := e12 _ _ h1
        generalize upd H11 t2 (.tup ws) = H12 at *
        refine ⟨t1, t2, [tv], ws, rfl, rfl, st_of h1', st_of h2, by rw [sizeLine_eq]; show 1 + _ ≤ _; omega, (fun z => by cases z), (fun _ z => by rw [z] at hwl; simp at hwl; omega), fun _ _ t3 ht3 => ⟨by show 3 ≤ sizeLine; decide, fun t4 ht4 => ?_⟩⟩
        have hP12 := hP10.ext (e11.trans e12)
        have hP13 := hP12.new (o := .tup ([tv] ++ ws)) ht3
        have eG13 : Ex G9 (upd G9 t3 (.tup ([tv] ++ ws))) := Ex.new (fresh_back hP12.ex ht3)
        have hd13 : Dq (upd G9 t3 (.tup ([tv] ++ ws))) (.ref t3) (.tuple (td :: ds)) := .tup upd_same (.cons (htd.mono ((eG6.trans eG9).trans eG13)) (hws.mono eG13))
        generalize upd G9 t3 (.tup ([tv] ++ ws)) = G13 at *
        generalize upd H12 t3 (.tup ([tv] ++ ws)) = H13 at *
        have hP14 := hP13.new (o := .tup [.str "take", .int (r : Int), .ref t3]) ht4
        have eG14 : Ex G13 (upd G13 t4 (.tup [.str "take", .int (r : Int), .ref t3])) := Ex.new (fresh_back hP13.ex ht4)
        refine g_name ?_
        refine ⟨_, .ref t4, _, _, _, _, _, rfl, (((eG4.trans eG6).trans eG9).trans eG13).trans eG14, hP14, .tup upd_same (.cons (.str _) (.cons (.int _) (.cons (hd13.mono eG14) .nil))), gt_take sh_take fun e he => ?_⟩
        rcases List.mem_cons.mp he with z | z
        · rw [z]; exact hgt
        · exact hlf e z i
    · rintro σ' H4 ⟨G4, tv, td, o5, o6, o7, o8, rfl, eG4, hP4, htd, hgt⟩
      exact s_ret (ev_var (i := 4) rfl) fun H5 e5 => k G4 H5 tv td (eG1.trans eG4) (hP4.ext e5) htd hgt
end
end Wk

set_option Elab.async false
set_option linter.all false
set_option maxRecDepth 100000
set_option maxHeartbeats 400000
namespace Wk
open PySem PySem.Spec PyProof.Rows L2 Evl
/-! trees that were not spoiled -/
def Rt : Nat → PyData → Prop
  | 0, d => (∃ r : Int, d = .tuple [.str "no", .int r]) ∨ d = .tuple [.str "all"]
  | m + 1, d => (∃ r : Int, d = .tuple [.str "no", .int r]) ∨ d = .tuple [.str "all"] ∨ ∃ (r : Int) (ds : List PyData), d = .tuple [.str "take", .int r, .tuple ds] ∧ 1 ≤ ds.length ∧ ds.length ≤ 7 ∧ ∀ e ∈ ds, Rt m e
theorem Rt.no (m : Nat) (r : Int) : Rt m (.tuple [.str "no", .int r]) := by
  cases m with
  | zero => exact .inl ⟨r, rfl⟩
  | succ m => exact .inl ⟨r, rfl⟩
theorem Rt.all (m : Nat) : Rt m (.tuple [.str "all"]) := by
  cases m with
  | zero => exact .inr rfl
  | succ m => exact .inr (.inl rfl)
theorem Rt.take {m : Nat} {r : Int} {ds : List PyData} (h1 : 1 ≤ ds.length) (h7 : ds.length ≤ 7) (h : ∀ e ∈ ds, Rt m e) : Rt (m + 1) (.tuple [.str "take", .int r, .tuple ds]) := .inr (.inr ⟨r, ds, rfl, h1, h7, h⟩)
theorem Rt.gt : ∀ {m : Nat} {d : PyData}, Rt m d → Gt m d
  | 0, d, h => by
    rcases h with ⟨r, rfl⟩ | rfl
    · exact lf_no r 0
    · exact lf_all 0
  | m + 1, d, h => by
    rcases h with ⟨r, rfl⟩ | rfl | ⟨r, ds, rfl, _, _, hc⟩
    · exact lf_no r _
    · exact lf_all _
    · exact gt_take sh_take fun e he => (hc e he).gt
theorem Rt.lay : ∀ {m : Nat} {d : PyData}, Rt m d → d.canLay0 = true ∧ d.depth ≤ 2 * m + 1
  | 0, d, h => by
    rcases h with ⟨r, rfl⟩ | rfl
    · exact ⟨by simp [PyData.canLay0, PyData.canLayAll0]; decide +kernel, by simp [PyData.depth, PyData.depthAll]⟩
    · exact ⟨by decide +kernel, by simp [PyData.depth, PyData.depthAll]⟩
  | m + 1, d, h => by
    rcases h with ⟨r, rfl⟩ | rfl | ⟨r, ds, rfl, _, _, hc⟩
    · exact ⟨by simp [PyData.canLay0, PyData.canLayAll0]; decide +kernel, by simp [PyData.depth, PyData.depthAll]⟩
    · exact ⟨by decide +kernel, by simp [PyData.depth, PyData.depthAll]⟩
    · have h1 : PyData.canLayAll0 ds = true := layAll.mpr fun e he => (hc e he).lay.1
      have h2 : PyData.depthAll ds ≤ 2 * m + 1 := depAll.mpr fun e he => (hc e he).lay.2
      have h3 : PyData.strOk "take" = true := by decide +kernel
      refine ⟨?_, ?_⟩
      · simp [PyData.canLay0, PyData.canLayAll0, h1, h3]
      · simp only [PyData.depth, PyData.depthAll]
        omega
theorem Rt.sh {m : Nat} {d : PyData} (h : Rt m d) (hm : m ≤ 7) : SeqAt.shaped d = true := by
  unfold SeqAt.shaped
  have := h.lay
  rw [this.1, decide_eq_true (show d.depth ≤ 64 by omega)]
  rfl
theorem Rt.tu {m : Nat} {d : PyData} (h : Rt m d) : ∃ (tag : Str) (rest : List PyData), d = .tuple (.str tag :: rest) ∧ SeqAt.shaped (.str tag) = true ∧ rest.length ≤ 2 := by
  cases m with
  | zero =>
    rcases h with ⟨r, rfl⟩ | rfl
    · exact ⟨_, _, rfl, sh_no, by simp⟩
    · exact ⟨_, _, rfl, sh_all, by simp⟩
  | succ m =>
    rcases h with ⟨r, rfl⟩ | rfl | ⟨r, ds, rfl, _, _, hc⟩
    · exact ⟨_, _, rfl, sh_no, by simp⟩
    · exact ⟨_, _, rfl, sh_all, by simp⟩
    · exact ⟨_, _, rfl, sh_take, by simp⟩
/-- a tree within a tuple -/
theorem gt_in1 {m : Nat} {d : PyData} (h : Rt m d) (hm : m ≤ 7) : ∀ n, Gt n (.tuple [d]) := gt_of (h.sh hm) fun _ _ e => by cases e
theorem gt_in2 {m : Nat} {d e : PyData} (h : Rt m d) (hm : m ≤ 7) : ∀ n, Gt n (.tuple [d, e]) := gt_of (h.sh hm) fun _ _ e => by
  injection e with _ e
  cases e
/-- the children in another order, fewer or more of them -/
theorem gt_kids {m : Nat} {x r : PyData} {ds es : List PyData} (hx : SeqAt.shaped x = true) (h : ∀ e ∈ ds, Rt m e) (hs : ∀ e ∈ es, e ∈ ds) : Gt (m + 1) (.tuple [x, r, .tuple es]) := gt_take hx fun e he => (h e (hs e he)).gt
end Wk

set_option Elab.async false
set_option linter.all false
set_option maxRecDepth 100000
set_option maxHeartbeats 400000
namespace Wk
open PySem PySem.Spec PyProof.Rows L2 Evl
/-! a comprehension over range(lo, n) -/
theorem el_lcR2 {σ : L2.St} {H : Hp} {ta : TA} {te : TE} {t : TT} {j : Nat} {vs : List Nat} {lo n : Int} (f : Nat → Bool) (v : Nat → V) (h : EvA ta σ H [.int lo, .int n]) (hn : 0 ≤ lo ∧ lo ≤ 40000 ∧ 0 ≤ n ∧ n ≤ 40000) (hw : ∀ x, wipe ((wipe σ vs).set j (some x)) vs = wipe σ vs)
    (ht : ∀ (i : Nat) H1, Ex H H1 → lo + (i : Int) < n → EvT t ((wipe σ vs).set j (some (.int (lo + (i : Int))))) H1 (f i)) (he : ∀ (i : Nat) H1, Ex H H1 → lo + (i : Int) < n → f i = true → Ev te ((wipe σ vs).set j (some (.int (lo + (i : Int))))) H1 (v i)) :
    EvL (tLc (iRng2 ta) (gName j) t te vs) σ H (given (n - lo).toNat f v) := fun H0 e Q q => h H0 e _ fun H1 e1 => ⟨lo, n, rfl, ⟨by omega, by omega, by omega, by omega⟩, fun Dl hD =>
  lc_range (lo := lo) (n := (n - lo).toNat) (Cw H1 f v Dl) ⟨hD, Ex.new hD, upd_same⟩ (fun i H' hi p =>
    ⟨hw _, cw_turn p (by omega) (ht i H1 (e.trans e1) (by omega)) (fun hf => he i H1 (e.trans e1) (by omega) hf)⟩) (fun H' p => q Dl H' (fresh_back e1 p.1) (e1.trans p.2.1) p.2.2)⟩
/-! all but three stays; what is new -/
def Ob3 (p q L : Addr) (H H' : Hp) : Prop := ∀ b o, b ≠ p → b ≠ q → b ≠ L → H b = some o → H' b = some o
theorem Ob3.ex {p q L : Addr} {H H' : Hp} (e : Ex H H') : Ob3 p q L H H' := fun b o _ _ _ h => e b o h
theorem Ob3.off {p q L : Addr} {H H' : Hp} (e : Off p q H H') : Ob3 p q L H H' := fun b o h1 h2 _ h => e b o h1 h2 h
theorem Ob3.put {p q L : Addr} {H : Hp} {o : HO} : Ob3 p q L H (upd H L o) := fun b u _ _ n h => by rw [upd_ne n]; exact h
theorem Ob3.trans {p q L : Addr} {H H1 H2 : Hp} (a : Ob3 p q L H H1) (b : Ob3 p q L H1 H2) : Ob3 p q L H H2 := fun c o n1 n2 n3 h => b c o n1 n2 n3 (a c o n1 n2 n3 h)
theorem Ob3.kp {p q L : Addr} {H H' : Hp} {lp lq lL : List V} (a : Ob3 p q L H H') (hp : H p = some (.lst lp)) (hq : H q = some (.lst lq)) (hL : H L = some (.lst lL)) : Kp H H' := fun b o hb k1 k2 =>
  a b o (fun z => by rw [z, hp] at hb; injection hb with hb; exact k1 _ hb.symm) (fun z => by rw [z, hq] at hb; injection hb with hb; exact k1 _ hb.symm) (fun z => by rw [z, hL] at hb; injection hb with hb; exact k1 _ hb.symm) hb
/-- what H' has and H has not -/
def Nw (H H' : Hp) : Hp := fun a => match H a with
  | none => H' a
  | some _ => none
theorem nw_sub {H H' : Hp} : Ex (Nw H H') H' := fun a o h => by
  unfold Nw at h
  split at h
  · exact h
  · cases h
theorem nw_at {H H' : Hp} {a : Addr} {o : HO} (h : H a = none) (h' : H' a = some o) : Nw H H' a = some o := by
  unfold Nw
  rw [h]
  exact h'
theorem nw_old {H H' : Hp} {a : Addr} {o : HO} (h : H a = some o) : Nw H H' a = none := by
  unfold Nw
  rw [h]
theorem nw_inv {H H' : Hp} {a : Addr} {o : HO} (h : Nw H H' a = some o) : H a = none ∧ H' a = some o := by
  unfold Nw at h
  split at h
  · rename_i e
    exact ⟨e, h⟩
  · cases h
/-- what was new stays new -/
theorem nw_mono {p q L : Addr} {H H1 H2 : Hp} (b : Ob3 p q L H1 H2) (hp : H p ≠ none) (hq : H q ≠ none) (hL : H L ≠ none) : Ex (Nw H H1) (Nw H H2) := fun a o h => by
  obtain ⟨h1, h2⟩ := nw_inv h
  exact nw_at h1 (b a o (fun z => by rw [z] at h1; exact hp h1) (fun z => by rw [z] at h1; exact hq h1) (fun z => by rw [z] at h1; exact hL h1) h2)
/-- what is new to more is new to less -/
theorem nw_less {H H1 H2 : Hp} (hd : ∀ a, H a ≠ none → H1 a ≠ none) : Ex (Nw H1 H2) (Nw H H2) := fun a o h => by
  obtain ⟨h1, h2⟩ := nw_inv h
  refine nw_at ?_ h2
  cases e : H a with
  | none => rfl
  | some u => exact absurd h1 (hd a (by rw [e]; simp))
end Wk

set_option Elab.async false
set_option linter.all false
set_option maxRecDepth 100000
set_option maxHeartbeats 400000
namespace Wk
open PySem PySem.Spec PyProof.Rows L2 Evl
section
variable {K : PySem.W.Frag} {p q : Addr} {σ : L2.St} {te ta tb : TE} {ds es : List PyData} {d : PyData} {G0 : Hp}
/-- tuples put together -/
theorem x_catA (ha : EvX G0 p q ta σ (.tuple ds)) (hb : EvX G0 p q tb σ (.tuple es)) (hl : ds.length + es.length ≤ 1000) : EvX G0 p q (tOp (rCatA K) ta tb) σ (.tuple (ds ++ es)) := fun G H e hP Q k =>
  ha G H e hP _ fun G1 H1 v g1 hv => hb G1 H1 (e.trans g1.ex) g1.pl _ fun G2 H2 u g2 hu => by
    have hv2 := hv.mono g2.ex
    cases hv2 with
    | @tup ca xs _ a1 a2 =>
      cases hu with
      | @tup cb ys _ b1 b2 =>
        have l1 := a2.length
        have l2 := b2.length
        refine ⟨_, _, _, _, rfl, rfl, st_of (g2.pl.ex _ _ a1), st_of (g2.pl.ex _ _ b1), by rw [sizeLine_eq]; omega, fun z => ?_, fun _ z => ?_, fun _ _ t ht => ?_⟩
        · subst z
          cases a2
          exact k G2 H2 _ (g1.trans g2) (.tup b1 b2)
        · subst z
          cases b2
          rw [List.append_nil] at k
          exact k G2 H2 _ (g1.trans g2) (.tup a1 a2)
        · have gn := Gr.new (o := .tup (xs ++ ys)) g2.pl ht
          exact k _ _ (.ref t) ((g1.trans g2).trans gn) (.tup upd_same ((a2.append b2).mono gn.ex))
/-- lists put together -/
theorem x_catL (ha : EvX G0 p q ta σ (.list ds)) (hb : EvX G0 p q tb σ (.list es)) (hl : ds.length + es.length ≤ 1000) : EvX G0 p q (tOp rCat ta tb) σ (.list (ds ++ es)) := fun G H e hP Q k =>
  ha G H e hP _ fun G1 H1 v g1 hv => hb G1 H1 (e.trans g1.ex) g1.pl _ fun G2 H2 u g2 hu => by
    have hv2 := hv.mono g2.ex
    cases hv2 with
    | @lst ca xs _ a1 a2 =>
      cases hu with
      | @lst cb ys _ b1 b2 =>
        have l1 := a2.length
        have l2 := b2.length
        refine ⟨_, _, _, _, rfl, rfl, g2.pl.ex _ _ a1, g2.pl.ex _ _ b1, by rw [sizeLine_eq]; omega, fun t ht => ?_⟩
        have gn := Gr.new (o := .lst (xs ++ ys)) g2.pl ht
        exact k _ _ (.ref t) ((g1.trans g2).trans gn) (.lst upd_same ((a2.append b2).mono gn.ex))
/-- an item of a tuple that stays -/
theorem x_ix {i j : Nat} {t : Addr} {ds : List PyData} (hv : σ[i]? = some (some (.ref t))) (h0 : Dq G0 (.ref t) (.tuple ds)) (hj : ds[j]? = some d) : EvX G0 p q (tOp (rIxT K) (tVar i) (tC (.int (j : Int)))) σ d := fun G H e hP Q k => by
  cases h0 with
  | tup a1 a2 =>
    obtain ⟨v, v1, v2⟩ := a2.at hj
    exact ev_at (K := K) (j := j) (ev_var hv) (st_of (hP.ex _ _ (e _ _ a1))) ev_c v1 H (Ex.refl _) _ fun H1 e1 => k G H1 v (Gr.ext hP e1) (v2.mono e)
end
/-- a display is told -/
theorem q_retX {G0 : Hp} {p q : Addr} {te : TE} {D : Ends} {σ : L2.St} {G H : Hp} {d : PyData} (h : EvX G0 p q te σ d) (e : Ex G0 G) (hP : Pl G H p q) (k : ∀ G' H' v, Gr p q G H G' H' → Dq G' v d → D.rt v H') : tRet te D σ H := h G H e hP _ k
/-- one of a display is told -/
theorem q_retPick {K : PySem.W.Frag} {G0 : Hp} {p q : Addr} {te : TE} {D : Ends} {σ : L2.St} {ds : List PyData} (z : Int) (h : EvX G0 p q te σ (.list ds)) (hz : z = (ds.length : Int)) (h0 : 0 < z) (h9 : z ≤ 1000) (hs : σ[0]? = some (some (.ref p))) {G H : Hp} (e : Ex G0 G) (hP : Pl G H p q) (k : ∀ G' H' v d, Gr p q G H G' H' → d ∈ ds → Dq G' v d → D.rt v H') :
    tRet (tOp (rIxL K) te (tCall spDraw [] E0 (tCons (tVar 0) (tCons (tC (.int z)) tNil)))) D σ H := x_pick h hz h0 h9 hs e hP k
end Wk

set_option Elab.async false
set_option linter.all false
set_option maxRecDepth 100000
set_option maxHeartbeats 400000
namespace Wk
open PySem PySem.Spec PyProof.Rows L2 Evl
def cutD (ds : List PyData) (lo hi : Option Int) : List PyData := (ds.drop (HT.sIx ds.length 0 lo)).take (HT.sIx ds.length ds.length hi - HT.sIx ds.length 0 lo)
theorem mem_cutD {ds : List PyData} {lo hi : Option Int} {e : PyData} (h : e ∈ cutD ds lo hi) : e ∈ ds := List.mem_of_mem_drop (List.mem_of_mem_take h)
section
variable {K : PySem.W.Frag} {p q : Addr} {σ : L2.St} {te : TE} {tl th : TO} {lo hi : Option Int} {ds : List PyData} {G0 : Hp}
/-- a piece of a tuple -/
theorem x_sl (h : EvX G0 p q te σ (.tuple ds)) (h1 : ∀ H, EvO tl σ H lo) (h2 : ∀ H, EvO th σ H hi) : EvX G0 p q (tSl (rSlA K) te tl th) σ (.tuple (cutD ds lo hi)) := fun G H e hP Q k =>
  h G H e hP _ fun G1 H1 v g1 hv => h1 H1 H1 (Ex.refl _) _ fun H2 e2 => h2 H2 H2 (Ex.refl _) _ fun H3 e3 => by
    have g3 := g1.trans (Gr.ext g1.pl (e2.trans e3))
    cases hv with
    | @tup a xs _ a1 a2 =>
      have l := a2.length
      refine ⟨a, xs, rfl, st_of (g3.pl.ex _ _ a1), fun hw => ?_, fun hw t ht => ?_⟩
      · have ec : cutD ds lo hi = ds := by
          rw [l] at hw
          unfold cutD
          rw [hw.1, hw.2]
          simp
        rw [ec] at k
        exact k G1 H3 (.ref a) g3 (.tup a1 a2)
      · have gn := Gr.new (o := .tup (cutV xs lo hi)) g3.pl ht
        have hz : DqA G1 (cutV xs lo hi) (cutD ds lo hi) := by
          unfold cutV cutD
          rw [l]
          exact (a2.drop _).take _
        exact k _ _ (.ref t) (g3.trans gn) (.tup upd_same (hz.mono gn.ex))
end
end Wk

set_option Elab.async false
set_option linter.all false
set_option maxRecDepth 100000
set_option maxHeartbeats 400000
namespace HT
open PySem PySem.Spec PySem.Calls PyProof.Rows
section
variable {prog : Program} {w : World} {A : Around} {E : Value → Shared → Prop} {s : Shared}
theorem adjust_rev (n : Nat) : Builtin.Slice.sliceAdjust none none (-1) (n : Int) = ((n : Int) - 1, -1) := rfl
theorem places_rev (n : Nat) : Builtin.Slice.slicePlaces ((n : Int) - 1) (-1) (-1) = n := by
  unfold Builtin.Slice.slicePlaces
  rw [if_neg (show ¬ ((-1 : Int) > 0) by decide), show (-(-1 : Int)) = 1 by decide, Int.ediv_one]
  split <;> omega
theorem sliceApplied_rev {sl : Addr} {vs : Value} {n : Nat} {Q : Int × Int × Nat → Shared → Prop} (hs : s.heap.IsSliceOf sl .none .none vs) (ps : IsPart vs (some (-1)))
    (h : Q ((n : Int) - 1, -1, n) s) : wpAny (model prog w) A (Builtin.Slice.sliceApplied (.ref sl) (pure (n : Int))) Q E s := by
  obtain ⟨os, hos, hcs, hds⟩ := id hs
  unfold Builtin.Slice.sliceApplied Builtin.Slice.sliceFields
  refine wpAny_bind (wpAny_bind (wpAny_field hos hds (x := .none) rfl (wpAny_bind (wpAny_field hos hds (x := .none) rfl (wpAny_bind (wpAny_field hos hds (x := vs) rfl (wpAny_pure ?_)))))))
  refine wpAny_bind (slicePart_ ps ?_)
  show wpAny _ _ (if ((-1 : Int) == 0) = true then _ else _) _ _ s
  rw [if_neg (by decide)]
  refine wpAny_bind (slicePart_none (wpAny_bind (slicePart_none (wpAny_bind (wpAny_pure ?_)))))
  show wpAny _ _ (match Builtin.Slice.sliceAdjust none none (-1) (n : Int) with | (lo, hi) => pure (lo, (-1 : Int), Builtin.Slice.slicePlaces lo hi (-1))) _ _ s
  rw [adjust_rev]
  show wpAny _ _ (pure ((n : Int) - 1, (-1 : Int), Builtin.Slice.slicePlaces ((n : Int) - 1) (-1) (-1))) _ _ s
  rw [places_rev]
  exact wpAny_pure h
theorem pick_rev (xs : Array Value) : ((List.range xs.size).filterMap fun (m : Nat) => xs[(((xs.size : Int) - 1) + (m : Int) * (-1)).toNat]?).toArray = xs.toList.reverse.toArray := by
  have e : (fun (m : Nat) => xs[(((xs.size : Int) - 1) + (m : Int) * (-1)).toNat]?) = fun m => xs[xs.size - 1 - m]? := by
    funext m
    by_cases c : m < xs.size
    · have : (((xs.size : Int) - 1) + (m : Int) * (-1)).toNat = xs.size - 1 - m := by omega
      rw [this]
    · have : (((xs.size : Int) - 1) + (m : Int) * (-1)).toNat = xs.size - 1 - m := by omega
      rw [this]
  rw [e]
  have h := PySem.W.krv_range xs.size
  have e2 : (List.range xs.size).filterMap (fun m => xs[xs.size - 1 - m]?) = ((List.range xs.size).map fun k => xs.size - 1 - k).filterMap (xs[·]?) := by
    rw [List.filterMap_map]
    rfl
  rw [e2, h, List.filterMap_reverse, PySem.W.krv_all]
theorem getItem_tuple_rev {t sl : Addr} {items : Array Value} {vs : Value} {Q : Value → Shared → Prop} (ht : IsTup s.heap t items) (hs : s.heap.IsSliceOf sl .none .none vs) (ps : IsPart vs (some (-1)))
    (h : Q (.ref s.heap.objs.size) { s with heap := s.heap.push { cls := .type "tuple", data := .seq items.toList.reverse.toArray } })
    (hsz : items.size ≤ sizeLine) : wpAny (model prog w) A (getItem (.ref t) (.ref sl)) Q E s := by
  have htake : sizeOk (.seq items.toList.reverse.toArray) := by
    show items.toList.reverse.toArray.size ≤ sizeLine
    rw [List.size_toArray, List.length_reverse, Array.length_toList]
    omega
  obtain ⟨os, hos, hcs, hds⟩ := id hs
  have hTs : s.TypeIs (.ref sl) "slice" := ⟨os, hos, hcs⟩
  unfold getItem
  try with_reducible refine wpAny_holding ?_
  first | refine wpAny_bind (wpAny_pure ?_) | skip
  refine wpAny_bind (wpAny_sequenceKey ht.typeIs (by decide) ?_)
  refine wpAny_bind (wpAny_callSpecial?_slot (name := Str.ofString "__getitem__") ht.typeIs PyProof.Rows.slot_tuple_getitem
    (wpAny_call_entry PyProof.Rows.slot_tuple_getitem ht.typeIs entry_tuple_getitem ?_ (args_tuple_getitem _ _)))
  show wpAny _ _ (Builtin.Tuple.tupleItemsOf (.ref t) >>= _) _ _ s
  refine wpAny_bind (tupleItemsOf_ ht ?_)
  refine wpAny_bind (wpAny_typeOf hTs ?_)
  rw [if_pos (by decide)]
  refine wpAny_bind (sliceApplied_rev hs ps ?_)
  have hno : ¬ ((((items.size : Int) - 1) == 0 && (-1 : Int) == 1 && items.size == items.size) = true) := by
    intro q
    rw [Bool.and_eq_true, Bool.and_eq_true] at q
    exact absurd (eq_of_beq q.1.2) (by decide)
  show wpAny _ _ (if (((items.size : Int) - 1) == 0 && (-1 : Int) == 1 && items.size == items.size) = true then _ else _) _ _ s
  rw [if_neg hno, pick_rev]
  first
    | exact wpAny_bind (m := Builtin.Tuple.tupleExact _) (wpAny_newObj_type (wpAny_pure ⟨_, rfl, wpAny_pure h⟩) htake)
    | exact wpAny_bind (m := Builtin.Tuple.tupleExact _) (wpAny_newObj_type (wpAny_bind (wpAny_pure (wpAny_pure ⟨_, rfl, wpAny_pure h⟩))) htake)
    | exact wpAny_bind (wpAny_bind (m := Builtin.Tuple.tupleExact _) (wpAny_newObj_type (wpAny_pure (wpAny_pure ⟨_, rfl, wpAny_pure h⟩)) htake))
    | exact wpAny_bind (wpAny_bind (m := Builtin.Tuple.tupleExact _) (wpAny_newObj_type (wpAny_pure ⟨_, rfl, wpAny_pure h⟩) htake))
end
end HT

set_option Elab.async false
set_option linter.all false
set_option maxRecDepth 100000
set_option maxHeartbeats 400000
namespace L2
open PySem PySem.Spec PyProof.Rows
section
variable {X : Cx}
/-- t[::-1], t a tuple -/
def tRevT (K : PySem.W.Frag) (te : TE) : TE := fun σ H Q => te σ H fun x H1 => ∃ a xs, x = .ref a ∧ SqT K H1 a xs ∧ ∀ p, H1 p = none → Q (.ref p) (upd H1 p (.tup xs.reverse))
theorem pe_revT {e : Expr} {te : TE} {k : Nat} {p1 p2 p3 pos : Pos} (he : PE X e te) : PE X (.Subscript e (.Slice none none (some (.UnaryOp .USub (.Constant (.int 1) k p1) p2)) p3) pos) (tRevT X.K te) := by
  refine ⟨fun pins s σ H Q I h => ?_⟩
  refine Subscript_ (thn (he.run pins s σ H _ I h) fun v s1 ⟨x, H1, I1, r1, q1⟩ => ?_)
  obtain ⟨a, xs, ex, hx, q⟩ := q1
  subst ex
  cases r1
  have hst : PO X (some (.UnaryOp .USub (.Constant (.int 1) k p1) p2)) (tPart (tUn (rU fun i => .int (-i)) (tC (.int 1)))) := po_some (pe_un un_neg pe_int)
  refine wpAny_Slice (thn (po_none.run pins s1 σ H1 (fun o H2 => o = none ∧ H2 = H1) I1 ⟨rfl, rfl⟩) fun vl s2 ⟨l, H2, I2, pl, el, e2⟩ => ?_)
  subst el e2
  refine thn (po_none.run pins s2 σ H2 (fun o H3 => o = none ∧ H3 = H2) I2 ⟨rfl, rfl⟩) fun vu s3 ⟨u, H3, I3, pu, eu, e3⟩ => ?_
  subst eu e3
  refine thn (hst.run pins s3 σ H3 (fun o H4 => o = some (-1) ∧ H4 = H3) I3 ⟨1, rfl, -1, rfl, rfl, rfl⟩) fun vs s4 ⟨o, H4, I4, ps, eo, e4⟩ => ?_
  subst eo e4
  cases pl
  cases pu
  have I5 : Inv X pins σ H4 { s4 with heap := s4.heap.push { cls := .type "slice", data := .fields #[.none, .none, vs] } } := I4.kept (t' := s4.toks) fun b ob q => Heap.get?_push_of_some _ q
  obtain ⟨its, r, ht, hz⟩ := I5.tuple hx
  have hlen := r.length
  show wpAny (model X.prog X.w) X.A (subscriptTail e (.Slice none none (some (.UnaryOp .USub (.Constant (.int 1) k p1) p2)) p3) (.ref a) (.ref s4.heap.objs.size)) (EP X pins σ Q) X.xe { s4 with heap := s4.heap.push { cls := .type "slice", data := .fields #[.none, .none, vs] } }
  refine tail_any (ops := [.ref a, .ref s4.heap.objs.size]) ht.typeIs (PyProof.Rows.slot_tuple_getitem.lookup) ?_ (by with_unfolding_all rfl)
  refine HT.getItem_tuple_rev ht (Heap.IsSliceOf.new _ .none .none vs) ps ?_ (by rw [List.size_toArray]; omega)
  refine ⟨.ref _, _, I5.laid (t' := s4.toks) (o := .tup xs.reverse) (fun b ob q => Heap.get?_push_of_some _ q) (Nat.le_refl _) ?_, rfl, q _ (I5.hok.fresh (Nat.le_refl _))⟩
  exact ⟨by rw [List.length_reverse]; exact hz, _, r.reverse, IsTup.new _ _⟩
end
end L2
namespace Wk
open PySem PySem.Spec PyProof.Rows L2 Evl
theorem dqa_rev {G : Hp} : ∀ {ds : List PyData} {vs : List V}, DqA G vs ds → DqA G vs.reverse ds.reverse
  | [], _, .nil => .nil
  | d :: ds, _, .cons (v := v) (vs := vs) a b => by
    rw [List.reverse_cons, List.reverse_cons]
    exact (dqa_rev b).put a
/-- a tuple turned round -/
theorem x_rev {K : PySem.W.Frag} {p q : Addr} {σ : L2.St} {te : TE} {ds : List PyData} {G0 : Hp} (h : EvX G0 p q te σ (.tuple ds)) : EvX G0 p q (tRevT K te) σ (.tuple ds.reverse) := fun G H e hP Q k =>
  h G H e hP _ fun G1 H1 v g1 hv => by
    cases hv with
    | @tup a xs _ a1 a2 =>
      refine ⟨a, xs, rfl, st_of (g1.pl.ex _ _ a1), fun t ht => ?_⟩
      have gn := Gr.new (o := .tup xs.reverse) g1.pl ht
      exact k _ _ (.ref t) (g1.trans gn) (.tup upd_same ((dqa_rev a2).mono gn.ex))
end Wk

set_option Elab.async false
set_option linter.all false
set_option maxRecDepth 100000
set_option maxHeartbeats 400000
namespace Wk
open PySem PySem.Spec PyProof.Rows L2 Evl
/-! what _law_exchanged may tell -/
theorem lf_one {x : PyData} (hx : SeqAt.shaped x = true) : Lf (.tuple [x]) := gt_of hx fun _ _ e => by cases e
theorem lf_two {x y : PyData} (hx : SeqAt.shaped x = true) : Lf (.tuple [x, y]) := gt_of hx fun _ _ e => by
  injection e with _ e
  cases e
theorem lf_three {x y z : PyData} (hx : SeqAt.shaped x = true) (hz : isTu z = false ∨ z = .tuple []) : Lf (.tuple [x, y, z]) := gt_of hx fun _ ds e => by
  injection e with _ e
  injection e with e _
  rcases hz with h | h
  · rw [e] at h
    cases h
  · rw [e] at h
    injection h
theorem lf_many {x y z u : PyData} {rest : List PyData} (hx : SeqAt.shaped x = true) : Lf (.tuple (x :: y :: z :: u :: rest)) := gt_of hx fun _ _ e => by
  injection e with _ e
  injection e with _ e
  cases e
theorem sh_of (s : Str) (h : PyData.strOk s = true) : SeqAt.shaped (.str s) = true := by
  unfold SeqAt.shaped
  simp [PyData.canLay0, PyData.depth, h]
theorem exch0 (r : Int) : ∀ d ∈ [PyData.tuple [.str "all"], .str "all", .tuple [.str "all", .int r], .list [.str "all"], .tuple [.str "none"], .tuple [.str "no"], .tuple [.str "take"], .tuple [.str "ALL"]], Lf d := fun d hd => by
  simp only [List.mem_cons, List.not_mem_nil, or_false] at hd
  rcases hd with rfl | rfl | rfl | rfl | rfl | rfl | rfl | rfl
  · exact lf_all
  · exact gt_nt rfl
  · exact lf_two sh_all
  · exact gt_nt rfl
  · exact lf_one (by decide +kernel)
  · exact lf_one sh_no
  · exact lf_one sh_take
  · exact lf_one (by decide +kernel)
theorem exch1 (r : Int) (b : Bool) : ∀ d ∈ [PyData.tuple [.str "no", .int r], .tuple [.str "no", .bool b], .tuple [.str "no", .none], .list [.str "no", .int r], .tuple [.str "no", .int r, .tuple []]] ++ [PyData.tuple [.str "no", .list [.int r]]], Lf d := fun d hd => by
  simp only [List.mem_append, List.mem_cons, List.not_mem_nil, or_false] at hd
  rcases hd with (rfl | rfl | rfl | rfl | rfl) | rfl
  · exact lf_no r
  · exact lf_no1 _
  · exact lf_no1 _
  · exact gt_nt rfl
  · exact lf_no2 _
  · exact lf_no1 _
theorem exch2 {m : Nat} {td : PyData} (h : Rt m td) (hm : m ≤ 7) : ∀ d ∈ [PyData.none, .tuple [], .dict [], .int 0, .bool true, .str "", .tuple [.none], .tuple [td], .tuple [td, td], .list [td], .tuple [.tuple [.str "all"]]], Lf d := fun d hd => by
  simp only [List.mem_cons, List.not_mem_nil, or_false] at hd
  rcases hd with rfl | rfl | rfl | rfl | rfl | rfl | rfl | rfl | rfl | rfl | rfl
  · exact gt_nt rfl
  · exact gt_nil
  · exact gt_nt rfl
  · exact gt_nt rfl
  · exact gt_nt rfl
  · exact gt_nt rfl
  · exact lf_one (by decide +kernel)
  · exact gt_in1 h hm
  · exact gt_in2 h hm
  · exact gt_nt rfl
  · exact lf_one (by decide +kernel)
/-- ("no", r) changed -/
theorem exch4n (r r' : Int) : ∀ d ∈ [PyData.tuple [.str "no", .int r'], .tuple [.str "no"], .tuple [.str "no", .int r, .tuple []]], Lf d := fun d hd => by
  simp only [List.mem_cons, List.not_mem_nil, or_false] at hd
  rcases hd with rfl | rfl | rfl
  · exact lf_no _
  · exact lf_one sh_no
  · exact lf_no2 _
/-- ("all",) changed -/
theorem exch4a (r' : Int) : ∀ d ∈ [PyData.tuple [.str "all", .int r'], .tuple [], .tuple [.str "all", .tuple []]], Lf d := fun d hd => by
  simp only [List.mem_cons, List.not_mem_nil, or_false] at hd
  rcases hd with rfl | rfl | rfl
  · exact lf_two sh_all
  · exact gt_nil
  · exact lf_two sh_all
/-- ("take", r, trees) changed -/
theorem exch4t {m : Nat} {ds : List PyData} (h : ∀ e ∈ ds, Rt m e) (r r' : Int) : ∀ d ∈ [PyData.tuple [.str "take", .int r', .tuple ds], .tuple [.str "take", .int r], .tuple [.str "take", .int r, .tuple ds, .tuple []]], Gt (m + 1) d := fun d hd => by
  simp only [List.mem_cons, List.not_mem_nil, or_false] at hd
  rcases hd with rfl | rfl | rfl
  · exact gt_kids sh_take h fun e he => he
  · exact lf_two sh_take _
  · exact lf_many sh_take _
/-- the trees changed -/
theorem exch6 {m : Nat} {ds : List PyData} (h : ∀ e ∈ ds, Rt m e) (r : Int) (at' : Nat) {x : PyData} (hx : x ∈ ds) (z : PyData) (hz : z ∈ [PyData.tuple (ds.take at' ++ ds.drop (at' + 1)), .tuple (ds ++ [x]), .list ds, .tuple ds.reverse, .tuple [], .tuple (ds.drop 1 ++ ds.take 1)]) : Gt (m + 1) (.tuple [.str "take", .int r, z]) := by
  simp only [List.mem_cons, List.not_mem_nil, or_false] at hz
  rcases hz with rfl | rfl | rfl | rfl | rfl | rfl
  · refine gt_kids sh_take h fun e he => ?_
    rcases List.mem_append.mp he with q | q
    · exact List.mem_of_mem_take q
    · exact List.mem_of_mem_drop q
  · refine gt_kids sh_take h fun e he => ?_
    rcases List.mem_append.mp he with q | q
    · exact q
    · rw [List.mem_singleton.mp q]; exact hx
  · exact lf_three sh_take (.inl rfl) _
  · exact gt_kids sh_take h fun e he => List.mem_reverse.mp he
  · exact lf_three sh_take (.inr rfl) _
  · refine gt_kids sh_take h fun e he => ?_
    rcases List.mem_append.mp he with q | q
    · exact List.mem_of_mem_drop q
    · exact List.mem_of_mem_take q
/-- the name changed -/
theorem exch7 {m : Nat} {ds : List PyData} (h : ∀ e ∈ ds, Rt m e) (r : PyData) (x : PyData) (hx : x ∈ [PyData.str "no", .str "taken", .str "all", .str "", .none]) : Gt (m + 1) (.tuple [x, r, .tuple ds]) := by
  refine gt_kids ?_ h fun e he => he
  simp only [List.mem_cons, List.not_mem_nil, or_false] at hx
  rcases hx with rfl | rfl | rfl | rfl | rfl <;> decide +kernel
/-- one of a tuple display is told -/
theorem q_retPickT {K : PySem.W.Frag} {G0 : Hp} {p q : Addr} {te : TE} {D : Ends} {σ : L2.St} {ds : List PyData} (z : Int) (h : EvX G0 p q te σ (.tuple ds)) (hz : z = (ds.length : Int)) (h0 : 0 < z) (h9 : z ≤ 1000) (hs : σ[0]? = some (some (.ref p))) {G H : Hp} (e : Ex G0 G) (hP : Pl G H p q) (k : ∀ G' H' v d, Gr p q G H G' H' → d ∈ ds → Dq G' v d → D.rt v H') :
    tRet (tOp (rIxT K) te (tCall spDraw [] E0 (tCons (tVar 0) (tCons (tC (.int z)) tNil)))) D σ H := by
  refine h G H e hP _ fun G1 H1 v1 g1 hv1 => ?_
  cases hv1 with
  | @tup A xs _ a1 a2 =>
    refine ⟨.ref p, hs, ⟨_, p, q, z, rfl, g1.pl.hd, h0, by omega, fun H2 j h2 hj0 hj1 => ?_⟩⟩
    have g2 := g1.trans (Gr.draw g1.pl h2)
    have l1 := a2.length
    obtain ⟨m, rfl⟩ : ∃ m : Nat, j = (m : Int) := ⟨j.toNat, by omega⟩
    have hm : m < ds.length := by omega
    obtain ⟨u, hu1, hu2⟩ := a2.at (List.getElem?_eq_getElem hm)
    exact ⟨A, xs, (m : Int), u, rfl, rfl, st_of (g2.pl.ex _ _ a1), atI_nat hu1, k _ H2 u _ g2 (List.getElem_mem hm) hu2⟩
end Wk

set_option Elab.async false
set_option linter.all false
set_option maxRecDepth 100000
set_option maxHeartbeats 400000
namespace Wk
open PySem PySem.Spec PyProof.Rows L2 Evl
theorem len_cutD {ds : List PyData} {lo hi : Option Int} : (cutD ds lo hi).length ≤ ds.length := by
  unfold cutD
  rw [List.length_take, List.length_drop]
  omega
/-- a tree of any shape changed -/
theorem exch4 {m : Nat} {x : PyData} {rest : List PyData} (h : Rt m (.tuple (x :: rest))) (r' : Int) : ∀ d ∈ [PyData.tuple (([x] ++ [.int r']) ++ cutD (x :: rest) (some 2) none), .tuple (cutD (x :: rest) none (some (-1))), .tuple ((x :: rest) ++ [.tuple []])], Gt m d := by
  have hn : ∀ r : Int, ∀ d ∈ [PyData.tuple (([.str "no"] ++ [.int r']) ++ cutD [.str "no", .int r] (some 2) none), .tuple (cutD [.str "no", .int r] none (some (-1))), .tuple ([.str "no", .int r] ++ [.tuple []])], Lf d := fun r d hd => by
    have c1 : cutD [.str "no", .int r] (some 2) none = [] := rfl
    have c2 : cutD [.str "no", .int r] none (some (-1)) = [.str "no"] := rfl
    rw [c1, c2] at hd
    exact exch4n r r' d hd
  have ha : ∀ d ∈ [PyData.tuple (([.str "all"] ++ [.int r']) ++ cutD [.str "all"] (some 2) none), .tuple (cutD [.str "all"] none (some (-1))), .tuple ([.str "all"] ++ [.tuple []])], Lf d := fun d hd => by
    have c1 : cutD [.str "all"] (some 2) none = [] := rfl
    have c2 : cutD [.str "all"] none (some (-1)) = [] := rfl
    rw [c1, c2] at hd
    exact exch4a r' d hd
  cases m with
  | zero =>
    rcases h with ⟨r, e⟩ | e
    · injection e with e
      injection e with e1 e2
      subst e1
      subst e2
      exact fun d hd => hn r d hd 0
    · injection e with e
      injection e with e1 e2
      subst e1
      subst e2
      exact fun d hd => ha d hd 0
  | succ m =>
    rcases h with ⟨r, e⟩ | e | ⟨r, ds, e, _, _, hc⟩
    · injection e with e
      injection e with e1 e2
      subst e1
      subst e2
      exact fun d hd => hn r d hd _
    · injection e with e
      injection e with e1 e2
      subst e1
      subst e2
      exact fun d hd => ha d hd _
    · injection e with e
      injection e with e1 e2
      subst e1
      subst e2
      intro d hd
      have c1 : cutD [.str "take", .int r, .tuple ds] (some 2) none = [.tuple ds] := rfl
      have c2 : cutD [.str "take", .int r, .tuple ds] none (some (-1)) = [.str "take", .int r] := rfl
      rw [c1, c2] at hd
      exact exch4t hc r r' d hd
/-- a tree of three -/
theorem Rt.three {m : Nat} {x : PyData} {rest : List PyData} (h : Rt m (.tuple (x :: rest))) (hl : rest.length = 2) : ∃ (n : Nat) (r : Int) (ds : List PyData), m = n + 1 ∧ x = .str "take" ∧ rest = [.int r, .tuple ds] ∧ 1 ≤ ds.length ∧ ds.length ≤ 7 ∧ ∀ e ∈ ds, Rt n e := by
  cases m with
  | zero =>
    rcases h with ⟨r, e⟩ | e <;> (injection e with e; injection e with e1 e2; subst e2; simp at hl)
  | succ m =>
    rcases h with ⟨r, e⟩ | e | ⟨r, ds, e, h1, h7, hc⟩
    · injection e with e; injection e with e1 e2; subst e2; simp at hl
    · injection e with e; injection e with e1 e2; subst e2; simp at hl
    · injection e with e
      injection e with e1 e2
      exact ⟨m, r, ds, rfl, e1, e2, h1, h7, hc⟩
theorem exch6c {m : Nat} {ds : List PyData} (h : ∀ e ∈ ds, Rt m e) (r : Int) (a b : Int) {x : PyData} (hx : x ∈ ds) (z : PyData) (hz : z ∈ [PyData.tuple (cutD ds none (some a) ++ cutD ds (some b) none), .tuple (ds ++ [x]), .list ds, .tuple ds.reverse, .tuple []] ++ [.tuple (cutD ds (some 1) none ++ cutD ds none (some 1))]) : Gt (m + 1) (.tuple [.str "take", .int r, z]) := by
  simp only [List.mem_append, List.mem_cons, List.not_mem_nil, or_false] at hz
  rcases hz with (rfl | rfl | rfl | rfl | rfl) | rfl
  · refine gt_kids sh_take h fun e he => ?_
    rcases List.mem_append.mp he with q | q <;> exact mem_cutD q
  · refine gt_kids sh_take h fun e he => ?_
    rcases List.mem_append.mp he with q | q
    · exact q
    · rw [List.mem_singleton.mp q]; exact hx
  · exact lf_three sh_take (.inl rfl) _
  · exact gt_kids sh_take h fun e he => List.mem_reverse.mp he
  · exact lf_three sh_take (.inr rfl) _
  · refine gt_kids sh_take h fun e he => ?_
    rcases List.mem_append.mp he with q | q <;> exact mem_cutD q
/-! a display with one item that is picked -/
def EvW (G0 : Hp) (p q : Addr) (te : TE) (σ : L2.St) (S : PyData → Prop) : Prop := ∀ G H, Ex G0 G → Pl G H p q → ∀ Q : VK, (∀ G' H' v d, Gr p q G H G' H' → S d → Dq G' v d → Q v H') → te σ H Q
section
variable {K : PySem.W.Frag} {p q : Addr} {σ : L2.St} {te ta tb tc : TE} {d : PyData} {ds : List PyData} {G0 : Hp} {S A B C : PyData → Prop}
theorem y_x (h : EvX G0 p q te σ d) : EvW G0 p q te σ (fun x => x = d) := fun G H e hP Q k => h G H e hP Q fun G' H' v g hv => k G' H' v d g rfl hv
theorem y_pick {z : Int} (h : EvX G0 p q te σ (.list ds)) (hz : z = (ds.length : Int)) (h0 : 0 < z) (h9 : z ≤ 1000) (hs : σ[0]? = some (some (.ref p))) : EvW G0 p q (tOp (rIxL K) te (tCall spDraw [] E0 (tCons (tVar 0) (tCons (tC (.int z)) tNil)))) σ (fun x => x ∈ ds) := fun G H e hP Q k => x_pick h hz h0 h9 hs e hP k
theorem q_ret3 (ha : EvW G0 p q ta σ A) (hb : EvW G0 p q tb σ B) (hc : EvW G0 p q tc σ C) {D : Ends} {G H : Hp} (e : Ex G0 G) (hP : Pl G H p q) (k : ∀ G' H' v a b c, Gr p q G H G' H' → A a → B b → C c → Dq G' v (.tuple [a, b, c]) → D.rt v H') : tRet (tTup (tCons ta (tCons tb (tCons tc tNil)))) D σ H :=
  ha G H e hP _ fun G1 H1 v1 a g1 h1 d1 => hb G1 H1 (e.trans g1.ex) g1.pl _ fun G2 H2 v2 b g2 h2 d2 => hc G2 H2 (e.trans (g1.trans g2).ex) g2.pl _ fun G3 H3 v3 c g3 h3 d3 =>
    ⟨by show 3 ≤ sizeLine; decide, fun t ht => by
      have gn := Gr.new (o := .tup [v1, v2, v3]) g3.pl ht
      exact k _ _ (.ref t) a b c (((g1.trans g2).trans g3).trans gn) h1 h2 h3 (.tup upd_same (.cons (d1.mono ((g2.trans g3).trans gn).ex) (.cons (d2.mono (g3.trans gn).ex) (.cons (d3.mono gn.ex) .nil))))⟩
/-- a new list of a tuple's things -/
theorem x_listT (h : EvX G0 p q te σ (.tuple ds)) : EvX G0 p q (tCB (rListS K) (tCons te tNil)) σ (.list ds) := fun G H e hP Q k =>
  h G H e hP _ fun G1 H1 v1 g1 hv => by
    cases hv with
    | @tup a xs _ a1 a2 =>
      refine ⟨a, xs, rfl, .inr (st_of (g1.pl.ex _ _ a1)), fun c hc => ?_⟩
      have gn := Gr.new (o := .lst xs) g1.pl hc
      exact k _ _ (.ref c) (g1.trans gn) (.lst upd_same (a2.mono gn.ex))
/-- a new list, an item put behind it -/
theorem q_mkApp {i : Nat} {ta : TA} {tz : TS} {D : Ends} {G H : Hp} (h : EvXA G0 p q ta σ ds) (hl : ds.length ≤ 1000) (h2 : ∀ A, EvX G0 p q te (σ.set i (some (.ref A))) d) (hi : ∀ A : Addr, (σ.set i (some (.ref A)))[i]? = some (some (.ref A))) (e : Ex G0 G) (hP : Pl G H p q)
    (k : ∀ G' H' A, Gr p q G H G' H' → Dq G' (.ref A) (.list (ds ++ [d])) → tz D (σ.set i (some (.ref A))) H') : tSeq (tAsg (tLst ta) (gName i)) (tSeq (tDrop (tBM K "list" rAppend (tVar i) (tCons te tNil))) tz) D σ H :=
  h G H e hP _ fun G1 H1 vs g1 hvs => ⟨by have := hvs.length; rw [sizeLine_eq]; omega, fun A hA => by
    have l1 := hvs.length
    have np := g1.pl.np hA
    have nq := g1.pl.nq hA
    have gA1 := fresh_back g1.pl.ex hA
    refine ⟨.ref A, hi A, .inl ⟨rfl, vs, sq_of upd_same⟩, h2 A G1 _ (e.trans g1.ex) (g1.pl.ext (Ex.new hA)) _ fun G3 H3 v g3 hd => ?_⟩
    have a3 := g3.off A _ np nq upd_same
    have gA3 := g3.nw A gA1 (by rw [upd_same]; simp)
    have eG : Ex G3 (upd G3 A (.lst (vs ++ [v]))) := Ex.new gA3
    refine ⟨A, vs, v, rfl, rfl, a3, sz_lt (by omega), k (upd G3 A (.lst (vs ++ [v]))) _ A (g1.trans ⟨g3.ex.trans eG, fun b hb hh => ?_, fun b o b1 b2 hb => ?_, (g3.pl.mut gA3 np nq).hold upd_same np nq⟩) (.lst upd_same ?_)⟩
    · have nb : b ≠ A := fun z => hh (by rw [z]; exact hA)
      rw [upd_ne nb]
      exact g3.nw b hb (by rw [upd_ne nb]; exact hh)
    · have nb : b ≠ A := fun z => by rw [z, hA] at hb; cases hb
      rw [upd_ne nb]
      exact g3.off b o b1 b2 (by rw [upd_ne nb]; exact hb)
    · exact (hvs.mono (g3.ex.trans eG)).append (.cons (hd.mono eG) .nil)⟩
end
end Wk

set_option Elab.async false
set_option linter.all false
set_option maxRecDepth 100000
set_option maxHeartbeats 400000
namespace Wk
open PySem PySem.Spec PyProof.Rows L2 Evl
section
variable {P : Program} {w : World} {K : PySem.W.Frag} {mg : Str → Option Value} {base : Heap} {f : Addr} {fd : FuncData}
/-! _law_exchanged -/
def spExch : Sp := fun vs H Q _ => ∃ (m : Nat) (G : Hp) (p q : Addr) (n : Nat) (tv : V) (td : PyData), vs = [.ref p, tv, .int (n : Int)] ∧ Pl G H p q ∧ 2 ≤ n ∧ n ≤ 8 ∧ m ≤ 7 ∧ Dq G tv td ∧ Rt m td ∧ ∀ G' H' v d, Gr p q G H G' H' → Dq G' v d → Gt m d → Q v H'
abbrev sExch : Stmt := top 47
abbrev nExch : List Str := ["_law_pool_here", "_law_tree_here", "_law_size", "_law_kind", "_law_router", "_law_things", "_law_trees", "_law_at", "_law_others"]
theorem scExch : FnScope nExch ["_law_pool_here", "_law_tree_here", "_law_size"] (defScope sExch) := ⟨rfl, rfl, rfl, by decide +kernel, rfl, by decide +kernel, by decide +kernel⟩
theorem ok_exch (B : Bl mg) (C : Cal P w K mg base "_law_draw" ["_law_pool_here", "_law_size"] 1 spDraw) (F : FnP K "_law_exchanged" sExch f fd) : FnOk P w K mg base CX0 2 f fd ["_law_pool_here", "_law_tree_here", "_law_size"] spExch := by
  refine F.ok scExch (fun vs H Q E h => ?_) (fun cdv A outer s H vs Q E hr h => ?_)
  · obtain ⟨m, G, p, q, n, tv, td, rfl, _⟩ := h
    rfl
  · obtain ⟨m, G, p, q, n, tv, td, rfl, hP, hn2, hn8, hm, hd, hrt, k⟩ := h
    refine ⟨_, pss_cons (ps_set (i := 3) scExch.nd rfl (Or.inl rfl) (pe_cal C hr (by rfl) (pa_cons (pv 0) (pa_cons pe_int pa_nil))))
      (pss_cons (ps_set (i := 4) scExch.nd rfl (Or.inl rfl) (pe_cal C hr (by rfl) (pa_cons (pv 0) (pa_cons (pe_op op_add (pv 2) pe_int) pa_nil))))
      (pss_cons (ps_if (pt_cmpR op_eq (pv 3) pe_int (nomark _)) (pss_one (ps_ret (pe_ix (ix_listK (K := K) rfl) (pe_lst (pa_cons (pe_tup (pa_cons pe_str pa_nil)) (pa_cons pe_str (pa_cons (pe_tup (pa_cons pe_str (pa_cons (pv 4) pa_nil))) (pa_cons (pe_lst (pa_cons pe_str pa_nil)) (pa_cons (pe_tup (pa_cons pe_str pa_nil)) (pa_cons (pe_tup (pa_cons pe_str pa_nil)) (pa_cons (pe_tup (pa_cons pe_str pa_nil)) (pa_cons (pe_tup (pa_cons pe_str pa_nil)) pa_nil))))))))) (pe_cal C hr (by rfl) (pa_cons (pv 0) (pa_cons pe_int pa_nil))) (fun _ _ => rfl)))) pss_nil)
      (pss_cons (ps_if (pt_cmpR op_eq (pv 3) pe_int (nomark _))
        (pss_cons (ps_set (i := 5) scExch.nd rfl (Or.inl rfl) (pe_lst (pa_cons (pe_tup (pa_cons pe_str (pa_cons (pv 4) pa_nil))) (pa_cons (pe_tup (pa_cons pe_str (pa_cons (pe_cmpR op_eq (pv 4) pe_int (nomark _)) pa_nil))) (pa_cons (pe_tup (pa_cons pe_str (pa_cons pe_non pa_nil))) (pa_cons (pe_lst (pa_cons pe_str (pa_cons (pv 4) pa_nil))) (pa_cons (pe_tup (pa_cons pe_str (pa_cons (pv 4) (pa_cons (pe_tup pa_nil) pa_nil)))) pa_nil)))))))
        (pss_one (ps_ret (pe_ix (ix_listK (K := K) rfl) (pe_op op_cat (pv 5) (pe_lst (pa_cons (pe_tup (pa_cons pe_str (pa_cons (pe_lst (pa_cons (pv 4) pa_nil)) pa_nil))) pa_nil))) (pe_cal C hr (by rfl) (pa_cons (pv 0) (pa_cons pe_int pa_nil))) (fun _ _ => rfl))))) pss_nil)
      (pss_cons (ps_if (pt_cmpR op_eq (pv 3) pe_int (nomark _)) (pss_one (ps_ret (pe_ix (ix_listK (K := K) rfl) (pe_lst (pa_cons pe_non (pa_cons (pe_tup pa_nil) (pa_cons pe_dnewK (pa_cons pe_int (pa_cons pe_bl (pa_cons pe_str (pa_cons (pe_tup (pa_cons pe_non pa_nil)) (pa_cons (pe_tup (pa_cons (pv 1) pa_nil)) (pa_cons (pe_tup (pa_cons (pv 1) (pa_cons (pv 1) pa_nil))) (pa_cons (pe_lst (pa_cons (pv 1) pa_nil)) (pa_cons (pe_tup (pa_cons (pe_tup (pa_cons pe_str pa_nil)) pa_nil)) pa_nil)))))))))))) (pe_cal C hr (by rfl) (pa_cons (pv 0) (pa_cons pe_int pa_nil))) (fun _ _ => rfl)))) pss_nil)
      (pss_cons (ps_if (pt_cmpR op_eq (pv 3) pe_int (nomark _)) (pss_one (ps_ret (pe_callTy (call_listK2 (K := K) rfl) (by rfl) B.list PyProof.Rows.boot_list (pa_cons (pv 1) pa_nil)))) pss_nil)
      (pss_cons (ps_if (PW.pt (pw_or (pt_cmpR op_eq (pv 3) pe_int (nomark _)) (pw_or1 (pt_cmpR op_ne (pe_callB call_len_seq (by rfl) B.len PySem.boot_len (pa_cons (pv 1) pa_nil)) pe_int (nomark _))))) (pss_one (ps_ret (pe_ix ix_tup (pe_tup (pa_cons (pe_op op_catA (pe_op op_catA (pe_tup (pa_cons (pe_ix ix_tup (pv 1) pe_int (fun _ _ => rfl)) pa_nil)) (pe_tup (pa_cons (pv 4) pa_nil))) (pe_slice sl_tupA (pv 1) (po_some pe_int) po_none)) (pa_cons (pe_slice sl_tupA (pv 1) po_none (po_some (pe_un un_neg pe_int))) (pa_cons (pe_op op_catA (pv 1) (pe_tup (pa_cons (pe_tup pa_nil) pa_nil))) pa_nil)))) (pe_cal C hr (by rfl) (pa_cons (pv 0) (pa_cons pe_int pa_nil))) (fun _ _ => rfl)))) pss_nil)
      (pss_cons (ps_set (i := 6) scExch.nd rfl (Or.inl rfl) (pe_ix ix_tup (pv 1) pe_int (fun _ _ => rfl)))
      (pss_cons (ps_set (i := 7) scExch.nd rfl (Or.inl rfl) (pe_cal C hr (by rfl) (pa_cons (pv 0) (pa_cons (pe_callB call_len_seq (by rfl) B.len PySem.boot_len (pa_cons (pv 6) pa_nil)) pa_nil))))
      (pss_cons (ps_if (pt_cmpR op_eq (pv 3) pe_int (nomark _)) (pss_one (ps_ret (pe_tup (pa_cons (pe_ix ix_tup (pv 1) pe_int (fun _ _ => rfl)) (pa_cons (pe_ix (ix_listK (K := K) rfl) (pe_lst (pa_cons (pe_cmpR op_eq (pe_ix ix_tup (pv 1) pe_int (fun _ _ => rfl)) pe_int (nomark _)) (pa_cons (pe_lst (pa_cons (pe_ix ix_tup (pv 1) pe_int (fun _ _ => rfl)) pa_nil)) pa_nil))) (pe_cal C hr (by rfl) (pa_cons (pv 0) (pa_cons pe_int pa_nil))) (fun _ _ => rfl)) (pa_cons (pv 6) pa_nil)))))) pss_nil)
      (pss_cons (ps_if (pt_cmpR op_eq (pv 3) pe_int (nomark _)) (pss_cons (ps_set (i := 8) scExch.nd rfl (Or.inl rfl) (pe_lst (pa_cons (pe_op op_catA (pe_slice sl_tupA (pv 6) po_none (po_some (pv 7))) (pe_slice sl_tupA (pv 6) (po_some (pe_op op_add (pv 7) pe_int)) po_none)) (pa_cons (pe_op op_catA (pv 6) (pe_tup (pa_cons (pe_ix ix_tup (pv 6) (pv 7) (fun _ _ => rfl)) pa_nil))) (pa_cons (pe_callTy (call_listK2 (K := K) rfl) (by rfl) B.list PyProof.Rows.boot_list (pa_cons (pv 6) pa_nil)) (pa_cons (pe_revT (pv 6)) (pa_cons (pe_tup pa_nil) pa_nil))))))) (pss_cons (ps_expr (pe_bm PySem.F.plainAttrs_list PySem.F.slot_list_append PySem.F.type_list_append mt_append (pv 8) (pa_cons (pe_op op_catA (pe_slice sl_tupA (pv 6) (po_some pe_int) po_none) (pe_slice sl_tupA (pv 6) po_none (po_some pe_int))) pa_nil))) (pss_one (ps_ret (pe_tup (pa_cons (pe_ix ix_tup (pv 1) pe_int (fun _ _ => rfl)) (pa_cons (pe_ix ix_tup (pv 1) pe_int (fun _ _ => rfl)) (pa_cons (pe_ix (ix_listK (K := K) rfl) (pv 8) (pe_cal C hr (by rfl) (pa_cons (pv 0) (pa_cons pe_int pa_nil))) (fun _ _ => rfl)) pa_nil)))))))) pss_nil)
      (pss_one (ps_ret (pe_tup (pa_cons (pe_ix (ix_listK (K := K) rfl) (pe_lst (pa_cons pe_str (pa_cons pe_str (pa_cons pe_str (pa_cons pe_str (pa_cons pe_non pa_nil)))))) (pe_cal C hr (by rfl) (pa_cons (pv 0) (pa_cons pe_int pa_nil))) (fun _ _ => rfl)) (pa_cons (pe_ix ix_tup (pv 1) pe_int (fun _ _ => rfl)) (pa_cons (pv 6) pa_nil)))))))))))))))), ?_⟩
    refine ⟨.ref p, rfl, Hd H p q, p, q, 8, rfl, hP.hd, by decide, by decide, fun H1 y h1 hy0 hy1 => ?_⟩
    have g1 := Gr.draw hP h1
    refine g_name ?_
    change tSeq _ _ _ [some (.ref p), some tv, some (.int (n : Int)), some (.int y), none, none, none, none, none] H1
    refine ⟨.ref p, rfl, .int (n : Int), rfl, (n : Int), 1, rfl, rfl, Hd H1 p q, p, q, (n : Int) + 1, rfl, g1.pl.hd, by omega, by omega, fun H2 r h2 hr0 hr1 => ?_⟩
    have g2 := g1.trans (Gr.draw g1.pl h2)
    clear h1 h2
    refine g_name ?_
    change tSeq _ _ _ [some (.ref p), some tv, some (.int (n : Int)), some (.int y), some (.int r), none, none, none, none] H2
    have vr : ∀ {G0 : Hp} {o5 o6 o7 o8 : Option V}, EvX G0 p q (tVar 4) [some (.ref p), some tv, some (.int (n : Int)), some (.int y), some (.int r), o5, o6, o7, o8] (.int r) := fun {G0 o5 o6 o7 o8} => x_of (ed_int rfl)
    refine q_when (b := decide (V.int y = V.int 0)) (et_test (ev_op (ev_var (i := 3) rfl) ev_c (rv_eq rfl))) (fun hb H3 e3 => ?_) (fun hb H3 e3 => ?_)
    · have g3 := g2.trans (Gr.ext g2.pl e3)
      exact q_retPick (K := K) (G0 := G) 8 (x_lst (x_cons (x_tup (x_cons (x_str _) x_nil) (by simp)) (x_cons (x_str _) (x_cons (x_tup (x_cons (x_str _) (x_cons vr x_nil)) (by simp)) (x_cons (x_lst (x_cons (x_str _) x_nil) (by simp)) (x_cons (x_tup (x_cons (x_str _) x_nil) (by simp)) (x_cons (x_tup (x_cons (x_str _) x_nil) (by simp)) (x_cons (x_tup (x_cons (x_str _) x_nil) (by simp)) (x_cons (x_tup (x_cons (x_str _) x_nil) (by simp)) x_nil)))))))) (by simp)) rfl (by simp) (by simp) rfl (Ex.refl _) g3.pl fun G' H' v d g hd hv => k G' H' v d (g3.trans g) hv (exch0 r d hd m)
    have g3 := g2.trans (Gr.ext g2.pl e3)
    refine q_when (b := decide (V.int y = V.int 1)) (et_test (ev_op (ev_var (i := 3) rfl) ev_c (rv_eq rfl))) (fun hb1 H4 e4 => ?_) (fun hb1 H4 e4 => ?_)
    · have g4 := g3.trans (Gr.ext g3.pl e4)
      refine q_asgX (G0 := G) (d := .list [.tuple [.str "no", .int r], .tuple [.str "no", .bool (decide (V.int r = V.int 1))], .tuple [.str "no", .none], .list [.str "no", .int r], .tuple [.str "no", .int r, .tuple []]])
        (x_lst (x_cons (x_tup (x_cons (x_str _) (x_cons vr x_nil)) (by simp)) (x_cons (x_tup (x_cons (x_str _) (x_cons (x_ev (fun H e => ev_op (ev_var (i := 4) rfl) ev_c (rv_eq rfl)) (fun G e => .bl _)) x_nil)) (by simp)) (x_cons (x_tup (x_cons (x_str _) (x_cons (x_c fun G => .non) x_nil)) (by simp)) (x_cons (x_lst (x_cons (x_str _) (x_cons vr x_nil)) (by simp)) (x_cons (x_tup (x_cons (x_str _) (x_cons vr (x_cons (x_tup x_nil (by simp)) x_nil))) (by simp)) x_nil))))) (by simp)) (Ex.refl _) g4.pl fun G5 H5 v5 g5 hv5 => ?_
      change tRet _ _ [some (.ref p), some tv, some (.int (n : Int)), some (.int y), some (.int r), some v5, none, none, none] H5
      exact q_retPick (K := K) (G0 := G5) 6 (x_catL (x_var (i := 5) rfl hv5) (x_lst (x_cons (x_tup (x_cons (x_str _) (x_cons (x_lst (x_cons vr x_nil) (by simp)) x_nil)) (by simp)) x_nil) (by simp)) (by simp)) rfl (by simp) (by simp) rfl (Ex.refl _) g5.pl fun G' H' v d g hd hv => k G' H' v d ((g4.trans g5).trans g) hv (exch1 r _ d hd m)
    have g4 := g3.trans (Gr.ext g3.pl e4)
    refine q_when (b := decide (V.int y = V.int 2)) (et_test (ev_op (ev_var (i := 3) rfl) ev_c (rv_eq rfl))) (fun hb2 H5 e5 => ?_) (fun hb2 H5 e5 => ?_)
    · have g5 := g4.trans (Gr.ext g4.pl e5)
      exact q_retPick (K := K) (G0 := G) 11 (x_lst (x_cons (x_c fun G => .non) (x_cons (x_tup x_nil (by simp)) (x_cons (x_of ed_dict) (x_cons (x_c fun G => .int 0) (x_cons (x_c fun G => .bl true) (x_cons (x_str _) (x_cons (x_tup (x_cons (x_c fun G => .non) x_nil) (by simp)) (x_cons (x_tup (x_cons (x_var (i := 1) rfl hd) x_nil) (by simp)) (x_cons (x_tup (x_cons (x_var (i := 1) rfl hd) (x_cons (x_var (i := 1) rfl hd) x_nil)) (by simp)) (x_cons (x_lst (x_cons (x_var (i := 1) rfl hd) x_nil) (by simp)) (x_cons (x_tup (x_cons (x_tup (x_cons (x_str _) x_nil) (by simp)) x_nil) (by simp)) x_nil))))))))))) (by simp)) rfl (by simp) (by simp) rfl (Ex.refl _) g5.pl fun G' H' v d g hd' hv => k G' H' v d (g5.trans g) hv (exch2 hrt hm d hd' m)
    have g5 := g4.trans (Gr.ext g4.pl e5)
    obtain ⟨tag, rest, rfl, hsh, hrl⟩ := hrt.tu
    obtain ⟨ta, ts, ds0, rfl, e0, s1, s2⟩ := dq_tup hd rfl
    injection e0 with e0
    subst e0
    refine q_when (b := decide (V.int y = V.int 3)) (et_test (ev_op (ev_var (i := 3) rfl) ev_c (rv_eq rfl))) (fun hb3 H6 e6 => ?_) (fun hb3 H6 e6 => ?_)
    · have g6 := g5.trans (Gr.ext g5.pl e6)
      refine ⟨.ref ta, rfl, ta, ts, rfl, .inr (st_of (g6.pl.ex _ _ (g6.ex _ _ s1))), fun c hc => ?_⟩
      have gn := Gr.new (o := .lst ts) g6.pl hc
      exact k _ _ (.ref c) _ (g6.trans gn) (.lst upd_same (s2.mono (g6.ex.trans gn.ex))) (gt_nt rfl m)
    have g6 := g5.trans (Gr.ext g5.pl e6)
    have hT6 : H6 ta = some (.tup ts) := g6.pl.ex _ _ (g6.ex _ _ s1)
    have htl : ts.length = (PyData.str tag :: rest).length := s2.length
    have hln : Ev (tCB (rLenS K) (tCons (tVar 1) tNil)) [some (.ref p), some (.ref ta), some (.int (n : Int)), some (.int y), some (.int r), none, none, none, none] H6 (.int (((PyData.str tag :: rest).length : Nat) : Int)) := by
      rw [← htl]
      exact ev_lenT (K := K) (ev_var (i := 1) rfl) (st_of hT6)
    refine q_when (b := decide (V.int y = V.int 4) || !decide (V.int (((PyData.str tag :: rest).length : Nat) : Int) = V.int 3)) (et_or (et_test (ev_op (ev_var (i := 3) rfl) ev_c (rv_eq rfl))) fun _ => et_test (ev_op hln ev_c (rv_ne rfl))) (fun hb4 H7 e7 => ?_) (fun hb4 H7 e7 => ?_)
    · have g7 := g6.trans (Gr.ext g6.pl e7)
      exact q_retPickT (K := K) (G0 := G) 3 (x_tup (x_cons (x_catA (x_catA (x_tup (x_cons (x_ix (i := 1) (j := 0) rfl hd rfl) x_nil) (by simp)) (x_tup (x_cons vr x_nil) (by simp)) (by simp)) (x_sl (x_var (i := 1) rfl hd) (fun _ => eo_some ev_c) (fun _ => eo_none)) (by have := len_cutD (ds := PyData.str tag :: rest) (lo := some 2) (hi := none); simp at this ⊢; omega)) (x_cons (x_sl (x_var (i := 1) rfl hd) (fun _ => eo_none) (fun _ => eo_some (ev_un ev_c ru_neg))) (x_cons (x_catA (x_var (i := 1) rfl hd) (x_tup (x_cons (x_tup x_nil (by simp)) x_nil) (by simp)) (by simp; omega)) x_nil))) (by simp)) rfl (by simp) (by simp) rfl (Ex.refl _) g7.pl fun G' H' v d g hd' hv => k G' H' v d (g7.trans g) hv (exch4 hrt r d hd')
    have g7 := g6.trans (Gr.ext g6.pl e7)
    have hl2 : rest.length = 2 := by
      have z : (PyData.str tag :: rest).length = 3 := by
        have z := (Bool.or_eq_false_iff.mp hb4).2
        have z2 : V.int (((PyData.str tag :: rest).length : Nat) : Int) = V.int 3 := by simpa using z
        injection z2 with z2
        omega
      simpa using z
    obtain ⟨m', r0, ds, rfl, etag, rfl, hk1, hk7, hkids⟩ := hrt.three hl2
    cases s2 with
    | cons q1 q2 =>
    cases q2 with
    | cons q3 q4 =>
    cases q4 with
    | cons q5 q6 =>
    cases q6
    cases q3
    rename_i v0 v2
    injection etag with etag
    subst etag
    have hd2 : Dq G v2 (.tuple ds) := q5
    have hT7 := e7 _ _ hT6
    refine q_asgO ((ev_at (K := K) (j := 2) (ev_var (i := 1) rfl) (st_of hT7) (ev_is ev_c rfl) rfl : Ev (tOp (rIxT K) (tVar 1) (tC (.int 2))) [some (.ref p), some (.ref ta), some (.int (n : Int)), some (.int y), some (.int r), none, none, none, none] H7 v2) H7 (Ex.refl _) _ fun H8 e8 => ?_)
    have g8 := g7.trans (Gr.ext g7.pl e8)
    obtain ⟨tb, xs, ds1, rfl, e1, b1, b2⟩ := dq_tup hd2 rfl
    injection e1 with e1
    subst e1
    have hxl := b2.length
    change tSeq _ _ _ [some (.ref p), some (.ref ta), some (.int (n : Int)), some (.int y), some (.int r), none, some (.ref tb), none, none] H8
    have hB8 : H8 tb = some (.tup xs) := g8.pl.ex _ _ (g8.ex _ _ b1)
    refine ⟨.ref p, rfl, (ev_lenT (K := K) (ev_var (i := 6) rfl) (st_of hB8) : Ev (tCB (rLenS K) (tCons (tVar 6) tNil)) [some (.ref p), some (.ref ta), some (.int (n : Int)), some (.int y), some (.int r), none, some (.ref tb), none, none] H8 (.int (xs.length : Int))) H8 (Ex.refl _) _ fun H9 e9 => ?_⟩
    have g9 := g8.trans (Gr.ext g8.pl e9)
    refine ⟨Hd H9 p q, p, q, (xs.length : Int), rfl, g9.pl.hd, by omega, by omega, fun H10 j h10 hj0 hj1 => ?_⟩
    have g10 := g9.trans (Gr.draw g9.pl h10)
    obtain ⟨jn, rfl⟩ : ∃ jn : Nat, j = (jn : Int) := ⟨j.toNat, by omega⟩
    have hjn : jn < ds.length := by omega
    obtain ⟨xj, hxj, dxj⟩ := b2.at (List.getElem?_eq_getElem hjn)
    refine g_name ?_
    change tSeq _ _ _ [some (.ref p), some (.ref ta), some (.int (n : Int)), some (.int y), some (.int r), none, some (.ref tb), some (.int (jn : Int)), none] H10
    refine q_when (b := decide (V.int y = V.int 5)) (et_test (ev_op (ev_var (i := 3) rfl) ev_c (rv_eq rfl))) (fun hb5 H11 e11 => ?_) (fun hb5 H11 e11 => ?_)
    · have g11 := g10.trans (Gr.ext g10.pl e11)
      refine q_ret3 (G0 := G) (y_x (x_ix (K := K) (i := 1) (j := 0) rfl hd rfl)) (y_pick (K := K) (z := 2) (x_lst (x_cons (x_ev (v := .bl (decide (V.int r0 = V.int 1))) (fun H e => ev_op (ev_at (K := K) (j := 1) (ev_var (i := 1) rfl) (st_of (e _ _ s1)) (ev_is ev_c rfl) rfl) ev_c (rv_eq rfl)) (fun G e => .bl _)) (x_cons (x_lst (x_cons (x_ix (K := K) (i := 1) (j := 1) rfl hd rfl) x_nil) (by simp)) x_nil)) (by simp)) rfl (by simp) (by simp) rfl) (y_x (x_var (i := 6) rfl hd2)) (Ex.refl _) g11.pl fun G' H' v a b c g ha hb hc hv => ?_
      subst ha
      subst hc
      exact k G' H' v _ (g11.trans g) hv (gt_kids sh_take hkids fun e he => he)
    have g11 := g10.trans (Gr.ext g10.pl e11)
    refine q_when (b := decide (V.int y = V.int 6)) (et_test (ev_op (ev_var (i := 3) rfl) ev_c (rv_eq rfl))) (fun hb6 H12 e12 => ?_) (fun hb6 H12 e12 => ?_)
    · have g12 := g11.trans (Gr.ext g11.pl e12)
      have w6 : ∀ {G0 : Hp} {o8 : Option V}, Dq G0 (.ref tb) (.tuple ds) → EvX G0 p q (tVar 6) [some (.ref p), some (.ref ta), some (.int (n : Int)), some (.int y), some (.int r), none, some (.ref tb), some (.int (jn : Int)), o8] (.tuple ds) := fun h => x_var (i := 6) rfl h
      have c1 := len_cutD (ds := ds) (lo := none) (hi := some (jn : Int))
      have c2 := len_cutD (ds := ds) (lo := some ((jn : Int) + 1)) (hi := none)
      have c3 := len_cutD (ds := ds) (lo := some 1) (hi := none)
      have c4 := len_cutD (ds := ds) (lo := none) (hi := some 1)
      refine q_mkApp (K := K) (G0 := G) (ds := [.tuple (cutD ds none (some (jn : Int)) ++ cutD ds (some ((jn : Int) + 1)) none), .tuple (ds ++ [ds[jn]]), .list ds, .tuple ds.reverse, .tuple []]) (d := .tuple (cutD ds (some 1) none ++ cutD ds none (some 1)))
        (x_cons (x_catA (x_sl (w6 hd2) (fun _ => eo_none) (fun _ => eo_some (ev_var (i := 7) rfl))) (x_sl (w6 hd2) (fun _ => eo_some (ev_op (ev_var (i := 7) rfl) ev_c rv_I0)) (fun _ => eo_none)) (by omega))
          (x_cons (x_catA (w6 hd2) (x_tup (x_cons (x_ev (v := xj) (fun H e => ev_at (K := K) (j := jn) (ev_var (i := 6) rfl) (st_of (e _ _ b1)) (ev_var (i := 7) rfl) hxj) (fun G e => dxj.mono e)) x_nil) (by simp)) (by simp; omega))
          (x_cons (x_listT (w6 hd2)) (x_cons (x_rev (w6 hd2)) (x_cons (x_tup x_nil (by simp)) x_nil))))) (by simp)
        (fun A => x_catA (x_sl (w6 hd2) (fun _ => eo_some ev_c) (fun _ => eo_none)) (x_sl (w6 hd2) (fun _ => eo_none) (fun _ => eo_some ev_c)) (by omega)) (fun A => rfl) (Ex.refl _) g12.pl fun G13 H13 A g13 hA => ?_
      change tRet _ _ [some (.ref p), some (.ref ta), some (.int (n : Int)), some (.int y), some (.int r), none, some (.ref tb), some (.int (jn : Int)), some (.ref A)] H13
      have hd13 := hd.mono g13.ex
      refine q_ret3 (G0 := G13) (y_x (x_ix (K := K) (i := 1) (j := 0) rfl hd13 rfl)) (y_x (x_ix (K := K) (i := 1) (j := 1) rfl hd13 rfl)) (y_pick (K := K) (z := 6) (x_var (i := 8) rfl hA) rfl (by simp) (by simp) rfl) (Ex.refl _) g13.pl fun G' H' v a b c g ha hb hc hv => ?_
      subst ha
      subst hb
      exact k G' H' v _ ((g12.trans g13).trans g) hv (exch6c hkids r0 _ _ (List.getElem_mem hjn) c hc)
    have g12 := g11.trans (Gr.ext g11.pl e12)
    refine q_ret3 (G0 := G) (y_pick (K := K) (z := 5) (x_lst (x_cons (x_str _) (x_cons (x_str _) (x_cons (x_str _) (x_cons (x_str _) (x_cons (x_c fun G => .non) x_nil))))) (by simp)) rfl (by simp) (by simp) rfl) (y_x (x_ix (K := K) (i := 1) (j := 1) rfl hd rfl)) (y_x (x_var (i := 6) rfl hd2)) (Ex.refl _) g12.pl fun G' H' v a b c g ha hb hc hv => ?_
    subst hb
    subst hc
    exact k G' H' v _ (g12.trans g) hv (exch7 hkids _ a ha)
end
end Wk

set_option Elab.async false
set_option linter.all false
set_option maxRecDepth 100000
set_option maxHeartbeats 400000
namespace Wk
open PySem PySem.Spec PyProof.Rows L2 Evl
section
variable {X : Cx}
def rNeEL (K : PySem.W.Frag) : R2 := fun x y H Q => ∃ a b xs, x = .ref a ∧ y = .ref b ∧ SqL K H a xs ∧ SqL K H b [] ∧ Q (.bl (!xs.isEmpty)) H
theorem op_neEL (hu : X.A.units < cLine) : OpR X (compareOp .NotEq) (rNeEL X.K) := fun pins s σ H x y v u Q I rx ry h => by
  obtain ⟨a, b, xs, rfl, rfl, ha, hb, q⟩ := h
  cases rx
  cases ry
  obtain ⟨its, r1, p1, _⟩ := I.list ha
  obtain ⟨its2, r2, p2, _⟩ := I.list hb
  cases r2
  cases r1 with
  | nil => exact SeqAt.RcNeAt.lists (e := fun _ => true) p1.isList p2.isList rfl hu (fun j h1 _ => absurd h1 (by simp)) X.prog X.w _ _ ⟨.bl false, H, I, rfl, q⟩
  | cons r rr => exact SeqAt.RcNeAt.lists_lengths p1.isList p2.isList (by simp) hu X.prog X.w _ _ ⟨.bl true, H, I, rfl, q⟩
end
/-! the pool and the count beside what is made -/
def Em : Hp := fun _ => none
theorem Pl.em {G H : Hp} {p q : Addr} (h : Pl G H p q) : Pl Em H p q := h.less fun b o z => by cases z
structure Sx (p q L : Addr) (H0 H : Hp) (n : Int) : Prop where
  ob : Ob3 p q L H0 H
  pl : Pl Em H p q
  lf : H L = some (.lst [.int n])
theorem Sx.ext {p q L : Addr} {H0 H H' : Hp} {n : Int} (s : Sx p q L H0 H n) (e : Ex H H') : Sx p q L H0 H' n := ⟨s.ob.trans (.ex e), s.pl.ext e, e _ _ s.lf⟩
theorem Sx.draw {p q L : Addr} {H0 H H' : Hp} {n : Int} (s : Sx p q L H0 H n) (np : L ≠ p) (nq : L ≠ q) (h : Pl (Hd H p q) H' p q) : Sx p q L H0 H' n := ⟨s.ob.trans (.off h.off), h.em, h.off L _ np nq s.lf⟩
theorem Sx.old {p q L : Addr} {H0 H : Hp} {n : Int} (s : Sx p q L H0 H n) : ∀ a, H0 a ≠ none → H a ≠ none := fun a ha => by
  by_cases c1 : a = p
  · rw [c1]
    obtain ⟨_, _, h, _⟩ := s.pl.at_
    rw [h]; simp
  by_cases c2 : a = q
  · rw [c2]
    obtain ⟨_, _, _, h, _⟩ := s.pl.at_
    rw [h]; simp
  by_cases c3 : a = L
  · rw [c3, s.lf]; simp
  cases h : H0 a with
  | none => exact absurd h ha
  | some o => rw [s.ob a o c1 c2 c3 h]; simp
theorem Sx.kp {p q L : Addr} {H0 H : Hp} {n n0 : Int} (s : Sx p q L H0 H n) (h0 : Pl Em H0 p q) (hL : H0 L = some (.lst [.int n0])) : Kp H0 H := by
  obtain ⟨_, _, h1, h2, _⟩ := h0.at_
  exact s.ob.kp h1 h2 hL
/-- what is new, as what stays -/
theorem Sx.nw {p q L : Addr} {H0 H : Hp} {n : Int} (s : Sx p q L H0 H n) (h0 : Pl Em H0 p q) : Pl (Nw H0 H) H p q := by
  obtain ⟨_, _, h1, h2, _⟩ := h0.at_
  exact ⟨nw_sub, nw_old h1, nw_old h2, s.pl.ne, s.pl.at_⟩
theorem nw_gr {p q : Addr} {H0 H G' H' : Hp} (hd : ∀ a, H0 a ≠ none → H a ≠ none) (g : Gr p q (Nw H0 H) H G' H') : Ex G' (Nw H0 H') := fun a o h => by
  refine nw_at ?_ (g.pl.ex a o h)
  cases e : H0 a with
  | none => rfl
  | some u =>
    have := g.nw a (nw_old e) (hd a (by rw [e]; simp))
    rw [this] at h
    cases h
theorem tk_item {K : PySem.W.Frag} {H : Hp} {xs : List V} {rows : List (List Wy)} {t : List (Option Wy)} (hx : DpAll K H xs (t.map od)) (ht : TkO rows t) {i : Nat} (hi : i < rows.length) : ∃ y o, xs[i]? = some y ∧ t[i]? = some o ∧ t.getD i none = o ∧ Dp K H y (od o) ∧ decide (y = V.non) = decide (o = none) := by
  have hil : i < t.length := by rw [ht.len]; exact hi
  have hti : t[i]? = some t[i] := List.getElem?_eq_getElem hil
  obtain ⟨y, y1, y2⟩ := dpa_at (i := i) (d := od t[i]) hx (by rw [List.getElem?_map, hti]; rfl)
  generalize t[i] = o at *
  refine ⟨y, o, y1, hti, by rw [List.getD_eq_getElem?_getD, hti]; rfl, y2, ?_⟩
  cases o with
  | none => rw [dp_od_none y2]; rfl
  | some u =>
    obtain ⟨a, rfl, _⟩ := dp_wd y2
    rfl
/-! steps of the walk -/
theorem Sx.off {p q L : Addr} {H0 H H' : Hp} {n : Int} (s : Sx p q L H0 H n) (np : L ≠ p) (nq : L ≠ q) (h : Off p q H H') (hP : Pl Em H' p q) : Sx p q L H0 H' n := ⟨s.ob.trans (.off h), hP, h L _ np nq s.lf⟩
/-- if blocked and (nothing free or a draw) -/
theorem q_ifBlk {a b : Bool} {t1 t2 : TT} {tu tw tz : TS} {D : Ends} {σ : L2.St} {H : Hp} {p q : Addr} (h1 : EvT t1 σ H a) (h2 : ∀ H1, Ex H H1 → EvT t2 σ H1 b) (hs : σ[0]? = some (some (.ref p))) (hP : Pl Em H p q)
    (hT : a = true → ∀ H1, Off p q H H1 → Pl Em H1 p q → tu { D with nx := tz D } σ H1) (hF : ∀ H1, Off p q H H1 → Pl Em H1 p q → tw { D with nx := tz D } σ H1) :
    tSeq (tIfS (tAnd t1 (tOr t2 (tTest (tOp (rI0 fun i j => .bl (decide (j < i))) (tCall spDraw [] E0 (tCons (tVar 0) (tCons (tC (.int 5)) tNil))) (tC (.int 0)))))) tu tw) tz D σ H :=
  h1 H (Ex.refl _) _ fun H1 e1 => by
    cases a with
    | false => exact hF H1 (.ex e1) (hP.ext e1)
    | true =>
      refine h2 H1 e1 H1 (Ex.refl _) _ fun H2 e2 => ?_
      have hP2 := hP.ext (e1.trans e2)
      have o2 : Off p q H H2 := .ex (e1.trans e2)
      cases b with
      | true => exact hT rfl H2 o2 hP2
      | false =>
        refine ⟨.ref p, hs, Hd H2 p q, p, q, 5, rfl, hP2.hd, by decide, by decide, fun H3 y h3 hy0 hy1 => ⟨y, 0, rfl, rfl, _, rfl, ?_⟩⟩
        have o3 := o2.trans h3.off
        change (if decide ((0 : Int) < y) = true then _ else _)
        by_cases hy : decide ((0 : Int) < y) = true
        · rw [if_pos hy]
          exact hT rfl H3 o3 h3.em
        · rw [if_neg hy]
          exact hF H3 o3 h3.em
/-- one of a list, drawn -/
theorem t_pickL {K : PySem.W.Frag} {σ : L2.St} {H : Hp} {Q : VK} {p q A : Addr} {i : Nat} {xs : List V} (hv : σ[i]? = some (some (.ref A))) (hA : H A = some (.lst xs)) (np : A ≠ p) (nq : A ≠ q) (h0 : xs ≠ []) (h9 : xs.length ≤ 1000) (hs : σ[0]? = some (some (.ref p))) (hP : Pl Em H p q)
    (k : ∀ H' x, Off p q H H' → Pl Em H' p q → x ∈ xs → Q x H') : tOp (rIxL K) (tVar i) (tCall spDraw [] E0 (tCons (tVar 0) (tCons (tCB (rLenS K) (tCons (tVar i) tNil)) tNil))) σ H Q :=
  have hl := List.length_pos_iff.mpr h0
  ⟨.ref A, hv, .ref p, hs, (ev_len (K := K) (ev_var hv) (sq_of hA) : Ev _ σ H (.int (xs.length : Int))) H (Ex.refl _) _ fun H1 e1 => ⟨Hd H1 p q, p, q, (xs.length : Int), rfl, (hP.ext e1).hd, by omega, by omega, fun H2 j h2 hj0 hj1 => by
    obtain ⟨m, rfl⟩ : ∃ m : Nat, j = (m : Int) := ⟨j.toNat, by omega⟩
    have hm : m < xs.length := by omega
    exact ⟨A, xs, (m : Int), xs[m], rfl, rfl, sq_of (h2.off _ _ np nq (e1 _ _ hA)), atI_nat (List.getElem?_eq_getElem hm), k H2 _ ((Off.ex e1).trans h2.off) h2.em (List.getElem_mem hm)⟩⟩⟩
/-- the end: exchanged or not -/
theorem q_fin {K : PySem.W.Frag} {E : XK} {p q L la : Addr} {H0 H9 : Hp} {lxs : List V} {tv : V} {td : PyData} {n n9 : Int} {m : Nat} {nr : Nat} {σ : L2.St} {D : Ends} (s : Sx p q L H0 H9 n9) (hP0 : Pl Em H0 p q) (nLp : L ≠ p) (nLq : L ≠ q) (h0 : σ[0]? = some (some (.ref p))) (h1 : σ[1]? = some (some (.ref la))) (h4 : σ[4]? = some (some (.bl (decide (V.int (n - 1) = V.int 0))))) (h8 : σ[8]? = some (some tv))
    (hla : H9 la = some (.tup lxs)) (hlr : lxs.length = nr) (h2r : 2 ≤ nr) (h8r : nr ≤ 8) (hm : m ≤ 7) (hle : n9 ≤ n - 1) (hd : Dq (Nw H0 H9) tv td) (hg : Gt m td) (hr : n ≤ 1 → Rt m td)
    (k : ∀ H' v d n', Sx p q L H0 H' n' → n' ≤ n - 1 → Dq (Nw H0 H') v d → Gt m d → (n ≤ 0 → Rt m d) → D.rt v H') :
    tSeq (tIfS (tB (tVar 4)) (tRet (tCall spExch [] E (tCons (tVar 0) (tCons (tVar 8) (tCons (tCB (rLenS K) (tCons (tVar 1) tNil)) tNil))))) tNext) (tRet (tVar 8)) D σ H9 := by
  refine q_when (b := decide (V.int (n - 1) = V.int 0)) (et_B (ev_var h4)) (fun hb H1 e1 => ?_) (fun hb H1 e1 => ?_)
  · have hn : n = 1 := by
      have z := of_decide_eq_true hb
      injection z with z
      omega
    have s1 := s.ext e1
    refine ⟨.ref p, h0, tv, h8, (ev_lenT (K := K) (ev_var h1) (st_of (e1 _ _ hla)) : Ev _ σ H1 (.int (lxs.length : Int))) H1 (Ex.refl _) _ fun H2 e2 => ?_⟩
    have s2 := s1.ext e2
    rw [hlr]
    refine ⟨m, Nw H0 H2, p, q, nr, tv, td, rfl, s2.nw hP0, h2r, h8r, hm, hd.mono fun a o z => ?_, hr (by omega), fun G' H' v d g hd' hg' => ?_⟩
    · obtain ⟨z1, z2⟩ := nw_inv z
      exact nw_at z1 ((e1.trans e2) _ _ z2)
    · exact k H' v d n9 (s2.off nLp nLq g.off g.pl.em) hle (hd'.mono (nw_gr s2.old g)) hg' fun z => by omega
  · have hn : n ≠ 1 := fun z => by
      have z2 := of_decide_eq_false hb
      exact z2 (by rw [z]; rfl)
    refine ⟨tv, h8, k H1 tv td n9 (s.ext e1) hle (hd.mono fun a o z => ?_) hg fun z => hr (by omega)⟩
    obtain ⟨z1, z2⟩ := nw_inv z
    exact nw_at z1 (e1 _ _ z2)
/-- over a list with a new thing in it -/
theorem q_forLO {K : PySem.W.Frag} {tl : TE} {g : TG} {tu tz : TS} {D : Ends} {σ : L2.St} {H : Hp} (FF : Addr → List V → Hp → Prop) (h : ∀ Q : VK, (∀ a xs H1, H1 a = some (.lst xs) → FF a xs H1 → Q (.ref a) H1) → tl σ H Q) (Pv : Addr → List V → Nat → L2.St → Hp → Prop)
    (h0 : ∀ a xs H1, H1 a = some (.lst xs) → FF a xs H1 → Pv a xs 0 σ H1) (hl : ∀ a xs i σ' H', i ≤ xs.length → Pv a xs i σ' H' → SqL K H' a xs)
    (hs : ∀ a xs i x σ' H', xs[i]? = some x → Pv a xs i σ' H' → g x σ' H' fun σ2 H2 => tu { D with nx := Pv a xs (i + 1), ct := Pv a xs (i + 1), bk := tz D } σ2 H2) (hd : ∀ a xs σ' H', Pv a xs xs.length σ' H' → tz D σ' H') : tSeq (tFor (iList K tl) g tu) tz D σ H :=
  h _ fun a xs H1 ha hF => ⟨a, rfl, ⟨xs, sq_of ha⟩, for_list (D := { D with nx := tz D }) (Pv a xs) (h0 a xs H1 ha hF) (hl a xs) (hs a xs) (hd a xs)⟩
/-- list(lists[router]) + [()] -/
theorem t_rowPlus {K : PySem.W.Frag} {σ : L2.St} {H : Hp} {Q : VK} {la ra : Addr} {lxs rws : List V} {r : Nat} (h1 : σ[1]? = some (some (.ref la))) (h9 : σ[9]? = some (some (.int (r : Int)))) (hla : H la = some (.tup lxs)) (hr : lxs[r]? = some (.ref ra)) (hra : H ra = some (.tup rws)) (hl : rws.length ≤ 1000)
    (k : ∀ c e0 H', Ex H H' → H c = none → H' c = some (.lst (rws ++ [.ref e0])) → H' e0 = some (.tup []) → Q (.ref c) H') :
    tOp rCat (tCB (rListS K) (tCons (tOp (rIxT K) (tVar 1) (tVar 9)) tNil)) (tLst (tCons (tTup tNil) tNil)) σ H Q := by
  refine ⟨.ref la, h1, .int (r : Int), h9, la, lxs, _, _, rfl, rfl, st_of hla, atI_nat hr, ra, rws, rfl, .inr (st_of hra), fun c1 hc1 => ⟨by show 0 ≤ sizeLine; decide, fun e0 he0 => ⟨by show 1 ≤ sizeLine; decide, fun c2 hc2 => ?_⟩⟩⟩
  have f1 := Ex.new (o := .lst rws) hc1
  have f2 := Ex.new (o := .tup ([] : List V)) he0
  have f3 := Ex.new (o := .lst [V.ref e0]) hc2
  refine ⟨c1, c2, rws, [.ref e0], rfl, rfl, f3 _ _ (f2 _ _ upd_same), upd_same, by rw [sizeLine_eq]; show rws.length + 1 ≤ _; omega, fun c3 hc3 => ?_⟩
  have f4 := Ex.new (o := .lst (rws ++ [V.ref e0])) hc3
  exact k c3 e0 _ (((f1.trans f2).trans f3).trans f4) (fresh_back ((f1.trans f2).trans f3) hc3) upd_same ((f3.trans f4) _ _ upd_same)
theorem et_neEL {K : PySem.W.Frag} {σ : L2.St} {H : Hp} {i : Nat} {A : Addr} {xs : List V} (hv : σ[i]? = some (some (.ref A))) (hA : H A = some (.lst xs)) : EvT (tTest (tOp (rNeEL K) (tVar i) (tLst tNil))) σ H (!xs.isEmpty) :=
  et_test (ev_opL (xs := []) (ev_var hv) (el_lst ea_nil (by simp)) fun p2 H2 hp2 e2 => fun H3 e3 Q2 q => ⟨A, p2, xs, rfl, rfl, sq_of ((e2.trans e3) _ _ hA), sq_of (e3 _ _ hp2), q H3 (Ex.refl H3)⟩)
theorem et_eqEL {K : PySem.W.Frag} {σ : L2.St} {H : Hp} {i : Nat} {A : Addr} {xs : List V} (hv : σ[i]? = some (some (.ref A))) (hA : H A = some (.lst xs)) : EvT (tTest (tOp (rEqEL K) (tVar i) (tLst tNil))) σ H (xs.isEmpty) :=
  et_test (ev_opL (xs := []) (ev_var hv) (el_lst ea_nil (by simp)) fun p2 H2 hp2 e2 => fun H3 e3 Q2 q => ⟨A, p2, xs, rfl, rfl, sq_of ((e2.trans e3) _ _ hA), sq_of (e3 _ _ hp2), q H3 (Ex.refl H3)⟩)
theorem asg_tup2 {i : Nat} {v1 : V} {te : TE} {D : Ends} {σ : L2.St} {H : Hp} (h : te σ H fun x H1 => 2 ≤ sizeLine ∧ ∀ T, H1 T = none → D.nx (σ.set i (some (.ref T))) (upd H1 T (.tup [v1, x]))) : tAsg (tTup (tCons (tC v1) (tCons te tNil))) (gName i) D σ H := h
theorem asg_tup1 {i : Nat} {v1 : V} {D : Ends} {σ : L2.St} {H : Hp} (h : ∀ T, H T = none → D.nx (σ.set i (some (.ref T))) (upd H T (.tup [v1]))) : tAsg (tTup (tCons (tC v1) tNil)) (gName i) D σ H := ⟨by show 1 ≤ sizeLine; decide, h⟩
theorem asg_tup3 {i j : Nat} {v1 v2 : V} {te : TE} {D : Ends} {σ : L2.St} {H : Hp} (hj : σ[j]? = some (some v2)) (h : te σ H fun x H1 => 3 ≤ sizeLine ∧ ∀ T, H1 T = none → D.nx (σ.set i (some (.ref T))) (upd H1 T (.tup [v1, v2, x]))) : tAsg (tTup (tCons (tC v1) (tCons (tVar j) (tCons te tNil)))) (gName i) D σ H := ⟨v2, hj, h⟩
theorem s_appC {K : PySem.W.Frag} {i : Nat} {A : Addr} {us : List V} {te : TE} {D : Ends} {σ : L2.St} {H : Hp} (hv : σ[i]? = some (some (.ref A))) (hA : H A = some (.lst us)) (h : te σ H fun x H1 => rAppend (.ref A) [x] H1 fun _ H2 => D.nx σ H2) : tDrop (tBM K "list" rAppend (tVar i) (tCons te tNil)) D σ H := ⟨.ref A, hv, .inl ⟨rfl, us, sq_of hA⟩, h⟩
theorem t_callT {sp : Sp} {E : XK} {ti : TE} {σ : L2.St} {H : Hp} {Q : VK} {v0 v1 v3 : V} {ys : List V} (h0 : σ[0]? = some (some v0)) (h1 : σ[1]? = some (some v1)) (hI : EvL ti σ H ys) (h3 : σ[3]? = some (some v3)) (k : ∀ Lg H1, H Lg = none → Ex H H1 → H1 Lg = some (.lst ys) → sp [v0, v1, .ref Lg, v3] H1 Q E) :
    tCall sp [] E (tCons (tVar 0) (tCons (tVar 1) (tCons ti (tCons (tVar 3) tNil)))) σ H Q := ⟨v0, h0, v1, h1, hI H (Ex.refl _) _ fun Lg H1 g e h => ⟨v3, h3, k Lg H1 g e h⟩⟩
theorem Sx.mut {p q L D : Addr} {H0 H : Hp} {n : Int} {o : HO} (s : Sx p q L H0 H n) (h0 : H0 D = none) (np : D ≠ p) (nq : D ≠ q) (nL : D ≠ L) : Sx p q L H0 (upd H D o) n :=
  ⟨fun b u b1 b2 b3 hb => by
    rw [upd_ne (fun z => by rw [z, h0] at hb; cases hb)]
    exact s.ob b u b1 b2 b3 hb, s.pl.mut rfl np nq, by rw [upd_ne (Ne.symm nL)]; exact s.lf⟩
theorem nw_both {H HA H' H9 : Hp} (hd : ∀ a, H a ≠ none → HA a ≠ none) (e : Ex H' H9) : Ex (Nw HA H') (Nw H H9) := fun a o h => by
  obtain ⟨h1, h2⟩ := nw_inv h
  refine nw_at ?_ (e a o h2)
  cases c : H a with
  | none => rfl
  | some u => exact absurd h1 (hd a (by rw [c]; simp))
def vNat : V → Nat
  | .int z => z.toNat
  | _ => 0
section
variable {P : Program} {w : World} {K : PySem.W.Frag} {mg : Str → Option Value} {base : Heap} {f : Addr} {fd : FuncData}
/-! _law_tree -/
def spTree (K : PySem.W.Frag) (m : Nat) : Sp := fun vs H Q _ => ∃ (p q L I : Addr) (lv : V) (xs : List V) (n : Int) (rows : List (List Wy)) (t : List (Option Wy)), vs = [.ref p, lv, .ref I, .ref L] ∧ Pl Em H p q ∧ L ≠ p ∧ L ≠ q ∧ I ≠ p ∧ I ≠ q ∧ I ≠ L ∧ Dq H lv (pd rows) ∧ GW rows ∧ 2 ≤ rows.length ∧ rows.length ≤ 8 ∧ (∀ row ∈ rows, row.length ≤ 6) ∧ H I = some (.lst xs) ∧ DpAll K H xs (t.map od) ∧
  TkO rows t ∧ nns t ≤ m ∧ m ≤ 7 ∧ t.getD 0 none ≠ none ∧ H L = some (.lst [.int n]) ∧
  ∀ H' v d n', Sx p q L H H' n' → n' ≤ n - 1 → Dq (Nw H H') v d → Gt m d → (n ≤ 0 → Rt m d) → Q v H'
abbrev sTree : Stmt := top 48
abbrev nTree : List Str := ["_law_pool_here", "_law_lists_here", "_law_items", "_law_left", "_law_hit", "_law_free", "_law_given", "_law_blocked_here", "_law_tree_here", "_law_router", "_law_trees", "_law_item"]
abbrev aTree : List Str := ["_law_pool_here", "_law_lists_here", "_law_items", "_law_left"]
theorem scTree : FnScope nTree aTree (defScope sTree) := ⟨rfl, rfl, rfl, by decide +kernel, rfl, by decide +kernel, by decide +kernel⟩
theorem ok_tree (m k' : Nat) (sp' : Sp) (hk : k' ≤ m + 2) (CT : Cal P w K mg base "_law_tree" ["_law_pool_here", "_law_lists_here", "_law_items", "_law_left"] k' sp') (hT : ∀ vs H Q E, (∃ m', m = m' + 1 ∧ spTree K m' vs H Q E) → sp' vs H Q E)
    (B : Bl mg) (C : Cal P w K mg base "_law_draw" ["_law_pool_here", "_law_size"] 1 spDraw) (CB : Cal P w K mg base "_law_blocked" ["_law_lists_here", "_law_items", "_law_router"] 1 (spBlk K)) (CE : Cal P w K mg base "_law_exchanged" ["_law_pool_here", "_law_tree_here", "_law_size"] 2 spExch) (F : FnP K "_law_tree" sTree f fd) :
    FnOk P w K mg base CX0 (m + 2 + 1) f fd ["_law_pool_here", "_law_lists_here", "_law_items", "_law_left"] (spTree K m) := by
  refine F.ok scTree (fun vs H Q E h => ?_) (fun cdv A outer s H vs Q E hr h => ?_)
  · obtain ⟨p, q, L, I, lv, xs, n, rows, t, rfl, _⟩ := h
    rfl
  · obtain ⟨p, q, L, I, lv, xs, n, rows, t, rfl, hP, nLp, nLq, nIp, nIq, nIL, hl, hG, hn2, hn8, h6, hI, hx, ht, hnn, hm7, ht0, hL, k⟩ := h
    have hu : (A.deeper (envOfC "_law_tree" (defScope sTree) s.heap.objs.size f cdv)).units < cLine := by have := hr.un; omega
    have r1 : Room 1 (A.deeper (envOfC "_law_tree" (defScope sTree) s.heap.objs.size f cdv)) := hr.mono (by omega)
    have r2 : Room 2 (A.deeper (envOfC "_law_tree" (defScope sTree) s.heap.objs.size f cdv)) := hr.mono (by omega)
    have rk : Room k' (A.deeper (envOfC "_law_tree" (defScope sTree) s.heap.objs.size f cdv)) := hr.mono (by omega)
    refine ⟨_, pss_cons (ps_asg (pe_op op_sub (pe_ix ix_list (pv 3) pe_int (fun _ _ => rfl)) pe_int) (pg_sub (pv 3) pe_int set_list))
      (pss_cons (ps_set (i := 4) scTree.nd rfl (Or.inl rfl) (pe_cmpR op_eq (pe_ix ix_list (pv 3) pe_int (fun _ _ => rfl)) pe_int (nomark _)))
      (pss_cons (ps_setLc (i := 5) (own := [("_law_router", 9)]) (g := gName 9) rfl scTree.nd rfl rfl (sw_true rfl rfl rfl (by decide +kernel)) (pi_range1 (by rfl) B.range (pa_cons (pe_callB call_len_seq (by rfl) B.len PySem.boot_len (pa_cons (pv 1) pa_nil)) pa_nil)) (blkOk_by (N := nTree) (sc := defScope sTree) (by decide +kernel))
          (fun _ _ _ _ _ => pg_name (i := 9) scTree.nd rfl (Or.inl rfl)) (fun _ _ _ _ _ => pts_one (pt_cmpR op_isN1 (pe_ix (ix_listK (K := K) rfl) (pv 2) (pv 9) (fun _ _ => rfl)) pe_non (nomark _))) (fun _ _ _ _ _ => pv 9))
      (pss_cons (ps_setLc (i := 6) (own := [("_law_router", 9)]) (g := gName 9) rfl scTree.nd rfl rfl (sw_true rfl rfl rfl (by decide +kernel)) (pi_range2 (by rfl) B.range (pa_cons pe_int (pa_cons (pe_callB call_len_seq (by rfl) B.len PySem.boot_len (pa_cons (pv 1) pa_nil)) pa_nil))) (blkOk_by (N := nTree) (sc := defScope sTree) (by decide +kernel))
          (fun _ _ _ _ _ => pg_name (i := 9) scTree.nd rfl (Or.inl rfl)) (fun _ _ _ _ _ => pts_one (pt_cmpR op_notN1 (pe_ix (ix_listK (K := K) rfl) (pv 2) (pv 9) (fun _ _ => rfl)) pe_non (nomark _))) (fun _ _ _ _ _ => pv 9))
      (pss_cons (ps_setLc (i := 7) (own := [("_law_router", 9)]) (g := gName 9) rfl scTree.nd rfl rfl (sw_true rfl rfl rfl (by decide +kernel)) (pi_list (pv 6)) (blkOk_by (N := nTree) (sc := defScope sTree) (by decide +kernel))
          (fun _ _ _ _ _ => pg_name (i := 9) scTree.nd rfl (Or.inl rfl)) (fun _ _ _ _ _ => pts_one (pt_val (pe_cal CB r1 (by rfl) (pa_cons (pv 1) (pa_cons (pv 2) (pa_cons (pv 9) pa_nil)))))) (fun _ _ _ _ _ => pv 9))
      (pss_cons (ps_if (PW.pt (pw_and (pt_cmpR (op_neEL hu) (pv 7) (pe_lst pa_nil) (nomark _)) (pw_and1 (PW.pt (pw_or (pt_cmpR (op_eqEL hu) (pv 5) (pe_lst pa_nil) (nomark _)) (pw_or1 (pt_cmpR op_gt (pe_cal C r1 (by rfl) (pa_cons (pv 0) (pa_cons pe_int pa_nil))) pe_int (nomark _))))))))
        (pss_one (ps_set (i := 8) scTree.nd rfl (Or.inl rfl) (pe_tup (pa_cons pe_str (pa_cons (pe_ix (ix_listK (K := K) rfl) (pv 7) (pe_cal C r1 (by rfl) (pa_cons (pv 0) (pa_cons (pe_callB call_len_seq (by rfl) B.len PySem.boot_len (pa_cons (pv 7) pa_nil)) pa_nil))) (fun _ _ => rfl)) pa_nil)))))
        (pss_one (ps_if (pt_cmpR (op_eqEL hu) (pv 5) (pe_lst pa_nil) (nomark _))
          (pss_one (ps_set (i := 8) scTree.nd rfl (Or.inl rfl) (pe_tup (pa_cons pe_str pa_nil))))
          (pss_cons (ps_set (i := 9) scTree.nd rfl (Or.inl rfl) (pe_ix (ix_listK (K := K) rfl) (pv 5) (pe_cal C r1 (by rfl) (pa_cons (pv 0) (pa_cons (pe_callB call_len_seq (by rfl) B.len PySem.boot_len (pa_cons (pv 5) pa_nil)) pa_nil))) (fun _ _ => rfl)))
          (pss_cons (ps_set (i := 10) scTree.nd rfl (Or.inl rfl) (pe_lst pa_nil))
          (pss_cons (ps_for (passes_of rfl) rfl (pi_list (pe_op op_cat (pe_callTy (call_listK2 (K := K) rfl) (by rfl) B.list PyProof.Rows.boot_list (pa_cons (pe_ix ix_tup (pv 1) (pv 9) (fun _ _ => rfl)) pa_nil)) (pe_lst (pa_cons (pe_tup pa_nil) pa_nil)))) (pg_name (i := 11) scTree.nd rfl (Or.inl rfl))
            (pss_one (ps_expr (pe_bm PySem.F.plainAttrs_list PySem.F.slot_list_append PySem.F.type_list_append mt_append (pv 10) (pa_cons (pe_cal CT rk (by rfl) (pa_cons (pv 0) (pa_cons (pv 1) (pa_cons (pe_op op_cat (pe_op op_cat (pe_slice sl_list (pv 2) po_none (po_some (pv 9))) (pe_lst (pa_cons (pv 11) pa_nil))) (pe_slice sl_list (pv 2) (po_some (pe_op op_add (pv 9) pe_int)) po_none)) (pa_cons (pv 3) pa_nil)))) (Nat.le_refl _)) pa_nil)))))
          (pss_one (ps_set (i := 8) scTree.nd rfl (Or.inl rfl) (pe_tup (pa_cons pe_str (pa_cons (pv 9) (pa_cons (pe_callTy (call_tupleK (K := K) rfl) (by rfl) B.tuple PyProof.Rows.boot_tuple (pa_cons (pv 10) pa_nil)) pa_nil))))))))))))
      (pss_cons (ps_if (pt_val (pv 4)) (pss_one (ps_ret (pe_cal CE r2 (by rfl) (pa_cons (pv 0) (pa_cons (pv 8) (pa_cons (pe_callB call_len_seq (by rfl) B.len PySem.boot_len (pa_cons (pv 1) pa_nil)) pa_nil)))))) pss_nil)
      (pss_one (ps_ret (pv 8))))))))), ?_⟩
    have hxl : xs.length = rows.length := by
      have := dpa_len hx
      rw [List.length_map, ht.len] at this
      exact this
    have hll : ∃ la lxs, lv = .ref la ∧ H la = some (.tup lxs) ∧ lxs.length = rows.length ∧ DqA H lxs (rows.map rd) := by
      unfold pd at hl
      cases hl with
      | tup z1 z2 =>
        have := z2.length
        rw [List.length_map] at this
        exact ⟨_, _, rfl, z1, this, z2⟩
    obtain ⟨la, lxs, rfl, l1, lxl, l2⟩ := hll
    have kp : ∀ {H' : Hp} {n' : Int}, Sx p q L H H' n' → Kp H H' := fun s => s.kp hP hL
    have hla : ∀ {H' : Hp} {n' : Int}, Sx p q L H H' n' → H' la = some (.tup lxs) := fun s => (kp s).tup l1
    have hIk : ∀ {H' : Hp} {n' : Int}, Sx p q L H H' n' → H' I = some (.lst xs) := fun s => s.ob I _ nIp nIq nIL hI
    have item := fun i hi => tk_item hx ht (i := i) hi
    refine q_setL (j := 0) (v := .int (n - 1)) hL (ev_op (ev_op (ev_var (i := 3) rfl) ev_c (rv_ixL (K := K) (sq_of hL) rfl)) ev_c rv_I0) (ev_var rfl) (ev_is ev_c rfl) (by simp) fun H1 e1 => ?_
    have s1 : Sx p q L H (upd H1 L (.lst ([V.int n].set 0 (.int (n - 1))))) (n - 1) := ⟨(Ob3.ex e1).trans .put, (hP.ext e1).mut rfl nLp nLq, upd_same⟩
    generalize upd H1 L (.lst ([V.int n].set 0 (.int (n - 1)))) = H2 at *
    refine q_asg (v := .bl (decide (V.int (n - 1) = V.int 0))) (ev_op (ev_op (ev_var (i := 3) rfl) ev_c (rv_ixL (K := K) (sq_of s1.lf) rfl)) ev_c (rv_eq rfl)) fun H3 e3 => ?_
    have s3 := s1.ext e3
    change tSeq _ _ _ [some (.ref p), some (.ref la), some (.ref I), some (.ref L), some (.bl (decide (V.int (n - 1) = V.int 0))), none, none, none, none, none, none, none] H3
    have vN : ∀ {H1 : Hp} {o : List (Option V)}, H1 la = some (.tup lxs) → Ev (tCB (rLenS K) (tCons (tVar 1) tNil)) (some (.ref p) :: some (.ref la) :: o) H1 (.int (lxs.length : Int)) := fun h => ev_lenT (K := K) (ev_var rfl) (st_of h)
    -- free
    refine q_asgL (el_lcR1 (j := 9) (vs := [9]) (n := (lxs.length : Int)) (fun i => decide (t.getD i none = none)) (fun i => .int (i : Int)) (ea_cons (vN (hla s3)) ea_nil) (by omega) (fun x => rfl) (fun i H4 e4 hi => ?_) (fun i H4 e4 hi _ => ev_var rfl)) fun Fa H4 gF e4 hF => ?_
    · obtain ⟨y, o, y1, _, y3, _, y5⟩ := item i (by omega)
      show EvT _ _ _ (decide (t.getD i none = none))
      rw [y3, ← y5]
      exact et_test (ev_op (ev_op (ev_var (i := 2) rfl) (ev_var (i := 9) rfl) (rv_ixL (K := K) (sq_of (e4 _ _ (hIk s3))) (atI_nat y1))) ev_c fun H5 e5 Q2 q => ⟨rfl, q H5 (Ex.refl _)⟩)
    have s4 := s3.ext e4
    have nFp := s3.pl.np gF
    have nFq := s3.pl.nq gF
    have hfv : ∀ x ∈ given ((lxs.length : Int)).toNat (fun i => decide (t.getD i none = none)) (fun i => V.int (i : Int)), ∃ r : Nat, x = .int (r : Int) ∧ r < rows.length ∧ t.getD r none = none := fun x hx => by
      unfold given at hx
      obtain ⟨i, hi, rfl⟩ := List.mem_map.mp hx
      obtain ⟨h1, h2⟩ := List.mem_filter.mp hi
      have := List.mem_range.mp h1
      exact ⟨i, rfl, by omega, of_decide_eq_true h2⟩
    have hfl : (given ((lxs.length : Int)).toNat (fun i => decide (t.getD i none = none)) (fun i => V.int (i : Int))).length ≤ 8 := by
      unfold given
      rw [List.length_map]
      refine Nat.le_trans (List.length_filter_le _ _) ?_
      rw [List.length_range]
      omega
    generalize given ((lxs.length : Int)).toNat (fun i => decide (t.getD i none = none)) (fun i => V.int (i : Int)) = fv at *
    change tSeq _ _ _ [some (.ref p), some (.ref la), some (.ref I), some (.ref L), some (.bl (decide (V.int (n - 1) = V.int 0))), some (.ref Fa), none, none, none, none, none, none] H4
    -- given
    refine q_asgL (el_lcR2 (j := 9) (vs := [9]) (lo := 1) (n := (lxs.length : Int)) (fun i => !decide (t.getD (i + 1) none = none)) (fun i => .int ((i + 1 : Nat) : Int)) (ea_cons ev_c (ea_cons (vN (hla s4)) ea_nil)) (by omega) (fun x => rfl) (fun i H5 e5 hi => ?_) (fun i H5 e5 hi _ => ?_)) fun Ga H5 gGa e5 hGa => ?_
    · obtain ⟨y, o, y1, _, y3, _, y5⟩ := item (i + 1) (by omega)
      show EvT _ _ _ (!decide (t.getD (i + 1) none = none))
      rw [y3, ← y5, show (1 : Int) + (i : Int) = ((i + 1 : Nat) : Int) by omega]
      exact et_test (ev_op (ev_op (ev_var (i := 2) rfl) (ev_var (i := 9) rfl) (rv_ixL (K := K) (sq_of (e5 _ _ (hIk s4))) (atI_nat y1))) ev_c fun H5 e5 Q2 q => ⟨rfl, q H5 (Ex.refl _)⟩)
    · rw [show (1 : Int) + (i : Int) = ((i + 1 : Nat) : Int) by omega]
      exact ev_var rfl
    have s5 := s4.ext e5
    have hgv : ∀ x ∈ given ((lxs.length : Int) - 1).toNat (fun i => !decide (t.getD (i + 1) none = none)) (fun i => V.int ((i + 1 : Nat) : Int)), ∃ (r : Nat) (own : Wy), x = .int (r : Int) ∧ 1 ≤ r ∧ r < rows.length ∧ t.getD r none = some own := fun x hx => by
      unfold given at hx
      obtain ⟨i, hi, rfl⟩ := List.mem_map.mp hx
      obtain ⟨h1, h2⟩ := List.mem_filter.mp hi
      have := List.mem_range.mp h1
      cases ho : t.getD (i + 1) none with
      | none => rw [ho] at h2; simp at h2
      | some own => exact ⟨i + 1, own, rfl, by omega, by omega, ho⟩
    have hgl : (given ((lxs.length : Int) - 1).toNat (fun i => !decide (t.getD (i + 1) none = none)) (fun i => V.int ((i + 1 : Nat) : Int))).length ≤ 8 := by
      unfold given
      rw [List.length_map]
      refine Nat.le_trans (List.length_filter_le _ _) ?_
      rw [List.length_range]
      omega
    generalize given ((lxs.length : Int) - 1).toNat (fun i => !decide (t.getD (i + 1) none = none)) (fun i => V.int ((i + 1 : Nat) : Int)) = gv at *
    change tSeq _ _ _ [some (.ref p), some (.ref la), some (.ref I), some (.ref L), some (.bl (decide (V.int (n - 1) = V.int 0))), some (.ref Fa), some (.ref Ga), none, none, none, none, none] H5
    -- blocked
    refine q_asgL (el_lcL (K := K) (j := 9) (vs := [9]) (fun i => csB rows t (vNat (gv.getD i .non))) (fun i => gv.getD i .non) (ev_var (i := 6) rfl) (sq_of hGa) (by omega) (fun x => rfl) (fun i x H6 e6 hi => ?_) (fun i x H6 e6 hi _ => ?_)) fun Ba H6 gBa e6 hBa => ?_
    · obtain ⟨r, own, rfl, r1, r2, r3⟩ := hgv x (List.mem_of_getElem? hi)
      have ef : gv.getD i .non = .int (r : Int) := by rw [List.getD_eq_getElem?_getD, hi]; rfl
      show EvT _ _ _ (csB rows t (vNat (gv.getD i .non)))
      rw [ef]
      show EvT _ _ _ (csB rows t r)
      exact et_B (ev_call (ea_cons (ev_var (i := 1) rfl) (ea_cons (ev_var (i := 2) rfl) (ea_cons (ev_var (i := 9) rfl) ea_nil))) (spP_v fun H7 e7 => by
        have s7 := s5.ext (e6.trans e7)
        exact ⟨.ref la, .ref I, r, rows, t, own, rfl, (kp s7).pdK hl, hG, ⟨I, xs, rfl, .inl (sq_of (hIk s7)), (kp s7).odsK hx⟩, ht, r1, r2, r3, rfl⟩))
    · have ef : gv.getD i .non = x := by rw [List.getD_eq_getElem?_getD, hi]; rfl
      show Ev _ _ _ (gv.getD i .non)
      rw [ef]
      exact ev_var rfl
    have s6 := s5.ext e6
    have nBp := s5.pl.np gBa
    have nBq := s5.pl.nq gBa
    have hbv : ∀ x ∈ given gv.length (fun i => csB rows t (vNat (gv.getD i .non))) (fun i => gv.getD i .non), ∃ r : Int, x = .int r := fun x hx => by
      unfold given at hx
      obtain ⟨i, hi, rfl⟩ := List.mem_map.mp hx
      obtain ⟨h1, h2⟩ := List.mem_filter.mp hi
      have hi := List.mem_range.mp h1
      have e : gv.getD i .non = gv[i] := by rw [List.getD_eq_getElem?_getD, List.getElem?_eq_getElem hi]; rfl
      rw [e]
      obtain ⟨r, _, z, _⟩ := hgv _ (List.getElem_mem hi)
      exact ⟨_, z⟩
    have hbl : (given gv.length (fun i => csB rows t (vNat (gv.getD i .non))) (fun i => gv.getD i .non)).length ≤ 8 := by
      unfold given
      rw [List.length_map]
      refine Nat.le_trans (List.length_filter_le _ _) ?_
      rw [List.length_range]
      omega
    generalize given gv.length (fun i => csB rows t (vNat (gv.getD i .non))) (fun i => gv.getD i .non) = bv at *
    have hF6 := e6 _ _ (e5 _ _ hF)
    change tSeq _ _ _ [some (.ref p), some (.ref la), some (.ref I), some (.ref L), some (.bl (decide (V.int (n - 1) = V.int 0))), some (.ref Fa), some (.ref Ga), some (.ref Ba), none, none, none, none] H6
    refine q_ifBlk (et_neEL (K := K) (i := 7) rfl hBa) (fun H7 e7 => et_eqEL (K := K) (i := 5) rfl (e7 _ _ hF6)) rfl s6.pl (fun hb H7 o7 hP7 => ?_) (fun H7 o7 hP7 => ?_)
    · have s7 := s6.off nLp nLq o7 hP7
      have hB7 := o7 _ _ nBp nBq hBa
      refine asg_tup2 (t_pickL (K := K) (i := 7) rfl hB7 nBp nBq (fun z => by rw [z] at hb; simp at hb) (by omega) rfl hP7 fun H8 x o8 hP8 hx8 => ⟨by decide, fun T hT => ?_⟩)
      obtain ⟨r, rfl⟩ := hbv x hx8
      have s8 := s7.off nLp nLq o8 hP8
      have eT := Ex.new (o := .tup [V.str "no", V.int r]) hT
      have gT : H T = none := by
        cases c : H T with
        | none => rfl
        | some u => exact absurd hT (s8.old T (by rw [c]; simp))
      exact q_fin (m := m) (n := n) (s8.ext eT) hP nLp nLq rfl rfl rfl rfl (hla (s8.ext eT)) lxl hn2 hn8 hm7 (by omega) (td := .tuple [.str "no", .int r]) (.tup (nw_at gT upd_same) (.cons (.str _) (.cons (.int r) .nil))) (Rt.no m r).gt (fun _ => Rt.no m r) k
    have s7 := s6.off nLp nLq o7 hP7
    have hF7 := o7 _ _ nFp nFq hF6
    refine s_if (et_eqEL (K := K) (i := 5) rfl hF7) (fun hb H8 e8 => ?_) (fun hb H8 e8 => ?_)
    · refine asg_tup1 fun T hT => ?_
      have s8 := s7.ext e8
      have eT := Ex.new (o := .tup [V.str "all"]) hT
      have gT : H T = none := by
        cases c : H T with
        | none => rfl
        | some u => exact absurd hT (s8.old T (by rw [c]; simp))
      exact q_fin (m := m) (n := n) (s8.ext eT) hP nLp nLq rfl rfl rfl rfl (hla (s8.ext eT)) lxl hn2 hn8 hm7 (by omega) (td := .tuple [.str "all"]) (.tup (nw_at gT upd_same) (.cons (.str _) .nil)) (Rt.all m).gt (fun _ => Rt.all m) k
    -- a router is taken
    have s8 := s7.ext e8
    have hF8 := e8 _ _ hF7
    change tSeq _ _ _ [some (.ref p), some (.ref la), some (.ref I), some (.ref L), some (.bl (decide (V.int (n - 1) = V.int 0))), some (.ref Fa), some (.ref Ga), some (.ref Ba), none, none, none, none] H8
    refine q_asgO (t_pickL (K := K) (i := 5) rfl hF8 nFp nFq (fun z => by rw [z] at hb; simp at hb) (by omega) rfl s8.pl fun H9 x o9 hP9 hx9 => ?_)
    obtain ⟨r, rfl, rn, hr0⟩ := hfv x hx9
    have s9 := s8.off nLp nLq o9 hP9
    change tSeq _ _ _ [some (.ref p), some (.ref la), some (.ref I), some (.ref L), some (.bl (decide (V.int (n - 1) = V.int 0))), some (.ref Fa), some (.ref Ga), some (.ref Ba), none, some (.int (r : Int)), none, none] H9
    have hr1 : 1 ≤ r := by
      rcases Nat.eq_zero_or_pos r with z | z
      · rw [z] at hr0
        exact absurd hr0 ht0
      · exact z
    obtain ⟨yr, or, _, htr, hor, _, _⟩ := item r rn
    rw [hr0] at hor
    subst hor
    have hm0 : 0 < m := by have := nns_pos htr; omega
    obtain ⟨m', rfl⟩ : ∃ m', m = m' + 1 := ⟨m - 1, by omega⟩
    have hrw : rows[r]? = some rows[r] := List.getElem?_eq_getElem rn
    have hcw : chW rows r = rows[r] ++ [[]] := by
      unfold chW
      rw [if_neg (by omega), List.getD_eq_getElem?_getD, hrw]
      rfl
    have hr6 := h6 _ (List.getElem_mem rn)
    obtain ⟨wv, hrv, hdr⟩ := l2.at (i := r) (d := rd rows[r]) (by rw [List.getElem?_map, hrw]; rfl)
    have hpx : ∀ u, u ∈ chW rows r → TkO rows (t.set r (some u)) := fun u hu => tko_set ht hu
    generalize hcg : chW rows r = cw at *
    generalize rows[r] = row at *
    unfold rd at hdr
    cases hdr with
    | tup z1 z2 =>
    rename_i ra rws
    have rl := z2.length
    rw [List.length_map] at rl
    refine q_asgL (el_lst ea_nil (by simp)) fun Dt HA gD eA hD => ?_
    have sA := s9.ext eA
    have nDp := s9.pl.np gD
    have nDq := s9.pl.nq gD
    have nDL : Dt ≠ L := fun z => by rw [z, s9.lf] at gD; cases gD
    have gD0 : H Dt = none := by
      cases c : H Dt with
      | none => rfl
      | some u => exact absurd gD (s9.old Dt (by rw [c]; simp))
    change tSeq _ _ _ [some (.ref p), some (.ref la), some (.ref I), some (.ref L), some (.bl (decide (V.int (n - 1) = V.int 0))), some (.ref Fa), some (.ref Ga), some (.ref Ba), none, some (.int (r : Int)), some (.ref Dt), none] HA
    have pA : HA p ≠ none := by obtain ⟨_, _, h, _⟩ := sA.pl.at_; rw [h]; simp
    have qA : HA q ≠ none := by obtain ⟨_, _, _, h, _⟩ := sA.pl.at_; rw [h]; simp
    have LA : HA L ≠ none := by rw [sA.lf]; simp
    refine q_forLO (K := K) (fun a cv H1 => ∃ e0, cv = rws ++ [.ref e0] ∧ Ex HA H1 ∧ HA a = none ∧ H1 e0 = some (.tup [])) (fun Q hQ => t_rowPlus (K := K) (r := r) rfl rfl (hla sA) hrv ((kp sA).tup z1) (by omega) fun c e0 H' e gc hc he0 => hQ c _ H' hc ⟨e0, rfl, e, gc, he0⟩)
      (fun a cv i σ' H' => ∃ (n' : Int) (us : List V) (ds : List PyData) (o11 : Option V) (e0 : Addr), σ' = [some (.ref p), some (.ref la), some (.ref I), some (.ref L), some (.bl (decide (V.int (n - 1) = V.int 0))), some (.ref Fa), some (.ref Ga), some (.ref Ba), none, some (.int (r : Int)), some (.ref Dt), o11] ∧ cv = rws ++ [.ref e0] ∧ H' e0 = some (.tup []) ∧ H' a = some (.lst cv) ∧ a ≠ p ∧ a ≠ q ∧ a ≠ L ∧ a ≠ Dt ∧
        Sx p q L H H' n' ∧ n' ≤ n - 1 ∧ (∀ b, HA b ≠ none → H' b ≠ none) ∧ H' Dt = some (.lst us) ∧ DqA (Nw HA H') us ds ∧ us.length = i ∧ (∀ d ∈ ds, Gt m' d) ∧ (n ≤ 1 → ∀ d ∈ ds, Rt m' d))
      ?_ (fun a cv i σ' H' _ h => by obtain ⟨_, _, _, _, _, _, _, _, h, _⟩ := h; exact sq_of h) ?_ ?_
    · rintro a cv H1 ha ⟨e0, rfl, e, gA, he0⟩
      refine ⟨n - 1, [], [], _, e0, rfl, rfl, he0, ha, fun z => pA (z ▸ gA), fun z => qA (z ▸ gA), fun z => LA (z ▸ gA), (fun z => by rw [z, hD] at gA; cases gA), sA.ext e, Int.le_refl _, fun b hb z => ?_, e _ _ hD, .nil, rfl, (fun d hd => by cases hd), (fun _ d hd => by cases hd)⟩
      cases c : HA b with
      | none => exact hb c
      | some u => rw [e _ _ c] at z; cases z
    · rintro a cv i x σ' H10 hi ⟨n', us, ds, o11, e0, rfl, rfl, he0, ha, nap, naq, naL, naD, s10, hle, hold, hDt, hus, hul, hgt, hrt⟩
      have hil := (List.getElem?_eq_some_iff.mp hi).1
      rw [List.length_append] at hil
      change i < rws.length + 1 at hil
      have hcd : DpAll K H10 (rws ++ [V.ref e0]) (cw.map wd) := by
        rw [hcw, List.map_append]
        exact dpa_app (DqA.dp (lay_wds row) ((kp s10).wds z2)) (.cons (dp_of_wd (w := []) (st_of he0)) .nil)
      obtain ⟨u, hu1, hu2⟩ := dpa_get hcd hi
      have hum := List.mem_of_getElem? hu1
      refine g_name ?_
      change tDrop _ _ [some (.ref p), some (.ref la), some (.ref I), some (.ref L), some (.bl (decide (V.int (n - 1) = V.int 0))), some (.ref Fa), some (.ref Ga), some (.ref Ba), none, some (.int (r : Int)), some (.ref Dt), some x] H10
      have hI10 := hIk s10
      have hitems : EvL (tOp rCat (tOp rCat (tSl (rSlL K) (tVar 2) tNoPart (tPart (tVar 9))) (tLst (tCons (tVar 11) tNil))) (tSl (rSlL K) (tVar 2) (tPart (tOp (rI0 fun i j => .int (i + j)) (tVar 9) (tC (.int 1)))) tNoPart)) [some (.ref p), some (.ref la), some (.ref I), some (.ref L), some (.bl (decide (V.int (n - 1) = V.int 0))), some (.ref Fa), some (.ref Ga), some (.ref Ba), none, some (.int (r : Int)), some (.ref Dt), some x] H10 (xs.take r ++ [x] ++ xs.drop (r + 1)) := by
        have g1 := el_sl (K := K) (te := tVar 2) (σ := [some (.ref p), some (.ref la), some (.ref I), some (.ref L), some (.bl (decide (V.int (n - 1) = V.int 0))), some (.ref Fa), some (.ref Ga), some (.ref Ba), none, some (.int (r : Int)), some (.ref Dt), some x]) (H := H10) (ev_var rfl) eo_none (eo_some (te := tVar 9) (i := (r : Int)) (ev_var rfl)) (sq_of hI10)
        have g3 := el_sl (K := K) (te := tVar 2) (σ := [some (.ref p), some (.ref la), some (.ref I), some (.ref L), some (.bl (decide (V.int (n - 1) = V.int 0))), some (.ref Fa), some (.ref Ga), some (.ref Ba), none, some (.int (r : Int)), some (.ref Dt), some x]) (H := H10) (ev_var rfl) (eo_some (te := tOp (rI0 fun i j => .int (i + j)) (tVar 9) (tC (.int 1))) (i := (r : Int) + 1) (ev_op (ev_var rfl) ev_c rv_I0)) eo_none (sq_of hI10)
        rw [cut_to _ _ (by omega)] at g1
        rw [show (r : Int) + 1 = ((r + 1 : Nat) : Int) by omega, cut_from _ _ (by omega)] at g3
        have g2 := el_lst (ta := tCons (tVar 11) tNil) (vs := [x]) (σ := [some (.ref p), some (.ref la), some (.ref I), some (.ref L), some (.bl (decide (V.int (n - 1) = V.int 0))), some (.ref Fa), some (.ref Ga), some (.ref Ba), none, some (.int (r : Int)), some (.ref Dt), some x]) (H := H10) (ea_cons (ev_var rfl) ea_nil) (by simp)
        exact el_cat (K := K) (el_cat (K := K) g1 g2 (by simp; omega)) g3 (by simp; omega)
      refine s_appC (K := K) rfl hDt (t_callT rfl rfl hitems rfl fun Lg H11 gLg e11 hLg => ?_)
      have s11 := s10.ext e11
      have hxn : DpAll K H11 (xs.take r ++ [x] ++ xs.drop (r + 1)) ((t.set r (some u)).map od) := by
        have h1 := dpa_set ((Kp.ex e11).odK (o := some u) hu2) r ((kp s11).odsK hx)
        rw [← List.map_set, List.set_eq_take_append_cons_drop, if_pos (by omega)] at h1
        rw [List.append_assoc]
        exact h1
      have ht0' : (t.set r (some u)).getD 0 none ≠ none := by
        rw [List.getD_eq_getElem?_getD, List.getElem?_set_ne (by omega), ← List.getD_eq_getElem?_getD]
        exact ht0
      refine hT _ _ _ _ ⟨m', rfl, p, q, L, Lg, .ref la, _, n', rows, t.set r (some u), rfl, s11.pl, nLp, nLq, s10.pl.np gLg, s10.pl.nq gLg, (fun z => by rw [z, s10.lf] at gLg; cases gLg), (kp s11).pdK hl, hG, hn2, hn8, h6, hLg, hxn, hpx u hum, by have := nns_set (x := u) htr; omega, by omega, ht0', s11.lf, fun H12 v d n2 s12 hle2 hdv hgd hrd => ?_⟩
      have hDt12 := s12.ob _ _ nDp nDq nDL (e11 _ _ hDt)
      have old12 : ∀ b, HA b ≠ none → H12 b ≠ none := fun b hb => s12.old b (fun z => by
        cases c : H10 b with
        | none => exact hold b hb c
        | some o => rw [e11 _ _ c] at z; cases z)
      have ob1012 : Ob3 p q L H10 H12 := (Ob3.ex e11).trans s12.ob
      have e1 : Ex (Nw HA H10) (Nw HA H12) := nw_mono ob1012 pA qA LA
      have e2 : Ex (Nw H11 H12) (Nw HA H12) := nw_less fun b hb z => by
        cases c : H10 b with
        | none => exact hold b hb c
        | some o => rw [e11 _ _ c] at z; cases z
      have e3 : Ex (Nw HA H12) (Nw HA (upd H12 Dt (.lst (us ++ [v])))) := fun b o hb => by
        obtain ⟨b1, b2⟩ := nw_inv hb
        refine nw_at b1 ?_
        rw [upd_ne (fun z => by rw [z, hD] at b1; cases b1)]
        exact b2
      refine ⟨Dt, us, v, rfl, rfl, hDt12, sz_lt (by omega), n2, us ++ [v], ds ++ [d], _, e0, rfl, rfl, ?_, ?_, nap, naq, naL, naD, ?_, by omega, fun b hb => ?_, upd_same, (hus.mono (e1.trans e3)).append (.cons (hdv.mono (e2.trans e3)) .nil), by rw [List.length_append, hul]; rfl, ?_, ?_⟩
      · exact (Kp.mut hDt12).tup ((s12.kp s11.pl s11.lf).tup (e11 _ _ he0))
      · rw [upd_ne naD]
        exact ob1012 _ _ nap naq naL ha
      · exact Sx.mut ⟨s10.ob.trans ob1012, s12.pl, s12.lf⟩ gD0 nDp nDq nDL
      · by_cases c : b = Dt
        · rw [c, upd_same]; simp
        · rw [upd_ne c]; exact old12 b hb
      · intro d' hd'
        rcases List.mem_append.mp hd' with z | z
        · exact hgt d' z
        · rw [List.mem_singleton.mp z]; exact hgd
      · intro hn d' hd'
        rcases List.mem_append.mp hd' with z | z
        · exact hrt hn d' z
        · rw [List.mem_singleton.mp z]; exact hrd (by omega)
    · rintro a cv σ' H10 ⟨n', us, ds, o11, e0, rfl, rfl, he0, ha, nap, naq, naL, naD, s10, hle, hold, hDt, hus, hul, hgt, hrt⟩
      rw [List.length_append] at hul
      change us.length = rws.length + 1 at hul
      have hdl := hus.length
      refine asg_tup3 (j := 9) rfl ⟨.ref Dt, rfl, Dt, us, rfl, .inl ⟨sq_of hDt, fun T2 hT2 => ⟨by decide, fun T hT => ?_⟩⟩⟩
      have e11 := Ex.new (o := .tup us) hT2
      have e12 := Ex.new (o := .tup [V.str "take", V.int (r : Int), V.ref T2]) hT
      have s12 := s10.ext (e11.trans e12)
      have fresh : ∀ {b : Addr}, H10 b = none → H b = none := fun {b} hb => by
        cases c : H b with
        | none => rfl
        | some u => exact absurd hb (s10.old b (by rw [c]; simp))
      have eN : Ex (Nw HA H10) (Nw H (upd (upd H10 T2 (.tup us)) T (.tup [V.str "take", V.int (r : Int), V.ref T2]))) := nw_both sA.old (e11.trans e12)
      have hr6' : ds.length ≤ 7 := by omega
      exact q_fin (m := m' + 1) (n := n) s12 hP nLp nLq rfl rfl rfl rfl (hla s12) lxl hn2 hn8 hm7 (by omega) (td := .tuple [.str "take", .int (r : Int), .tuple ds]) (.tup (nw_at (fresh (fresh_back e11 hT)) upd_same) (.cons (.str _) (.cons (.int _) (.cons (.tup (nw_at (fresh hT2) (e12 _ _ upd_same)) (hus.mono eN)) .nil)))) (gt_take sh_take hgt) (fun hn => Rt.take (by omega) hr6' (hrt hn)) k
end
end Wk

set_option Elab.async false
set_option linter.all false
set_option maxRecDepth 100000
set_option maxHeartbeats 400000
namespace Wk
open PySem PySem.Spec PyProof.Rows L2 Evl
theorem nns_goal (n : Nat) : nns (ptk n [[0]]) = n - 1 := by
  unfold nns ptk
  simp
section
variable {P : Program} {w : World} {K : PySem.W.Frag} {mg : Str → Option Value} {base : Heap} {f : Addr} {fd : FuncData} {CW CB : Addr}
theorem tree_all (B : Bl mg) (C : Cal P w K mg base "_law_draw" ["_law_pool_here", "_law_size"] 1 spDraw) (CB : Cal P w K mg base "_law_blocked" ["_law_lists_here", "_law_items", "_law_router"] 1 (spBlk K)) (CE : Cal P w K mg base "_law_exchanged" ["_law_pool_here", "_law_tree_here", "_law_size"] 2 spExch) (F : FnP K "_law_tree" sTree f fd) (hg : mg "_law_tree" = some (.ref f)) :
    ∀ m, FnOk P w K mg base CX0 (m + 2 + 1) f fd ["_law_pool_here", "_law_lists_here", "_law_items", "_law_left"] (spTree K m)
  | 0 => ok_tree 0 0 (fun _ _ _ _ => False) (by omega) ⟨⟨f, fd, ⟨fun _ _ _ _ h => h.elim, fun _ _ _ _ _ _ _ _ _ _ _ _ _ h => h.elim⟩, hg, F.kp, F.bindsN fun _ _ _ _ _ _ us hl => match us, hl with | [_, _, _, _], _ => rfl⟩⟩ (fun _ _ _ _ ⟨m', e, _⟩ => by omega) B C CB CE F
  | m + 1 => ok_tree (m + 1) (m + 2 + 1) (spTree K m) (by omega) ⟨⟨f, fd, tree_all B C CB CE F hg m, hg, F.kp, F.bindsN fun _ _ _ _ _ _ us hl => match us, hl with | [_, _, _, _], _ => rfl⟩⟩ (fun vs H Q E ⟨m', e, h⟩ => by
      have e2 : m' = m := by omega
      subst e2
      exact h) B C CB CE F
/-! the law -/
def spLaw (K : PySem.W.Frag) : Sp := fun vs H Q _ => ∃ (a : Addr) (ns : List Int), vs = [.ref a] ∧ SqL K H a (ns.map V.int) ∧ ns.length ≤ 63 ∧ ∀ H', Q (.bl true) H'
abbrev sLaw : Stmt := top 52
abbrev nLaw : List Str := ["_law_script", "_law_pool_here", "_law_lists_here", "_law_spoil", "_law_items"]
theorem scLaw : FnScope nLaw ["_law_script"] (defScope sLaw) := ⟨rfl, rfl, rfl, by decide +kernel, rfl, by decide +kernel, by decide +kernel⟩
structure Ms (P : Program) (w : World) (K : PySem.W.Frag) (mg : Str → Option Value) (base : Heap) : Prop where
  pool : Cal P w K mg base "_law_pool" ["_law_script"] 1 (spPool K)
  draw : Cal P w K mg base "_law_draw" ["_law_pool_here", "_law_size"] 1 spDraw
  lists : Cal P w K mg base "_law_lists" ["_law_pool_here", "_law_most", "_law_limit", "_law_cap"] 5 spLists
  straight : Cal P w K mg base "_law_straight" ["_law_pool_here"] 2 spStraight
  long : Cal P w K mg base "_law_long_tree" ["_law_pool_here", "_law_lists_here"] 3 spLong
  tree : Cal P w K mg base "_law_tree" ["_law_pool_here", "_law_lists_here", "_law_items", "_law_left"] 10 (spTree K 7)
  asked : Cal P w K mg base "_law_asked" ["_law_lists_here", "_law_tree_here"] 25 spAsked
theorem ok_law (B : Bl mg) (S : Ms P w K mg base) (F : FnP K "law" sLaw f fd) : FnOk P w K mg base CX0 26 f fd ["_law_script"] (spLaw K) := by
  refine F.ok scLaw (fun vs H Q E h => ?_) (fun cdv A outer s H vs Q E hr h => ?_)
  · obtain ⟨a, ns, rfl, _⟩ := h
    rfl
  · obtain ⟨a0, ns, rfl, hS, hns, k⟩ := h
    have r1 : Room 1 _ := hr.mono (by decide)
    have r2 : Room 2 _ := hr.mono (by decide)
    have r3 : Room 3 _ := hr.mono (by decide)
    have r5 : Room 5 _ := hr.mono (by decide)
    have r10 : Room 10 _ := hr.mono (by decide)
    refine ⟨_, pss_cons (ps_set (i := 1) scLaw.nd rfl (Or.inl rfl) (pe_cal S.pool r1 (by rfl) (pa_cons (pv 0) pa_nil)))
      (pss_cons (ps_if (pt_cmpR op_eq (pe_cal S.draw r1 (by rfl) (pa_cons (pv 1) (pa_cons pe_int pa_nil))) pe_int (nomark _))
        (pss_cons (ps_set (i := 2) scLaw.nd rfl (Or.inl rfl) (pe_cal S.straight r2 (by rfl) (pa_cons (pv 1) pa_nil)))
        (pss_one (ps_ret (pe_cal S.asked hr (by rfl) (pa_cons (pv 2) (pa_cons (pe_cal S.long r3 (by rfl) (pa_cons (pv 1) (pa_cons (pv 2) pa_nil))) pa_nil)))))) pss_nil)
      (pss_cons (ps_set (i := 3) scLaw.nd rfl (Or.inl rfl) (pe_ix (ix_listK (K := K) rfl) (pe_lst (pa_cons pe_int (pa_cons (pe_op op_add pe_int (pe_cal S.draw r1 (by rfl) (pa_cons (pv 1) (pa_cons pe_int pa_nil)))) (pa_cons (pe_op op_add pe_int (pe_cal S.draw r1 (by rfl) (pa_cons (pv 1) (pa_cons pe_int pa_nil)))) (pa_cons (pe_op op_add pe_int (pe_cal S.draw r1 (by rfl) (pa_cons (pv 1) (pa_cons pe_int pa_nil)))) pa_nil))))) (pe_cal S.draw r1 (by rfl) (pa_cons (pv 1) (pa_cons pe_int pa_nil))) (fun _ _ => rfl)))
      (pss_cons (ps_set (i := 2) scLaw.nd rfl (Or.inl rfl) (pe_cal S.lists r5 (by rfl) (pa_cons (pv 1) (pa_cons pe_int (pa_cons pe_int (pa_cons pe_int pa_nil))))))
      (pss_cons (ps_set (i := 4) scLaw.nd rfl (Or.inl rfl) (pe_op op_cat (pe_lst (pa_cons (pe_tup (pa_cons pe_int pa_nil)) pa_nil)) (pe_op op_rep (pe_lst (pa_cons pe_non pa_nil)) (pe_op op_sub (pe_callB call_len_seq (by rfl) B.len PySem.boot_len (pa_cons (pv 2) pa_nil)) pe_int))))
      (pss_one (ps_ret (pe_cal S.asked hr (by rfl) (pa_cons (pv 2) (pa_cons (pe_cal S.tree r10 (by rfl) (pa_cons (pv 1) (pa_cons (pv 2) (pa_cons (pv 4) (pa_cons (pe_lst (pa_cons (pv 3) pa_nil)) pa_nil))))) pa_nil))))))))), ?_⟩
    refine ⟨.ref a0, rfl, a0, ns, rfl, hS, hns, fun H1 p q hP1 => ?_⟩
    refine g_name ?_
    dsimp only
    change tSeq _ _ _ [some (.ref a0), some (.ref p), none, none, none] H1
    refine ⟨.ref p, rfl, Hd H1 p q, p, q, 6, rfl, hP1.hd, by decide, by decide, fun H2 y hp2 hy0 hy1 => ⟨rfl, _, rfl, ?_⟩⟩
    have hP2 := hp2.em
    change (if decide (V.int y = V.int 0) = true then _ else _)
    by_cases c0 : decide (V.int y = V.int 0) = true
    · rw [if_pos c0]
      refine ⟨.ref p, rfl, Em, p, q, rfl, hP2, fun G3 H3 lv rows e3 hP3 hlv h8 hG h6 hne => ?_⟩
      refine g_name ?_
      dsimp only
      change tRet _ _ [some (.ref a0), some (.ref p), some lv, none, none] H3
      refine ⟨lv, rfl, .ref p, rfl, lv, rfl, G3, p, q, lv, rows, rfl, hP3, hlv, h8, h6, hne, fun G4 H4 v d e4 hP4 hv hg => ?_⟩
      exact ⟨lv, v, rows, d, rfl, (hlv.mono e4).mono hP4.ex, hG, by omega, by omega, h6, hv.mono hP4.ex, hg, fun H' => k H'⟩
    rw [if_neg c0]
    change tSeq _ _ _ [some (.ref a0), some (.ref p), none, none, none] H2
    refine ⟨.ref p, rfl, Hd H2 p q, p, q, 4, rfl, hP2.hd, by decide, by decide, fun H3 a h3 a0' a1' => ⟨1, a, rfl, rfl, ?_⟩⟩
    refine ⟨.ref p, rfl, Hd H3 p q, p, q, 12, rfl, h3.em.hd, by decide, by decide, fun H4 b h4 b0' b1' => ⟨1, b, rfl, rfl, ?_⟩⟩
    refine ⟨.ref p, rfl, Hd H4 p q, p, q, 40, rfl, h4.em.hd, by decide, by decide, fun H5 c h5 c0' c1' => ⟨1, c, rfl, rfl, ⟨by show 4 ≤ sizeLine; decide, fun A0 hA => ?_⟩⟩⟩
    have hP6 := h5.em.ext (Ex.new (o := .lst [V.int 0, .int (1 + a), .int (1 + b), .int (1 + c)]) hA)
    have nAp := h5.em.np hA
    have nAq := h5.em.nq hA
    have hA6 : (upd H5 A0 (.lst [V.int 0, .int (1 + a), .int (1 + b), .int (1 + c)])) A0 = some (.lst [V.int 0, .int (1 + a), .int (1 + b), .int (1 + c)]) := upd_same
    generalize upd H5 A0 (.lst [V.int 0, .int (1 + a), .int (1 + b), .int (1 + c)]) = H6 at *
    refine ⟨.ref p, rfl, Hd H6 p q, p, q, 4, rfl, hP6.hd, by decide, by decide, fun H7 j h7 j0 j1 => ?_⟩
    obtain ⟨jn, rfl⟩ : ∃ jn : Nat, j = (jn : Int) := ⟨j.toNat, by omega⟩
    obtain ⟨z, hz⟩ : ∃ z : Int, [V.int 0, V.int (1 + a), V.int (1 + b), V.int (1 + c)][jn]? = some (.int z) := by
      match jn, (show jn < 4 by omega) with
      | 0, _ => exact ⟨_, rfl⟩
      | 1, _ => exact ⟨_, rfl⟩
      | 2, _ => exact ⟨_, rfl⟩
      | 3, _ => exact ⟨_, rfl⟩
    refine ⟨A0, _, (jn : Int), .int z, rfl, rfl, sq_of (h7.off _ _ nAp nAq hA6), atI_nat hz, ?_⟩
    refine g_name ?_
    dsimp only
    change tSeq _ _ _ [some (.ref a0), some (.ref p), none, some (.int z), none] H7
    refine ⟨.ref p, rfl, Em, p, q, 5, 3, 81, rfl, h7.em, by decide, by decide, by decide, by decide, fun n hn => ?_, fun G8 H8 lv rows e8 hP8 hlv hn2 hn5 hG h3' htk => ?_⟩
    · unfold tkM
      rw [if_pos hn]
      decide
    have h6 : ∀ row ∈ rows, row.length ≤ 6 := fun row hr => by have := h3' row hr; omega
    refine g_name ?_
    dsimp only
    change tSeq _ _ _ [some (.ref a0), some (.ref p), some lv, some (.int z), none] H8
    have hl8 := hlv.mono hP8.ex
    have hll : ∃ la lxs, lv = .ref la ∧ H8 la = some (.tup lxs) ∧ lxs.length = rows.length := by
      have hl' := hl8
      unfold pd at hl'
      cases hl' with
      | tup z1 z2 =>
        have := z2.length
        rw [List.length_map] at this
        exact ⟨_, _, rfl, z1, this⟩
    obtain ⟨la, lxs, rfl, l1, lxl⟩ := hll
    refine q_asgO (t_items (K := K) (n := rows.length) (fun H9 e9 => by rw [← lxl]; exact ev_lenT (K := K) (ev_var rfl) (st_of (e9 _ _ l1))) hn2 (by omega) fun H9 I xs e9 gI hI hx => ?_)
    change tRet _ _ [some (.ref a0), some (.ref p), some (.ref la), some (.int z), some (.ref I)] H9
    have hP9 := hP8.em.ext e9
    refine ⟨.ref la, rfl, .ref p, rfl, .ref la, rfl, .ref I, rfl, .int z, rfl, ⟨by show 1 ≤ sizeLine; decide, fun L hL => ?_⟩⟩
    have eL := Ex.new (o := .lst [V.int z]) hL
    have hPL := hP9.ext eL
    have nIp := hP8.np gI
    have nIq := hP8.nq gI
    refine ⟨p, q, L, I, .ref la, xs, z, rows, ptk rows.length [[0]], rfl, hPL, hP9.np hL, hP9.nq hL, nIp, nIq, fun e => (by rw [e, hL] at hI; cases hI), hl8.mono (e9.trans eL), hG, hn2, by omega, h6, eL _ _ hI, DpAll.up eL hx, ?_, by rw [nns_goal]; omega, by decide, by simp [ptk], upd_same, fun H' v d n' sx hle hd hg _ => ?_⟩
    · exact (goal_pre (by omega)).tk
    · exact ⟨.ref la, v, rows, d, rfl, (sx.kp hPL upd_same).pdK (hl8.mono (e9.trans eL)), hG, hn2, by omega, h6, hd.mono nw_sub, hg, fun H' => k H'⟩
end
end Wk

set_option Elab.async false
set_option linter.all false
set_option maxRecDepth 100000
set_option maxHeartbeats 4000000
namespace Wk
open PySem PySem.Spec PyProof.Rows L2 Evl
/-! facts of own errors -/
def exB (K : PySem.W.Frag) (C : Addr) : Bool := (match K.lookup C with
  | some o => (match o.cls, o.data, o.slots.toList with
    | .type t, .cls cd, [_, _, _, _, some (.builtin n), _] => decide (t = "type") && (decide (n = "ValueError.__new__") && (cd.hasDict && (!cd.hasDel && (match cd.mro with
      | .ref c :: bm => decide (c = C) && PySem.HandSPX.refsVE bm
      | _ => false))))
    | _, _, _ => false)
  | none => false) && (He.eqO (PySem.W.findIn K (.ref C) "__setattr__") (some (some (.builtin "object.__setattr__"))) && (decide (PySem.W.subIn K (.ref C) (.type "BaseException") = some true) && (decide (PySem.W.typeIn K (.ref C) = some (.type "type")) && (PySem.W.keepIn K (.ref C) && xfB K C))))
theorem exB_ok {K : PySem.W.Frag} {C : Addr} (h : exB K C = true) : OexC K C ∧ XfC K C := by
  unfold exB at h
  obtain ⟨h1, h⟩ := He.ba h
  obtain ⟨h2, h⟩ := He.ba h
  obtain ⟨h3, h⟩ := He.ba h
  obtain ⟨h4, h⟩ := He.ba h
  obtain ⟨h5, h6⟩ := He.ba h
  refine ⟨⟨?_, He.eqO_ok h2, of_decide_eq_true h3, of_decide_eq_true h4, h5⟩, xfB_ok h6⟩
  cases hl : K.lookup C with
  | none =>
    rw [hl] at h1
    cases h1
  | some o =>
    rw [hl] at h1
    obtain ⟨oc, od, dt, ⟨sl⟩⟩ := o
    dsimp only at h1
    split at h1
    · rename_i t cd k0 k1 k2 k3 n k5
      obtain ⟨z1, h1⟩ := He.ba h1
      obtain ⟨z2, h1⟩ := He.ba h1
      obtain ⟨z3, h1⟩ := He.ba h1
      obtain ⟨z4, h1⟩ := He.ba h1
      split at h1
      · rename_i c bm hm
        obtain ⟨z5, z6⟩ := He.ba h1
        obtain ⟨x1, x2, x3, x4, x5, x6, x7, x8, x9, x10, x11⟩ := cd
        dsimp only at z3 z4 hm
        have y1 := of_decide_eq_true z1
        have y2 := of_decide_eq_true z2
        have y5 := of_decide_eq_true z5
        have y4 : x11 = false := by simpa using z4
        subst y1 y2 y5 y4 z3 hm
        exact ⟨x1, x5, x4, x2, bm, x7, x8, x9, x10, od, k0, k1, k2, k3, k5, rfl, z6⟩
      · cases h1
    · cases h1
/-! what isinstance asks of an own class -/
def insB (K : PySem.W.Frag) (C : Addr) : Bool := He.eqO (PySem.W.findIn K (.ref C) "__class__") (some (some (.builtin "object.__class__"))) && (He.eqO (PySem.W.specialIn K (.builtin "object.__class__") "__get__") (some (some (.builtin "getset_descriptor.__get__"))) && (decide (PySem.W.takesIn K (.builtin "object.__class__") = some true) &&
  (decide (PySem.W.mroIn K C (.type "object") = some true) && decide (PySem.W.kitOne K (.ref C) (.type "tuple") = some false))))
theorem insB_ok {K : PySem.W.Frag} {C : Addr} (cl : Cls K C) (h : insB K C = true) : ITx K C := by
  obtain ⟨h1, h⟩ := He.ba h
  obtain ⟨h2, h⟩ := He.ba h
  obtain ⟨h3, h⟩ := He.ba h
  obtain ⟨h4, h5⟩ := He.ba h
  exact ⟨cl, He.eqO_ok h1, He.eqO_ok h2, of_decide_eq_true h3, of_decide_eq_true h4, of_decide_eq_true h5⟩
/-! the head's facts with more of them -/
abbrev AlX : Type := He.AlD × Bool
def obsX (n : Nat) (fa : List He.Fa) (fn : List He.DefD) (eb : PySem.W.Frag → Bool) (g : Addr → Option Obj) : AlX := (He.obsDG n fa fn g, eb (He.frG g (He.asD g n)))
def hookX (n : Nat) (fa : List He.Fa) (fn : List He.DefD) (eb : PySem.W.Frag → Bool) : PySem.W.Hook where
  α := AlX
  obs := fun s => obsX n fa fn eb s.heap.get?
  val := fun _ => (He.valD fn, true)
  says := fun _ h => ∃ K : PySem.W.Frag, K.In h ∧ He.SaysD fa fn K ∧ eb K = true
  of := fun _ _ e => ⟨_, He.frG_in, congrArg Prod.fst e, congrArg Prod.snd e⟩
  keeps := fun _ _ _ ⟨K, hK, c⟩ k => ⟨K, PySem.W.Frag.In.keeps hK k, c⟩
theorem obsX_eq {n : Nat} {fa : List He.Fa} {fn : List He.DefD} {eb : PySem.W.Frag → Bool} {g : Addr → Option Obj} {s : Shared} (h : ∀ a, g a = s.heap.get? a) : obsX n fa fn eb g = (hookX n fa fn eb).obs s := by
  have e : g = s.heap.get? := funext h
  rw [e]
  rfl
theorem calOf {P : Program} {w : World} {K : PySem.W.Frag} {mg : Str → Option Value} {base : Heap} {x q : Str} {params : Arguments} {body : List Stmt} {scope : Scope} {f : Addr} {fd : FuncData} {ps : List Str} {k : Nat} {sp : Sp} (F : FunD K x q params body scope [] [] f fd) (o : FnOk P w K mg base CX0 k f fd ps sp) (g : mg x = some (.ref f)) (b : Binds K fd ps []) : Cal P w K mg base x ps k sp := ⟨⟨f, fd, o, g, F.kp, b⟩⟩
def dG (x : Str) (i : Nat) : He.DefD := ⟨(x, none), x, x, defArgs (top i), defBody (top i), defScope (top i), [], []⟩
def dM (c m q : Str) (i j : Nat) : He.DefD := ⟨(c, some m), m, q, defArgs (inClass (top i) j), defBody (inClass (top i) j), defScope (inClass (top i) j), [], []⟩
end Wk

set_option Elab.async false
set_option linter.all false
set_option maxRecDepth 100000
set_option maxHeartbeats 0
namespace Wk
open PySem PySem.Spec PyProof.Rows L2 Evl
def fn : List He.DefD := ([dG "is_integer" 7, dG "is_between" 8, dG "is_tuple_of" 9, dG "is_router" 10, dG "refuse_no_router" 11, dG "is_size" 12, dG "is_way" 13, dG "replaced" 14, dG "choices" 17, dG "no_items" 18, dG "cannot_stay" 19, dG "first_that_cannot_stay" 20, dG "is_outcome_tree" 22, dG "is_tree" 23, dG "is_take" 24, dG "is_no" 25, dG "refuse_wrong_lists" 30, dG "is_way_list" 31, dG "has_let_rest" 32, dG "_law_pool" 34, dG "_law_draw" 35, dG "_law_order" 36, dG "_law_planted" 37, dG "_law_add" 38, dG "_law_lists" 39, dG "_law_is_int" 40, dG "_law_is_taking" 41, dG "_law_best" 42, dG "_law_stays" 43, dG "_law_is_outcome" 44] : List He.DefD) ++ ([dG "_law_blocked" 45, dG "_law_walk" 46, dG "_law_exchanged" 47, dG "_law_tree" 48, dG "_law_straight" 49, dG "_law_long_tree" 50, dG "_law_asked" 51, dG "law" 52, dM "Wishes" "__init__" "Wishes.__init__" 29 0, dM "Wishes" "ways" "Wishes.ways" 29 2, dM "NoRouter" "__init__" "NoRouter.__init__" 3 0, dM "BadWishes" "__init__" "BadWishes.__init__" 4 0] : List He.DefD)
def fa : List He.Fa := ([.glo "is_integer", .glo "is_between", .glo "is_tuple_of", .glo "is_router", .glo "refuse_no_router", .glo "is_size", .glo "is_way", .glo "replaced", .glo "choices", .glo "no_items", .glo "cannot_stay", .glo "first_that_cannot_stay", .glo "is_outcome_tree", .glo "is_tree", .glo "is_take", .glo "is_no", .glo "refuse_wrong_lists", .glo "is_way_list", .glo "has_let_rest", .glo "_law_pool", .glo "_law_draw", .glo "_law_order", .glo "_law_planted", .glo "_law_add", .glo "_law_lists", .glo "_law_is_int", .glo "_law_is_taking", .glo "_law_best", .glo "_law_stays", .glo "_law_is_outcome"] : List He.Fa) ++ ([.glo "_law_blocked", .glo "_law_walk", .glo "_law_exchanged", .glo "_law_tree", .glo "_law_straight", .glo "_law_long_tree", .glo "_law_asked", .glo "law", .free "isinstance", .free "len", .free "tuple", .free "list", .free "int", .free "bool", .free "str", .free "all", .free "set", .free "enumerate", .free "range", .free "abs", .free "min", .free "repr", .int "MOST_ROUTERS" 8, .int "MOST_WAYS" 6, .int "LEAST_ROUTERS" 2, .glo "Wishes", .cls "Wishes", .mkr "Wishes", .meth "Wishes" "ways", .noat "Wishes" "size"] : List He.Fa) ++ ([.noat "Wishes" "_lists", .glo "BadWishes", .glo "NoRouter", .exm "BadWishes" "BadWishes" true, .exm "NoRouter" "NoRouter" true, .noat "NoRouter" "router", .noat "BadWishes" "router", .meth "NoRouter" "__init__", .meth "BadWishes" "__init__", .glo "GOAL_WAY", .free "zip"] : List He.Fa)
def eb (K : PySem.W.Frag) : Bool := exB K (He.ga K "NoRouter") && (exB K (He.ga K "BadWishes") && (insB K (He.ga K "Wishes") && He.tupB K "GOAL_WAY" [.int 0]))
abbrev R : PySem.W.OpenRow := PySem.W.OpenLaw.row PySem.Challenge.rw_wishreels_k06_spoiled_outcome_trees
abbrev hk : PySem.W.Hook := hookX 4 fa fn eb
def ob (s : PySem.W.SharedT) : AlX := obsX 4 fa fn eb (HandSHeadRun.getT s)
theorem ob_eq (s : PySem.W.SharedT) : ob s = hk.obs s.abs := obsX_eq (HandSHeadRun.getT_eq s)
def loose0 : List Str := ["_wall", "__name__", "WishError", "NoRouter", "BadWishes", "MOST_ROUTERS", "is_integer", "is_between", "is_tuple_of", "is_router", "refuse_no_router", "is_size", "is_way", "replaced", "GOAL_WAY", "choices", "no_items", "cannot_stay", "first_that_cannot_stay", "is_outcome_tree", "is_tree", "is_take", "is_no", "LEAST_ROUTERS", "MOST_WAYS", "Wishes", "refuse_wrong_lists", "is_way_list", "has_let_rest", "_law_pool"]
def loose1 : List Str := ["_law_draw", "_law_order", "_law_planted", "_law_add", "_law_lists", "_law_is_int", "_law_is_taking", "_law_best", "_law_stays", "_law_is_outcome", "_law_blocked", "_law_walk", "_law_exchanged", "_law_tree", "_law_straight", "_law_long_tree", "_law_asked"]
def loose : List Str := loose0 ++ loose1
theorem run (w : World) : HandSHeadRun.RunEq R (PySem.W.view R.prog [52]) hk ob 7000 loose w := by
  intro os
  kernel_rfl
end Wk

set_option Elab.async false
set_option linter.all false
set_option maxRecDepth 100000
set_option maxHeartbeats 4000000
namespace Wk
open PySem PySem.Spec PyProof.Rows L2 Evl
theorem facts {P : Program} {w : World} {K : PySem.W.Frag} {h : Heap} {mg : Str → Option Value} {f : Addr} (X : K.In h) (G : h.Ns mainGlobals mg) (hfa : mg ("law" : Str) = some (.ref f)) (c : He.SaysD fa fn K) (cx : eb K = true) :
    ∃ fd : FuncData, (∀ (t : Shared) (u : Value), BindsTo t fd ⟨[u], []⟩ [("_law_script", u)]) ∧ ∀ base : Heap, K.In base → base.Ns mainGlobals mg → FnOk P w K mg base CX0 26 f fd ["_law_script"] (spLaw K) := by
  obtain ⟨d0, F0⟩ := c.def_ 0 (d := dG "is_integer" 7) rfl
  obtain ⟨d1, F1⟩ := c.def_ 1 (d := dG "is_between" 8) rfl
  obtain ⟨d2, F2⟩ := c.def_ 2 (d := dG "is_tuple_of" 9) rfl
  obtain ⟨d3, F3⟩ := c.def_ 3 (d := dG "is_router" 10) rfl
  obtain ⟨d4, F4⟩ := c.def_ 4 (d := dG "refuse_no_router" 11) rfl
  obtain ⟨d5, F5⟩ := c.def_ 5 (d := dG "is_size" 12) rfl
  obtain ⟨d6, F6⟩ := c.def_ 6 (d := dG "is_way" 13) rfl
  obtain ⟨d7, F7⟩ := c.def_ 7 (d := dG "replaced" 14) rfl
  obtain ⟨d8, F8⟩ := c.def_ 8 (d := dG "choices" 17) rfl
  obtain ⟨d9, F9⟩ := c.def_ 9 (d := dG "no_items" 18) rfl
  obtain ⟨d10, F10⟩ := c.def_ 10 (d := dG "cannot_stay" 19) rfl
  obtain ⟨d11, F11⟩ := c.def_ 11 (d := dG "first_that_cannot_stay" 20) rfl
  obtain ⟨d12, F12⟩ := c.def_ 12 (d := dG "is_outcome_tree" 22) rfl
  obtain ⟨d13, F13⟩ := c.def_ 13 (d := dG "is_tree" 23) rfl
  obtain ⟨d14, F14⟩ := c.def_ 14 (d := dG "is_take" 24) rfl
  obtain ⟨d15, F15⟩ := c.def_ 15 (d := dG "is_no" 25) rfl
  obtain ⟨d16, F16⟩ := c.def_ 16 (d := dG "refuse_wrong_lists" 30) rfl
  obtain ⟨d17, F17⟩ := c.def_ 17 (d := dG "is_way_list" 31) rfl
  obtain ⟨d18, F18⟩ := c.def_ 18 (d := dG "has_let_rest" 32) rfl
  obtain ⟨d19, F19⟩ := c.def_ 19 (d := dG "_law_pool" 34) rfl
  obtain ⟨d20, F20⟩ := c.def_ 20 (d := dG "_law_draw" 35) rfl
  obtain ⟨d21, F21⟩ := c.def_ 21 (d := dG "_law_order" 36) rfl
  obtain ⟨d22, F22⟩ := c.def_ 22 (d := dG "_law_planted" 37) rfl
  obtain ⟨d23, F23⟩ := c.def_ 23 (d := dG "_law_add" 38) rfl
  obtain ⟨d24, F24⟩ := c.def_ 24 (d := dG "_law_lists" 39) rfl
  obtain ⟨d25, F25⟩ := c.def_ 25 (d := dG "_law_is_int" 40) rfl
  obtain ⟨d26, F26⟩ := c.def_ 26 (d := dG "_law_is_taking" 41) rfl
  obtain ⟨d27, F27⟩ := c.def_ 27 (d := dG "_law_best" 42) rfl
  obtain ⟨d28, F28⟩ := c.def_ 28 (d := dG "_law_stays" 43) rfl
  obtain ⟨d29, F29⟩ := c.def_ 29 (d := dG "_law_is_outcome" 44) rfl
  obtain ⟨d30, F30⟩ := c.def_ 30 (d := dG "_law_blocked" 45) rfl
  obtain ⟨d31, F31⟩ := c.def_ 31 (d := dG "_law_walk" 46) rfl
  obtain ⟨d32, F32⟩ := c.def_ 32 (d := dG "_law_exchanged" 47) rfl
  obtain ⟨d33, F33⟩ := c.def_ 33 (d := dG "_law_tree" 48) rfl
  obtain ⟨d34, F34⟩ := c.def_ 34 (d := dG "_law_straight" 49) rfl
  obtain ⟨d35, F35⟩ := c.def_ 35 (d := dG "_law_long_tree" 50) rfl
  obtain ⟨d36, F36⟩ := c.def_ 36 (d := dG "_law_asked" 51) rfl
  obtain ⟨d37, F37⟩ := c.def_ 37 (d := dG "law" 52) rfl
  obtain ⟨d38, F38⟩ := c.def_ 38 (d := dM "Wishes" "__init__" "Wishes.__init__" 29 0) rfl
  obtain ⟨d39, F39⟩ := c.def_ 39 (d := dM "Wishes" "ways" "Wishes.ways" 29 2) rfl
  obtain ⟨d40, F40⟩ := c.def_ 40 (d := dM "NoRouter" "__init__" "NoRouter.__init__" 3 0) rfl
  obtain ⟨d41, F41⟩ := c.def_ 41 (d := dM "BadWishes" "__init__" "BadWishes.__init__" 4 0) rfl
  have e := hfa.symm.trans (He.glo_ok X G (c.fact 37 (f := .glo "law") rfl))
  cases e
  have bL := FunD.bindsA (ps := ["_law_script"]) F37 fun _ _ _ _ _ _ us hl => match us, hl with | [_], _ => rfl
  have B : Bl mg := ⟨He.free_ok X G (c.fact 38 rfl), He.free_ok X G (c.fact 39 rfl), He.free_ok X G (c.fact 40 rfl), He.free_ok X G (c.fact 41 rfl), He.free_ok X G (c.fact 42 rfl), He.free_ok X G (c.fact 43 rfl), He.free_ok X G (c.fact 44 rfl), He.free_ok X G (c.fact 45 rfl), He.free_ok X G (c.fact 46 rfl), He.free_ok X G (c.fact 47 rfl), He.free_ok X G (c.fact 48 rfl), He.free_ok X G (c.fact 49 rfl), He.free_ok X G (c.fact 50 rfl), He.free_ok X G (c.fact 51 rfl)⟩
  obtain ⟨t8, m8⟩ := He.int_ok X G (c.fact 52 (f := .int "MOST_ROUTERS" 8) rfl)
  obtain ⟨t6, m6⟩ := He.int_ok X G (c.fact 53 (f := .int "MOST_WAYS" 6) rfl)
  obtain ⟨t2, m2⟩ := He.int_ok X G (c.fact 54 (f := .int "LEAST_ROUTERS" 2) rfl)
  obtain ⟨x1, cx⟩ := He.ba cx
  obtain ⟨x2, cx⟩ := He.ba cx
  obtain ⟨x3, x4⟩ := He.ba cx
  have TX : WTx K mg (He.ga K "Wishes") := ⟨He.cls_ok (c.fact 56 rfl), He.noat_ok (c.fact 59 rfl), He.noat_ok (c.fact 60 rfl), He.glo_ok X G (c.fact 55 rfl)⟩
  obtain ⟨oN, xN⟩ := exB_ok x1
  obtain ⟨oB, xB⟩ := exB_ok x2
  have IT := insB_ok TX.cl x3
  have nN : PySem.W.findIn K (.ref (He.ga K "NoRouter")) "router" = some none := He.noat_ok (c.fact 65 (f := .noat "NoRouter" "router") rfl)
  have nB : PySem.W.findIn K (.ref (He.ga K "BadWishes")) "router" = some none := He.noat_ok (c.fact 66 (f := .noat "BadWishes" "router") rfl)
  have iN := He.meth_ok (c.fact 67 (f := .meth "NoRouter" "__init__") rfl)
  have iB := He.meth_ok (c.fact 68 (f := .meth "BadWishes" "__init__") rfl)
  have gG := He.glo_ok X G (c.fact 69 (f := .glo "GOAL_WAY") rfl)
  have gT : ∀ H, SqT K H (He.ga K "GOAL_WAY") [.int 0] := He.tupB_ok x4
  refine ⟨d37, fun t u => bL t [u] rfl, fun base _ _ => ?_⟩
  have C0 : Cal P w K mg base "is_integer" ["thing"] 1 spIsInt := calOf F0 (ok_isInt B F0) (He.glo_ok X G (c.fact 0 rfl)) (F0.bindsN fun _ _ _ _ _ _ us hl => match us, hl with | [_], _ => rfl)
  have C1 : Cal P w K mg base "is_between" ["least", "most", "thing"] 2 spBetween := calOf F1 (ok_between B C0 F1) (He.glo_ok X G (c.fact 1 rfl)) (F1.bindsN fun _ _ _ _ _ _ us hl => match us, hl with | [_, _, _], _ => rfl)
  have C2 : Cal P w K mg base "is_router" ["size", "thing"] 3 spRouter := calOf F3 (ok_router C1 F3) (He.glo_ok X G (c.fact 3 rfl)) (F3.bindsN fun _ _ _ _ _ _ us hl => match us, hl with | [_, _], _ => rfl)
  have C3 : Cal P w K mg base "is_way" ["size", "router", "thing"] 5 spWay := calOf F6 (ok_way B m8 C2 F6) (He.glo_ok X G (c.fact 6 rfl)) (F6.bindsN fun _ _ _ _ _ _ us hl => match us, hl with | [_, _, _], _ => rfl)
  have CS : Cal P w K mg base "is_size" ["least", "thing"] 3 spSize := calOf F5 (ok_size m8 C1 F5) (He.glo_ok X G (c.fact 5 rfl)) (F5.bindsN fun _ _ _ _ _ _ us hl => match us, hl with | [_, _], _ => rfl)
  have C5 : Cal P w K mg base "is_way_list" ["size", "router", "thing"] 6 spRow := calOf F17 (ok_row B m6 C3 F17) (He.glo_ok X G (c.fact 17 rfl)) (F17.bindsN fun _ _ _ _ _ _ us hl => match us, hl with | [_, _, _], _ => rfl)
  have C6 : Cal P w K mg base "has_let_rest" ["lists", "way"] 1 spRest := calOf F18 (ok_rest F18) (He.glo_ok X G (c.fact 18 rfl)) (F18.bindsN fun _ _ _ _ _ _ us hl => match us, hl with | [_, _], _ => rfl)
  have EN : Err P w K mg base "NoRouter" (He.ga K "NoRouter") := ⟨He.glo_ok X G (c.fact 62 rfl), oN, xN, nN, He.exm_ok (c.fact 64 rfl), ⟨_, d40, iN.at_, beq_iff_eq.mp iN.fn, ok_xn oN nN F40, F40.bindsN fun _ _ _ _ _ _ us hl => match us, hl with | [_, _], _ => rfl⟩⟩
  have EB : Err P w K mg base "BadWishes" (He.ga K "BadWishes") := ⟨He.glo_ok X G (c.fact 61 rfl), oB, xB, nB, He.exm_ok (c.fact 63 rfl), ⟨_, d41, iB.at_, beq_iff_eq.mp iB.fn, ok_xb oB nB F41, F41.bindsN fun _ _ _ _ _ _ us hl => match us, hl with | [_, _], _ => rfl⟩⟩
  have CR : CalX P w K mg base "refuse_no_router" ["size", "thing"] 4 (spNoRt (He.ga K "NoRouter")) := ⟨⟨_, d4, ok_noRt EN C2 F4, He.glo_ok X G (c.fact 4 rfl), F4.kp, (F4.bindsN fun _ _ _ _ _ _ us hl => match us, hl with | [_, _], _ => rfl)⟩⟩
  have C4 : CalX P w K mg base "refuse_wrong_lists" ["lists"] 7 (spRefuse (He.ga K "BadWishes")) := ⟨⟨_, d16, ok_refuse B m2 CS EB C5 C6 F16, He.glo_ok X G (c.fact 16 rfl), F16.kp, (F16.bindsN fun _ _ _ _ _ _ us hl => match us, hl with | [_], _ => rfl)⟩⟩
  have MW : Mkr P w K mg base (He.ga K "Wishes") (He.ga K "BadWishes") := ⟨TX, ⟨_, d38, He.mkr_ok (c.fact 57 rfl), ok_wi B TX C4 F38, F38.bindsN fun _ _ _ _ _ _ us hl => match us, hl with | [_, _], _ => rfl⟩⟩
  have WC1 : WC P w K mg base (He.ga K "Wishes") (He.ga K "NoRouter") := ⟨TX, IT, ⟨_, d39, He.meth_ok (c.fact 58 rfl), ok_ways TX CR F39, F39.bindsN fun _ _ _ _ _ _ us hl => match us, hl with | [_, _], _ => rfl⟩⟩
  have hzi : mg ("zip" : Str) = none := He.free_ok X G (c.fact 70 (f := .free "zip") rfl)
  have D7 : Cal P w K mg base "_law_pool" ["_law_script"] 1 (spPool K) := calOf F19 (ok_pool B F19) (He.glo_ok X G (c.fact 19 rfl)) (F19.bindsN fun _ _ _ _ _ _ us hl => match us, hl with | [_], _ => rfl)
  have D8 : Cal P w K mg base "_law_draw" ["_law_pool_here", "_law_size"] 1 spDraw := calOf F20 (ok_draw B F20) (He.glo_ok X G (c.fact 20 rfl)) (F20.bindsN fun _ _ _ _ _ _ us hl => match us, hl with | [_, _], _ => rfl)
  have D9 : Cal P w K mg base "_law_order" ["_law_pool_here", "_law_size"] 2 spOrder := calOf F21 (ok_order B D8 F21) (He.glo_ok X G (c.fact 21 rfl)) (F21.bindsN fun _ _ _ _ _ _ us hl => match us, hl with | [_, _], _ => rfl)
  have D10 : Cal P w K mg base "_law_planted" ["_law_pool_here", "_law_size"] 3 spPlanted := calOf F22 (ok_planted B D8 D9 F22) (He.glo_ok X G (c.fact 22 rfl)) (F22.bindsN fun _ _ _ _ _ _ us hl => match us, hl with | [_, _], _ => rfl)
  have D11 : Cal P w K mg base "_law_add" ["_law_pool_here", "_law_lists_here", "_law_limit", "_law_cap"] 2 spAdd := calOf F23 (ok_add B D8 F23) (He.glo_ok X G (c.fact 23 rfl)) (F23.bindsN fun _ _ _ _ _ _ us hl => match us, hl with | [_, _, _, _], _ => rfl)
  have D12 : Cal P w K mg base "_law_lists" ["_law_pool_here", "_law_most", "_law_limit", "_law_cap"] 5 spLists := calOf F24 (ok_lists B D8 D10 D11 F24) (He.glo_ok X G (c.fact 24 rfl)) (F24.bindsN fun _ _ _ _ _ _ us hl => match us, hl with | [_, _, _, _], _ => rfl)
  have CRp : Cal P w K mg base "replaced" ["row", "place", "item"] 1 spRepl := calOf F7 (ok_repl F7) (He.glo_ok X G (c.fact 7 rfl)) (F7.bindsN fun _ _ _ _ _ _ us hl => match us, hl with | [_, _, _], _ => rfl)
  have P1 : Cal P w K mg base "is_tuple_of" ["many", "thing"] 1 (spTupOf (He.ga K "Wishes")) := calOf F2 (ok_tupOf B IT F2) (He.glo_ok X G (c.fact 2 rfl)) (F2.bindsN fun _ _ _ _ _ _ us hl => match us, hl with | [_, _], _ => rfl)
  have P3 : Cal P w K mg base "choices" ["wishes", "router"] 6 (spChoices K (He.ga K "Wishes")) := calOf F8 (ok_choices B WC1 gG gT F8) (He.glo_ok X G (c.fact 8 rfl)) (F8.bindsN fun _ _ _ _ _ _ us hl => match us, hl with | [_, _], _ => rfl)
  have P6 : Cal P w K mg base "cannot_stay" ["wishes", "items", "router"] 6 (spStay K (He.ga K "Wishes")) := calOf F10 (ok_stay B WC1 F10) (He.glo_ok X G (c.fact 10 rfl)) (F10.bindsN fun _ _ _ _ _ _ us hl => match us, hl with | [_, _, _], _ => rfl)
  have P7 : Cal P w K mg base "first_that_cannot_stay" ["wishes", "items"] 7 (spFirst K (He.ga K "Wishes")) := calOf F11 (ok_first B WC1 P6 F11) (He.glo_ok X G (c.fact 11 rfl)) (F11.bindsN fun _ _ _ _ _ _ us hl => match us, hl with | [_, _], _ => rfl)
  have PA : Cal P w K mg base "no_items" ["wishes"] 1 (spNoI K (He.ga K "Wishes")) := calOf F9 (ok_noI TX gG gT F9) (He.glo_ok X G (c.fact 9 rfl)) (F9.bindsN fun _ _ _ _ _ _ us hl => match us, hl with | [_], _ => rfl)
  have PN : Cal P w K mg base "is_no" ["wishes", "items", "thing"] 7 (spNoG K (He.ga K "Wishes")) := calOf F15 (ok_noG B TX C2 P6 F15) (He.glo_ok X G (c.fact 15 rfl)) (F15.bindsN fun _ _ _ _ _ _ us hl => match us, hl with | [_, _, _], _ => rfl)
  have PI : Cal P w K mg base "is_tree" ["wishes", "items", "thing"] 23 (spTreeG K (He.ga K "Wishes") 7) := calOf F13 (treeG_all B hzi TX C2 P3 P1 CRp PN P7 F13 (He.glo_ok X G (c.fact 13 rfl)) F14 (He.glo_ok X G (c.fact 14 rfl)) 7) (He.glo_ok X G (c.fact 13 rfl)) (F13.bindsN fun _ _ _ _ _ _ us hl => match us, hl with | [_, _, _], _ => rfl)
  have PQ : Cal P w K mg base "is_outcome_tree" ["wishes", "thing"] 24 (spIOT K (He.ga K "Wishes")) := calOf F12 (ok_iot PA PI F12) (He.glo_ok X G (c.fact 12 rfl)) (F12.bindsN fun _ _ _ _ _ _ us hl => match us, hl with | [_, _], _ => rfl)
  have L1 : Cal P w K mg base "_law_is_int" ["_law_thing"] 1 spIsInt := calOf F25 (ok_lIsInt B F25) (He.glo_ok X G (c.fact 25 rfl)) (F25.bindsN fun _ _ _ _ _ _ us hl => match us, hl with | [_], _ => rfl)
  have L2x : Cal P w K mg base "_law_is_taking" ["_law_lists_here", "_law_thing"] 2 (spLTaking1 K) := calOf F26 (ok_lTaking1 B L1 F26) (He.glo_ok X G (c.fact 26 rfl)) (F26.bindsN fun _ _ _ _ _ _ us hl => match us, hl with | [_, _], _ => rfl)
  have L3 : Cal P w K mg base "_law_best" ["_law_lists_here", "_law_taking", "_law_router"] 1 (spBest K) := calOf F27 (ok_best F27) (He.glo_ok X G (c.fact 27 rfl)) (F27.bindsN fun _ _ _ _ _ _ us hl => match us, hl with | [_, _, _], _ => rfl)
  have L4 : Cal P w K mg base "_law_stays" ["_law_lists_here", "_law_taking"] 2 (spLStays K) := calOf F28 (ok_lStays B L3 F28) (He.glo_ok X G (c.fact 28 rfl)) (F28.bindsN fun _ _ _ _ _ _ us hl => match us, hl with | [_, _], _ => rfl)
  have L5 : Cal P w K mg base "_law_is_outcome" ["_law_lists_here", "_law_thing"] 3 (spLOut1 K) := calOf F29 (ok_lOut1 L2x L4 F29) (He.glo_ok X G (c.fact 29 rfl)) (F29.bindsN fun _ _ _ _ _ _ us hl => match us, hl with | [_, _], _ => rfl)
  have LB : Cal P w K mg base "_law_blocked" ["_law_lists_here", "_law_items", "_law_router"] 1 (spBlk K) := calOf F30 (ok_blk B F30) (He.glo_ok X G (c.fact 30 rfl)) (F30.bindsN fun _ _ _ _ _ _ us hl => match us, hl with | [_, _, _], _ => rfl)
  have W1 : Cal P w K mg base "_law_walk" ["_law_lists_here", "_law_items", "_law_tree_here", "_law_found"] 11 (spWalk K 7) := calOf F31 (walk_all B L1 L5 LB F31 (He.glo_ok X G (c.fact 31 rfl)) 7) (He.glo_ok X G (c.fact 31 rfl)) (F31.bindsN fun _ _ _ _ _ _ us hl => match us, hl with | [_, _, _, _], _ => rfl)
  have LE : Cal P w K mg base "_law_exchanged" ["_law_pool_here", "_law_tree_here", "_law_size"] 2 spExch := calOf F32 (ok_exch B D8 F32) (He.glo_ok X G (c.fact 32 rfl)) (F32.bindsN fun _ _ _ _ _ _ us hl => match us, hl with | [_, _, _], _ => rfl)
  have T1 : Cal P w K mg base "_law_tree" ["_law_pool_here", "_law_lists_here", "_law_items", "_law_left"] 10 (spTree K 7) := calOf F33 (tree_all B D8 LB LE F33 (He.glo_ok X G (c.fact 33 rfl)) 7) (He.glo_ok X G (c.fact 33 rfl)) (F33.bindsN fun _ _ _ _ _ _ us hl => match us, hl with | [_, _, _, _], _ => rfl)
  have LS : Cal P w K mg base "_law_straight" ["_law_pool_here"] 2 spStraight := calOf F34 (ok_straight B D8 F34) (He.glo_ok X G (c.fact 34 rfl)) (F34.bindsN fun _ _ _ _ _ _ us hl => match us, hl with | [_], _ => rfl)
  have LL : Cal P w K mg base "_law_long_tree" ["_law_pool_here", "_law_lists_here"] 3 spLong := calOf F35 (ok_long B D8 D9 F35) (He.glo_ok X G (c.fact 35 rfl)) (F35.bindsN fun _ _ _ _ _ _ us hl => match us, hl with | [_, _], _ => rfl)
  have LK : Cal P w K mg base "_law_asked" ["_law_lists_here", "_law_tree_here"] 25 spAsked := calOf F36 (ok_asked B MW W1 PQ F36) (He.glo_ok X G (c.fact 36 rfl)) (F36.bindsN fun _ _ _ _ _ _ us hl => match us, hl with | [_, _], _ => rfl)
  exact ok_law B ⟨D7, D8, D12, LS, LL, T1, LK⟩ F37
end Wk
open PySem PySem.W PySem.Calls PyProof.Rows
set_option maxHeartbeats 0
theorem PySem.Challenge.cw_wishreels_k06_spoiled_outcome_trees_holds : PySem.Challenge.rw_wishreels_k06_spoiled_outcome_trees.Holds := by
  w_on; o_law
  refine HandSHeadRun.head_any (r := Wk.R) (q := view Wk.R.prog [52]) (H := Wk.hk) (ob := Wk.ob) (M := 7000) (loose := Wk.loose) (d := HandSHeadRun.topDef Wk.R.prog 52) (kwd := []) Wk.ob_eq
    (by kernel_rfl) (fun s => by kernel_rfl) Wk.run (by kernel_rfl) (by kernel_rfl) (by kernel_rfl) (by rfl) (by first | assumption | decide +kernel) (by decide +kernel) ⟨rfl, rfl, rfl, rfl, rfl, by decide +kernel⟩ ?hw ?hc
  case hw => w_witness2
  case hc =>
    refine L2.walk_ofE (l := PySem.Challenge.rw_wishreels_k06_spoiled_outcome_trees) (n := 63) (k := 26) (x := "_law_script") (CX := L2.CX0) rfl (by decide) (by kernel_rfl) ⟨rfl, by decide, by decide⟩ ?F (fun _ _ _ _ z => z)
    intro w mg fa h Y G hmg0
    obtain ⟨K, kx, c, cx⟩ := Y
    have hmg : mg ("law" : PySem.Str) = some (.ref fa) := by
      have e : (HandSHeadRun.topDef Wk.R.prog 52).name = ("law" : PySem.Str) := by kernel_rfl
      rw [← e]
      exact hmg0
    obtain ⟨fd, hb, hF⟩ := Wk.facts (P := (PySem.Challenge.rw_wishreels_k06_spoiled_outcome_trees).prog) (w := w) kx G hmg c cx
    exact ⟨K, fd, Wk.spLaw K, kx, hb, fun H a ns hl _ hS => ⟨a, ns, rfl, hS, hl, fun _ => rfl⟩, hF⟩

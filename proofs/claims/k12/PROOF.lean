import PyProof.Rows.All
import Wide.All
import OpenK.AllK
import Wide.FinOn
import KE.KStateDown
import HandS.ForMost
import HandS.More
import HandS.WordsExc
import HandS.Defaults
import HandS.Deep
import HandS.IsInst
import HandS.Evl
import HandS.Walk
import HandS.TupSets
import HandS.TupAny
import HandS.Conv
import PyProof.P3In
import HandS.SetFor
import HandS.Strs
import KE.GoesMore
import KE.GoesEnum
import HandS.ExcInit
import HandS.ExcField
import HandS.ExcOwn
import PyProof.NeKinds
import PyProof.EqKinds
import PyProof.FactsAll.subtypes_4
import PyProof.FactsAll.dict_1
import HandS.Head0
import HandS.Head1
import HandS.Head2
import HandS.HeadEnd
import HandS.HeadHook1
import HandS.HeadHook2
import HandS.DictComp
import HandS.Comp
import HandS.Style
import KE.SortData
import HandS.NamedTupSort
import HandS.SortRule
import HandS.ExcValue
import KE.KSortTup
import HandS.TupMul
import PyProof.SeqIndex
import KE.GoesZip
import KE.KExcIs
import HandS.TryOnly
import HandS.Steps
import KE.KWithOwn
import HandS.ExcBuiltin
import HandS.TupLe
import PySem.Challenge.RW_wishreels_k12_whole_talk_by_drawn_orders
set_option Elab.async false
set_option linter.all false
set_option maxRecDepth 100000
set_option maxHeartbeats 2000000
namespace Wk
open PySem PySem.Spec PyProof.Rows L2 Evl
/-! data that stand in a heap -/
mutual
inductive Dq (G : Hp) : V → PyData → Prop
  | non : Dq G .non .none
  | bl (b : Bool) : Dq G (.bl b) (.bool b)
  | int (i : Int) : Dq G (.int i) (.int i)
  | str (x : Str) : Dq G (.str x) (.str x)
  | lst {a : Addr} {xs : List V} {ds : List PyData} : G a = some (.lst xs) → DqA G xs ds → Dq G (.ref a) (.list ds)
  | tup {a : Addr} {xs : List V} {ds : List PyData} : G a = some (.tup xs) → DqA G xs ds → Dq G (.ref a) (.tuple ds)
  | dic {a : Addr} : G a = some (.dK []) → Dq G (.ref a) (.dict [])
inductive DqA (G : Hp) : List V → List PyData → Prop
  | nil : DqA G [] []
  | cons {v : V} {vs : List V} {d : PyData} {ds : List PyData} : Dq G v d → DqA G vs ds → DqA G (v :: vs) (d :: ds)
end
mutual
theorem Dq.mono {G H : Hp} (e : Ex G H) : ∀ {d : PyData} {v : V}, Dq G v d → Dq H v d
  | .none, _, .non => .non
  | .bool _, _, .bl b => .bl b
  | .int _, _, .int i => .int i
  | .str _, _, .str x => .str x
  | .list _, _, .lst h a => .lst (e _ _ h) (DqA.mono e a)
  | .tuple _, _, .tup h a => .tup (e _ _ h) (DqA.mono e a)
  | .dict _, _, .dic h => .dic (e _ _ h)
theorem DqA.mono {G H : Hp} (e : Ex G H) : ∀ {ds : List PyData} {vs : List V}, DqA G vs ds → DqA H vs ds
  | [], _, .nil => .nil
  | _ :: _, _, .cons h t => .cons (Dq.mono e h) (DqA.mono e t)
end
mutual
theorem Dq.dp {K : PySem.W.Frag} {G : Hp} : ∀ {d : PyData} {v : V}, d.canLay0 = true → Dq G v d → Dp K G v d
  | .none, _, _, .non => .non
  | .bool _, _, _, .bl b => .bl b
  | .int _, _, _, .int i => .int i
  | .str _, _, _, .str x => .str x
  | .list ds, _, c, .lst h a => .lst (sq_of h) (DqA.dp (by simpa [PyData.canLay0] using c) a)
  | .tuple ds, _, c, .tup h a => .tup (st_of h) (DqA.dp (by simpa [PyData.canLay0] using c) a)
  | .dict _, _, c, .dic h => by simp [PyData.canLay0] at c
theorem DqA.dp {K : PySem.W.Frag} {G : Hp} : ∀ {ds : List PyData} {vs : List V}, PyData.canLayAll0 ds = true → DqA G vs ds → DpAll K G vs ds
  | [], _, _, .nil => .nil
  | d :: ds, _, c, .cons h t => by
    have c' : d.canLay0 = true ∧ PyData.canLayAll0 ds = true := by simpa [PyData.canLayAll0] using c
    exact .cons (Dq.dp c'.1 h) (DqA.dp c'.2 t)
end
theorem DqA.length {G : Hp} : ∀ {ds : List PyData} {vs : List V}, DqA G vs ds → vs.length = ds.length
  | [], _, .nil => rfl
  | _ :: _, _, .cons _ t => congrArg Nat.succ t.length
theorem DqA.get {G : Hp} : ∀ {ds : List PyData} {vs : List V} {i : Nat} {v : V}, DqA G vs ds → vs[i]? = some v → ∃ d, ds[i]? = some d ∧ Dq G v d
  | [], _, i, v, .nil, e => by simp at e
  | d :: _, _, 0, v, .cons h t, e => ⟨d, rfl, by simp at e; subst e; exact h⟩
  | _ :: _, _, i + 1, v, .cons h t, e => by
    obtain ⟨d, e1, e2⟩ := t.get (i := i) (by simpa using e)
    exact ⟨d, by simpa using e1, e2⟩
theorem DqA.at {G : Hp} {ds : List PyData} {vs : List V} {i : Nat} {d : PyData} (h : DqA G vs ds) (e : ds[i]? = some d) : ∃ v, vs[i]? = some v ∧ Dq G v d := by
  have hl := h.length
  obtain ⟨hi, _⟩ := List.getElem?_eq_some_iff.mp e
  have hv : vs[i]? = some (vs[i]'(by omega)) := List.getElem?_eq_getElem (by omega)
  obtain ⟨d', e1, e2⟩ := h.get hv
  rw [e] at e1
  cases e1
  exact ⟨_, hv, e2⟩
theorem DqA.append {G : Hp} : ∀ {ds es : List PyData} {vs us : List V}, DqA G vs ds → DqA G us es → DqA G (vs ++ us) (ds ++ es)
  | [], _, _, _, .nil, h => h
  | _ :: _, _, _, _, .cons h t, u => .cons h (t.append u)
theorem DqA.take {G : Hp} : ∀ {ds : List PyData} {vs : List V} (n : Nat), DqA G vs ds → DqA G (vs.take n) (ds.take n)
  | [], _, n, .nil => by simp; exact .nil
  | _ :: _, _, 0, .cons h t => .nil
  | _ :: _, _, n + 1, .cons h t => .cons h (t.take n)
theorem DqA.drop {G : Hp} : ∀ {ds : List PyData} {vs : List V} (n : Nat), DqA G vs ds → DqA G (vs.drop n) (ds.drop n)
  | [], _, n, .nil => by simp; exact .nil
  | _ :: _, _, 0, .cons h t => .cons h t
  | _ :: _, _, n + 1, .cons h t => t.drop n
theorem DqA.ints {G : Hp} : ∀ (ns : List Int), DqA G (ns.map V.int) (ns.map PyData.int)
  | [] => .nil
  | n :: ns => .cons (.int n) (DqA.ints ns)
theorem DqA.int_inv {G : Hp} : ∀ {ns : List Int} {vs : List V}, DqA G vs (ns.map PyData.int) → vs = ns.map V.int
  | [], _, .nil => rfl
  | _ :: _, _, .cons (.int n) t => by
    have := DqA.int_inv t
    subst this
    rfl
/-- the name of a datum's type -/
def tyN : PyData → String
  | .none => "NoneType"
  | .bool _ => "bool"
  | .int _ => "int"
  | .str _ => "str"
  | .list _ => "list"
  | .tuple _ => "tuple"
  | .dict _ => "dict"
theorem Dq.ty {K : PySem.W.Frag} {G : Hp} {d : PyData} {v : V} (h : Dq G v d) : TyX K G v (.type (tyN d)) := by
  cases h with
  | non => exact .base .non
  | bl b => exact .base (.bl b)
  | int i => exact .base (.int i)
  | str x => exact .base (.str x)
  | lst h _ => exact .base (.lst h)
  | tup h _ => exact .base (.tup h)
  | dic h => exact .base (.dK h)
/-- a call's callee: the def that a global name holds -/
structure Cal (P : Program) (w : World) (K : PySem.W.Frag) (mg : Str → Option Value) (base : Heap) (x : Str) (ps : List Str) (k : Nat) (sp : Sp) : Prop where
  ex : ∃ (f : Addr) (fd : FuncData), FnOk P w K mg base CX0 k f fd ps sp ∧ mg x = some (.ref f) ∧ PySem.W.keepIn K (.ref f) = true ∧ Binds K fd ps []
section
variable {X : Cx}
theorem pe_cal {x : Str} {p pos : Pos} {e : Expr} {es : List Expr} {ps : List Str} {k j : Nat} {sp : Sp} {t : TA} (C : Cal X.prog X.w X.K X.mg X.base x ps k sp) (hr : Room j X.A) (hg : Gl X x) (ha : PA X (e :: es) t) (hk : k ≤ j := by decide)
    (hdb : (x == ("__debug__" : Str)) = false := by decide) (he : starEach (e :: es) X.env = (false, eval e X.env) :: starEach es X.env := by rfl) (hpl : (backTo pos (starEach es X.env)).any (·.1) = false := by rfl) :
    PE X (.Call (.Name x p) (e :: es) [] pos) (tCall sp [] E0 t) := by
  obtain ⟨f, fd, F, g, kp, b⟩ := C.ex
  exact pe_call F (hr.mono hk) hg g kp b .nil pass0 ha hdb he hpl
end
section
variable {K : PySem.W.Frag} {σ : L2.St} {H : Hp} {ta tb tc te : TE}
/-- isinstance(x, T), T a built-in type -/
theorem ev_isi {v : V} {d : PyData} {n : String} {b : Bool} (h : Ev ta σ H v) (hd : Dq H v d) (hk : kitB (tyN d) n = some b) : Ev (tCB (rIsi K) (tCons ta (tCons (tC (.ty n)) tNil))) σ H (.bl b) := fun H1 e Q q =>
  h H1 e _ fun H2 e2 => ⟨v, .ty n, .type (tyN d), .type n, b, rfl, .ty n, (hd.mono (e.trans e2)).ty, kit_ty hk, q H2 e2⟩
/-- a <= b <= c of ints -/
theorem ev_chain {i j k : Int} {r r' : R2} {b1 b2 : Bool} (ha : Ev ta σ H (.int i)) (hb : Ev tb σ H (.int j)) (hc : Ev tc σ H (.int k)) (h1 : RV r (.int i) (.int j) H (.bl b1)) (h2 : RV r' (.int j) (.int k) H (.bl b2)) :
    Ev (tChain r r' ta tb tc) σ H (.bl (b1 && b2)) := fun H1 e Q q =>
  ha H1 e _ fun H2 e2 => hb H2 (e.trans e2) _ fun H3 e3 => h1 H3 ((e.trans e2).trans e3) _ fun H4 e4 => ⟨b1, rfl, by
    cases b1 with
    | false => exact q H4 ((e2.trans e3).trans e4)
    | true => exact hc H4 (((e.trans e2).trans e3).trans e4) _ fun H5 e5 => h2 H5 ((((e.trans e2).trans e3).trans e4).trans e5) _ fun H6 e6 => q H6 ((((e2.trans e3).trans e4).trans e5).trans e6)⟩
end
end Wk

set_option Elab.async false
set_option linter.all false
set_option maxRecDepth 100000
set_option maxHeartbeats 4000000
namespace Wk
open PySem PySem.Spec PyProof.Rows L2 Evl
/-! how many are unlike -/
theorem nd_le {α : Type} [DecidableEq α] : ∀ (l D : List α), l.Nodup → (∀ x ∈ l, x ∈ D) → l.length ≤ D.length
  | [], _, _, _ => Nat.zero_le _
  | x :: l, D, hn, hs => by
    have hn' := List.nodup_cons.mp hn
    have hx : x ∈ D := hs x List.mem_cons_self
    have ih := nd_le l (D.erase x) hn'.2 fun y hy => (List.mem_erase_of_ne (fun (e : y = x) => hn'.1 (by rw [← e]; exact hy))).2 (hs y (List.mem_cons_of_mem _ hy))
    have e := List.length_erase_of_mem hx
    have hp : 0 < D.length := List.length_pos_of_mem hx
    simp only [List.length_cons]
    omega
theorem dup_less {α : Type} [DecidableEq α] : ∀ (D : List α), ¬ D.Nodup → ∃ D' : List α, (∀ x ∈ D, x ∈ D') ∧ D'.length < D.length
  | [], h => absurd List.nodup_nil h
  | x :: D, h => by
    by_cases hx : x ∈ D
    · exact ⟨D, fun y hy => (List.mem_cons.mp hy).elim (fun e => by rw [e]; exact hx) id, Nat.lt_succ_self _⟩
    · have hD : ¬ D.Nodup := fun z => h (List.nodup_cons.mpr ⟨hx, z⟩)
      obtain ⟨D', h1, h2⟩ := dup_less D hD
      exact ⟨x :: D', fun y hy => (List.mem_cons.mp hy).elim (fun e => by rw [e]; exact List.mem_cons_self) (fun e => List.mem_cons_of_mem _ (h1 y e)), Nat.succ_lt_succ h2⟩
theorem nd_iff {α : Type} [DecidableEq α] {l D : List α} (hn : l.Nodup) (h : ∀ x, x ∈ l ↔ x ∈ D) : l.length = D.length ↔ D.Nodup := by
  constructor
  · intro e
    apply Classical.byContradiction
    intro hD
    obtain ⟨D', h1, h2⟩ := dup_less D hD
    have := nd_le l D' hn fun x hx => h1 x ((h x).mp hx)
    omega
  · intro hD
    have h1 := nd_le l D hn fun x hx => (h x).mp hx
    have h2 := nd_le D l hD fun x hx => (h x).mpr hx
    omega
section
variable {X : Cx}
/-- len(set(t)), t a tuple of ints -/
def tLenSU (K : PySem.W.Frag) (ta : TE) : TE := fun σ H Q => ta σ H fun x H1 => ∃ (l : Addr) (ns : List Int), x = V.ref l ∧ SqT K H1 l (ns.map V.int) ∧ ns.length < 64 ∧ ∀ n : Nat, (n = ns.length ↔ ns.Nodup) → Q (.int n) H1
theorem pe_lenSU {a : Expr} {ta : TE} {p p2 q pos : Pos} (hc : X.calm = true) (hg : Gl X "len") (hm : X.mg "len" = none) (hg2 : Gl X "set") (hm2 : X.mg "set" = none) (ha : PE X a ta)
    (na : starEach [a] X.env = (false, eval a X.env) :: starEach [] X.env := by rfl) : PE X (.Call (.Name "len" p) [.Call (.Name "set" p2) [a] [] q] [] pos) (tLenSU X.K ta) := by
  refine ⟨fun pins s σ H Q I h => ?_⟩
  refine Call_ (ld_blt I hg hm PySem.boot_len ?_)
  refine PyProof.Rows.callWith_builtin1 (PyProof.Rows.args_cons ?_ rfl) rfl rfl
  refine Call_ (ld_blt I hg2 hm2 PyProof.Rows.boot_set ?_)
  refine PyProof.Rows.callWith_type1 (PyProof.Rows.args_cons (thn (ha.run pins s σ H _ I h) fun v s1 hh => PyProof.Rows.args_nil ?_) na) na rfl
  obtain ⟨x, H1, I1, r1, l, ns, rfl, hq, hlt, q1⟩ := hh
  cases r1
  obtain ⟨its, r, pl, hz⟩ := I1.tuple hq
  refine call_set_tupI (w := X.w) ns (I1.ok.hd hc) pl (by simpa using r.ints) (by unfold scanBound; omega) fun h' tk c hS hc2 hk => ?_
  refine PyProof.Rows.args_nil ?_
  obtain ⟨o, es, ep, t, ho, hex, hd, _, hnd, hiff, _, hf, hn, _⟩ := hS
  have I2 : Inv X pins σ H1 { s1 with heap := h', toks := tk } := I1.kept fun b o e => hk b o e
  refine call_len_set ho hex hd hf (by rw [hn] <;> omega) ⟨.int es.size, H1, I2.tok _, ⟨_, rfl⟩, q1 es.size ?_⟩
  have hl : (es.toList.map keyOf).length = es.size := by simp
  rw [← hl]
  exact nd_iff hnd fun k => by
    have := hiff k
    simp only [decide_eq_true_eq] at this
    exact this.symm
end
/-- the set that set() lays -/
abbrev sO (w : World) : Obj := { cls := .type "set", dict := none, data := .set #[] 0 (.fresh 0 0 (!w.params.followText "set-order")) }
section
variable {P : Program} {w : World} {A : Around} {E : Value → Shared → Prop} {s : Shared}
/-- set(t), t a tuple of tuples of ints -/
theorem set_of_tup2 {l : Addr} {its : Array Value} (ks : List (Addr × List Int)) {Q : Value → Shared → Prop} (nh : A.handled = none) (tl : s.heap.IsTuple l its) (eq : its.toList = ks.map fun p => Value.ref p.1)
    (ki : ∀ p ∈ ks, IsT P w s.heap p.2 p.1) (few : ks.length < 64) (un : A.units + 3 < cLine)
    (fin : ∀ (h' : Heap) (tk : Nat) L es ep t, SetTR P w h' s.heap.objs.size L es ep t → Got ks ks.length L → (∀ b o, s.heap.get? b = some o → h'.get? b = some o) → Q (.ref s.heap.objs.size) { s with heap := h', toks := tk }) :
    wpAny (model P w) A (call (.type "set") [.ref l]) Q E s := by
  have size : its.size = ks.length := by have q := congrArg List.length eq; simpa using q
  obtain ⟨c, rest, mro⟩ := F.called_set.mro
  have made := F.called_set.made; have sub := F.called_set.sub
  refine wpAny_call (codeAny_of_tree (show wpAny _ _ (callAny (.type "set") _) _ _ _ from ?_))
  refine wpAny_pure ⟨Code.quiet_builtin _ (by decide +kernel), codeAny_builtin F.entry_type_call (by
    rw [Around.under_plain (weight_type_call_type "set" [.ref l] []) rfl]
    have nt := F.called_set.notType; have cc := F.called_set.canCreate; have tc := F.typeCall_set_1 (.ref l)
    repeat (any_goals (first | assumption | wp_step))
    refine codeAny_mono (code_set_led1 (.ref l) (E := E) (Q₁ := fun ob s1 => ob = .ref s.heap.objs.size ∧ s1 = { s with heap := s.heap.push (sO w) }) ⟨rfl, rfl⟩) fun r s1 hr => ?_
    cases r with
    | error e => exact hr
    | ok fl =>
      cases fl with
      | ret ob =>
        obtain ⟨rfl, rfl⟩ := hr
        have hS : (s.heap.push (sO w)).get? s.heap.objs.size = some (sO w) := Heap.get?_push_size _ rfl
        have hT : Shared.TypeIs { s with heap := s.heap.push (sO w) } (.ref s.heap.objs.size) "set" := ⟨_, hS, rfl⟩
        have li := F.called_set.init.lookup; have bi := F.called_set.init.bind (.ref s.heap.objs.size)
        repeat (any_goals (first | assumption | wp_step))
        refine codeAny_mono (codeAny_call_builtin (R := wants (fun r s2 => r = .none ∧ ∃ h' tk L es ep t, s2 = { s with heap := h', toks := tk } ∧ SetTR P w h' s.heap.objs.size L es ep t ∧ Got ks ks.length L ∧ (∀ b o, s.heap.get? b = some o → h'.get? b = some o)) E)
          F.called_set.init.plain F.entry_set_init (check_set_init_1 hT ?_)) fun r2 s2 hr2 => ?_
        · obtain ⟨⟨oc, od, dt, sl⟩, ol, cl, n, dl⟩ := tl
          simp only at cl dl; subst cl; subst dl
          have ol1 : (s.heap.push (sO w)).get? l = some { cls := .type "tuple", dict := od, data := .seq its n, slots := sl } := Heap.get?_push_of_some _ ol
          have b1 := F.sub_tuple_set; have b2 := F.sub_tuple_frozenset
          have b3 : (Value.type "tuple" == Value.type "dict") = false := by decide
          have tl1 : (s.heap.push (sO w)).IsTuple l its := ⟨_, ol1, rfl, n, rfl⟩
          unfold Builtin.«set.__init__» noKeywords Builtin.Frozenset.updateFrom
          generalize hPI : pyIter = PI
          wp_walk
          subst hPI
          refine wpAny_pyIter_tuple tl1 (wpAny_bind (wpAny_runValue ?_))
          have lt : l < s.heap.objs.size := Heap.lt_size ol
          have nh3 : A.in1.in1.in1.handled = none := by simp [nh]
          have ne1 : l ≠ (s.heap.push (sO w)).objs.size := by rw [Heap.size_push]; exact Nat.ne_of_lt (Nat.lt_succ_of_lt lt)
          have nin : s.heap.objs.size ∉ [(s.heap.push (sO w)).objs.size, l] := by
            rw [Heap.size_push]
            intro z
            rcases List.mem_cons.mp z with z | z
            · exact absurd z (Nat.ne_of_lt (Nat.lt_succ_self _))
            · exact absurd (List.mem_singleton.mp z) (Nat.ne_of_gt lt)
          have val : ∀ (i : Nat) (v : Value), its[i]? = some v → ∃ p, ks[i]? = some p ∧ v = .ref p.1 := fun i v hv => by
            have q : its.toList[i]? = some v := (Array.getElem?_toList ..).trans hv
            rw [eq, List.getElem?_map] at q
            cases hq : ks[i]? with
            | none => rw [hq] at q; cases q
            | some p => rw [hq] at q; exact ⟨p, rfl, (Option.some.inj q).symm⟩
          have out : ∀ b, s.heap.objs.size ≤ b → s.heap.get? b = none := fun b hb => by
            cases q : s.heap.get? b with
            | none => rfl
            | some o => exact absurd (Nat.lt_of_lt_of_le (Heap.lt_size q) hb) (Nat.lt_irrefl _)
          refine set_update_tups ((Walks.tuple nh3 _ l ne1 its).toS) s.heap.objs.size nin ks size few val s.heap ki (out _ (Nat.le_refl _)) (fun b hb => out b (by rw [List.mem_singleton.mp hb, Heap.size_push]; exact Nat.le_succ _)) un (its.size - 0) 0 _ (by omega) (Nat.zero_le _)
            ⟨⟨_, Heap.get?_push_size _ rfl, rfl, rfl⟩, (tl1.push _)⟩ (fun b o e => Heap.get?_push_of_some _ (Heap.get?_push_of_some _ e)) ⟨[], #[], 0, _, setTR_fresh (Heap.get?_push_of_some _ hS), Got.zero ks⟩ ?_
          intro s' L es ep t hm hS' g' kp
          obtain ⟨h', g2, d', tk', os'⟩ := s'
          have eg : g2 = s.gens := hm.gens
          have ed : d' = s.drawn := hm.drawn
          have eo : os' = s.os := hm.os
          subst eg; subst ed; subst eo
          show wpAny _ _ _ _ _ _
          refine wpAny_pure (show wpAny _ _ (ret Value.none) _ _ _ from ?_)
          rw [size] at g'
          exact wpAny_pure ⟨rfl, h', tk', L, es, ep, t, rfl, hS', g', kp⟩
        · cases r2 with
          | error e => exact hr2
          | ok fl2 =>
            cases fl2 with
            | ret r =>
              obtain ⟨rfl, h', tk, L, es, ep, t, rfl, hS', g', k'⟩ := hr2
              repeat (any_goals (first | assumption | wp_step))
              exact fin _ _ _ _ _ _ hS' g' k'
            | _ => exact hr2.elim
      | _ => exact hr.elim)⟩
end
section
variable {X : Cx}
/-- len(set(t)), t a tuple of tuples of ints -/
def tLenSUU (K : PySem.W.Frag) (ta : TE) : TE := fun σ H Q => ta σ H fun x H1 => ∃ (l : Addr) (ks : List (Addr × List Int)), x = V.ref l ∧ SqT K H1 l (ks.map fun p => V.ref p.1) ∧ (∀ p ∈ ks, SqT K H1 p.1 (p.2.map V.int)) ∧ ks.length < 64 ∧
  ∀ n : Nat, (n = ks.length ↔ (ks.map (·.2)).Nodup) → Q (.int n) H1
theorem pe_lenSUU {a : Expr} {ta : TE} {p p2 q pos : Pos} (hc : X.calm = true) (hu : X.A.units + 64 < cLine) (hg : Gl X "len") (hm : X.mg "len" = none) (hg2 : Gl X "set") (hm2 : X.mg "set" = none) (ha : PE X a ta)
    (na : starEach [a] X.env = (false, eval a X.env) :: starEach [] X.env := by rfl) : PE X (.Call (.Name "len" p) [.Call (.Name "set" p2) [a] [] q] [] pos) (tLenSUU X.K ta) := by
  refine ⟨fun pins s σ H Q I h => Call_ (ld_blt I hg hm PySem.boot_len (PyProof.Rows.callWith_builtin1 (PyProof.Rows.args_cons (Call_ (ld_blt I hg2 hm2 PyProof.Rows.boot_set ?_)) rfl) rfl rfl))⟩
  refine PyProof.Rows.callWith_type1 (PyProof.Rows.args_cons (thn (ha.run pins s σ H _ I h) fun v s1 hh => PyProof.Rows.args_nil ?_) na) na rfl
  obtain ⟨x, H1, I1, r1, l, ks, rfl, hq, hk, few, q1⟩ := hh
  cases r1
  obtain ⟨its, r, pl, hz⟩ := I1.tuple hq
  refine set_of_tup2 (P := X.prog) (w := X.w) ks (I1.ok.hd hc) pl (by simpa using refs_of_vals r) (fun p hp => I1.isT (hk p hp)) few (by omega) fun h' tk L es ep t R g k => PyProof.Rows.args_nil ?_
  have I2 : Inv X pins σ H1 { s1 with heap := h', toks := tk } := I1.kept fun b o e => k b o e
  have hes : es.size = L.length := R.size (s := { s1 with heap := h', toks := tk })
  have hf := R.fits (s := { s1 with heap := h', toks := tk })
  obtain ⟨o, ho, hex, hd⟩ := R.ob
  refine call_len_set (s := { s1 with heap := h', toks := tk }) ho hex hd hf (by have := R.few; omega) ⟨.int es.size, H1, I2.tok _, ⟨_, rfl⟩, q1 es.size ?_⟩
  have e1 : (L.map (·.2)).length = es.size := by simp [hes]
  have e2 : (ks.map (·.2)).length = ks.length := by simp
  rw [← e1, ← e2]
  refine nd_iff R.nd fun k => ⟨fun z => ?_, fun z => ?_⟩
  · obtain ⟨p, hp, rfl⟩ := List.mem_map.mp z
    exact List.mem_map.mpr ⟨p, List.mem_of_mem_take (g.sub p hp), rfl⟩
  · obtain ⟨p, hp, rfl⟩ := List.mem_map.mp z
    exact g.all p (by rw [List.take_length]; exact hp)
end
end Wk

set_option Elab.async false
set_option linter.all false
set_option maxRecDepth 100000
set_option maxHeartbeats 4000000
namespace Wk
open PySem PySem.Spec PyProof.Rows L2 Evl
/-- the walk of a tuple's iterator under an enumerate -/
abbrev itO (l : Addr) : Obj := { cls := .type "tuple_iterator", data := .fields #[.ref l, .int 0 0] }
abbrev enO (it : Addr) : Obj := { cls := .type "enumerate", data := .fields #[.none, .bool false, .ref it, rawInt 0, .none, .none] }
theorem enumNewT (l : Addr) (its : Array Value) (n : Nat) (od : Option Addr) (sl : Array (Option Value)) :
    Meets (Builtin.«enumerate.__new__» ⟨[.type "enumerate", .ref l], []⟩) (fun _ R s => s.heap.get? l = some { cls := .type "tuple", dict := od, data := .seq its n, slots := sl } ∧
      R (.ok (.ret (.ref (s.heap.push (itO l)).objs.size))) { s with heap := (s.heap.push (itO l)).push (enO s.heap.objs.size) }) :=
  .of_wp fun prog w A R s h => by
    obtain ⟨hp, g, d, tk, os⟩ := s; obtain ⟨hl, h⟩ := h
    have su := sub_enumerate
    have tl : Heap.IsTuple (Shared.heap ⟨hp, g, d, tk, os⟩) l its := ⟨_, hl, rfl, n, rfl⟩
    wp_walk using wpAny_loadPart' hl
    refine wpAny_stack_any fun st => wpAny_pure ?_
    split
    · rename_i c _ _ _ _ _
      cases (c == Value.type "enumerate") <;> (wp_walk using wpAny_loadPart' hl, wpAny_pyIter_tuple tl; exact ⟨_, rfl, h⟩)
    · wp_walk using wpAny_loadPart' hl, wpAny_pyIter_tuple tl
      exact ⟨_, rfl, h⟩
section
variable {prog : Program} {w : World} {A : Around} {E : Value → Shared → Prop} {s : Shared}
theorem enumT_call {l : Addr} {its : Array Value} {Q : Value → Shared → Prop} (tl : s.heap.IsTuple l its)
    (h : ∀ h', IsEnum h' (s.heap.objs.size + 1) s.heap.objs.size 0 .none → h'.IsTupleIter s.heap.objs.size l 0 → h'.objs.size = s.heap.objs.size + 2 → (∀ b o, s.heap.get? b = some o → h'.get? b = some o) → Q (.ref (s.heap.objs.size + 1)) { s with heap := h' }) :
    wpAny (model prog w) A (call (.type "enumerate") [.ref l]) Q E s := by
  obtain ⟨⟨c, od, dt, sl⟩, hl, hc, n, hd⟩ := tl
  replace hc : c = .type "tuple" := hc
  replace hd : dt = .seq its n := hd
  subst hc hd
  refine callType_new F.called_enumerate (by decide) (F.typeCall_enumerate_1 _) (F.newCall_enumerate_1 _) (fun ob => F.args_object_init_2 ob _) F.entry_enumerate_new (enumNewT l its n od sl) ⟨hl, ?_⟩
  have hz : (s.heap.push (itO l)).objs.size = s.heap.objs.size + 1 := Heap.size_push ..
  show _ ∧ _
  rw [hz]
  have he : IsEnum ((s.heap.push (itO l)).push (enO s.heap.objs.size)) (s.heap.objs.size + 1) s.heap.objs.size 0 .none := by
    have q := Heap.get?_push_size (s.heap.push (itO l)) (o := enO s.heap.objs.size) rfl
    rw [hz] at q; exact q
  exact ⟨⟨_, he, rfl⟩, h _ he ⟨_, Heap.get?_push_of_some _ (Heap.get?_push_size _ rfl), rfl, rfl⟩ (by rw [Heap.size_push, hz]) fun b o x => Heap.get?_push_of_some _ (Heap.get?_push_of_some _ x)⟩
end
/-- the tuple at a, each item in a new pair with its place -/
def IteT (K : PySem.W.Frag) (a : Addr) : It :=
  ⟨fun i H => ∃ (xs : List V) (x : V), SqT K H a xs ∧ xs[i]? = some x, fun i H v H' => ∃ T x, v = .ref T ∧ H T = none ∧ H' = upd H T (.tup [.int (i : Nat), x]) ∧ ∀ xs, SqT K H a xs → xs[i]? = some x, fun i H => ∃ xs : List V, SqT K H a xs ∧ xs.length = i⟩
theorem turn_enumT {P : Program} {w : World} {K : PySem.W.Frag} {elts : List Expr} {kk : Nat} {tpos : Pos} (a e it : Addr) :
    Turn P w K (.Tuple elts kk tpos) (IteT K a) [e, it] e (fun i h => (∃ old, IsEnum h e it ((i : Nat) : Int) old) ∧ h.IsTupleIter it a i ∧ e ≠ it) where
  mem := List.mem_cons_self
  obj := fun i h st b hb => by
    obtain ⟨⟨old, he⟩, ⟨o, ho, hc, hd⟩, _⟩ := st
    rcases List.mem_cons.mp hb with z | z
    · rw [z]; exact ⟨_, he, fun v q => nomatch q⟩
    · rw [List.mem_singleton.mp z]; exact ⟨o, ho, fun v q => by rw [hd] at q; cases q⟩
  keep := fun i h h' st k => by
    obtain ⟨⟨old, he⟩, ⟨o, ho, r⟩, hne⟩ := st
    exact ⟨⟨old, k e (by simp) _ he⟩, ⟨o, k it (by simp) o ho, r⟩, hne⟩
  item := by
    intro X hP hw hK hc i pins s σ H E I hf st hg
    subst hP hw hK
    obtain ⟨⟨old, he⟩, hit, hne⟩ := st
    obtain ⟨xs, x, hq, hx⟩ := hg
    obtain ⟨its, rv, p, hz⟩ := I.tuple hq
    obtain ⟨u, hu, ru⟩ := rv.get hx
    have el : e < s.heap.objs.size := Heap.lt_size he
    have il : it < s.heap.objs.size := by obtain ⟨_, q, _⟩ := hit; exact Heap.lt_size q
    have nai : a ≠ it := fun z => by
      obtain ⟨o, ho, oc, _⟩ := p
      obtain ⟨o2, ho2, oc2, _⟩ := hit
      rw [z, ho2] at ho
      cases ho
      rw [oc2] at oc
      injection oc with q
      exact absurd q (by decide)
    have nae : e ≠ a := fun z => by
      obtain ⟨o, ho, oc, _⟩ := p
      have he2 := he
      unfold IsEnum at he2
      rw [z, ho] at he2
      cases he2
      injection oc with q
      exact absurd q (by decide)
    have hi : i < its.toArray.size := by
      have q := (List.getElem?_eq_some_iff.mp hu).1
      simpa using q
    refine wpAny_pyNext_enum_itemD (Draws.tuple (by simpa using I.ok.hd hc) it a nai its.toArray) he ⟨hit, p⟩ hi hne (by simp [hne, nae]) fun y h' tk hy ho hst hT hsz hk => ?_
    have ey : y = u := by
      have q : its.toArray[i]? = some y := hy
      rw [List.getElem?_toArray, hu] at q
      exact (Option.some.inj q).symm
    subst ey
    refine ⟨_, rfl, wpAny_letOwnedTupleGo_enum (s := { s with heap := h', toks := tk + 1 }) ho fun h2 he' sb => ?_⟩
    have hT2 : h2.get? s.heap.objs.size = some { cls := .type "tuple", data := .seq #[.int i tk, y] } := (sb.2 _ (Nat.ne_of_gt el)).trans hT
    have nw : ObjOk X.prog X.w (upd H s.heap.objs.size (.tup [.int (i : Nat), x])) h2 s.heap.objs.size (.tup [.int (i : Nat), x]) := ⟨by show 2 ≤ sizeLine; decide, [.int i tk, y], .cons ⟨_, rfl⟩ (.cons ru .nil), ⟨_, hT2, rfl, _, rfl⟩⟩
    have I1 : Inv X pins σ (upd H s.heap.objs.size (.tup [.int (i : Nat), x])) { s with heap := h2, toks := tk + 1 } := I.turnedNew (ch := [e, it]) (fun b ob hb q => by
        have b1 : b ≠ e := fun z => hb (by simp [z])
        have b2 : b ≠ it := fun z => hb (by simp [z])
        exact (sb.2 b b1).trans (hk b ob b1 b2 q)) hf (Nat.le_refl _) nw
    refine ⟨.ref s.heap.objs.size, _, I1, rfl, ⟨_, x, rfl, I.hok.fresh (Nat.le_refl _), rfl, fun ys hy => by rw [I.tuple_inj hy hq]; exact hx⟩, ⟨⟨y, ?_⟩, ?_, hne⟩, fun b hb => ?_⟩
    · rw [show ((i + 1 : Nat) : Int) = (i : Int) + 1 by omega]; exact he'
    · obtain ⟨o, ho2, r2⟩ := hst.1
      exact ⟨o, (sb.2 it (Ne.symm hne)).trans ho2, r2⟩
    · have hb2 : b < s.heap.objs.size := by
        rcases List.mem_cons.mp hb with z | z
        · rw [z]; exact el
        · rw [List.mem_singleton.mp z]; exact il
      rw [upd_ne (Nat.ne_of_lt hb2)]
      exact (hf b hb).1
  done := by
    intro X hP hw hK hc i pins s σ H E I hf st hg
    subst hP hw hK
    obtain ⟨⟨old, he⟩, hit, hne⟩ := st
    obtain ⟨xs, hq, hx⟩ := hg
    obtain ⟨its, rv, p, hz⟩ := I.tuple hq
    obtain ⟨f0, f1, f2, f3, f4, f5⟩ := hf it (by simp)
    have hl := rv.length
    have ei : i = its.toArray.size := by simp; omega
    have nai : a ≠ it := fun z => by
      obtain ⟨o, ho, oc, _⟩ := p
      obtain ⟨o2, ho2, oc2, _⟩ := hit
      rw [z, ho2] at ho
      cases ho
      rw [oc2] at oc
      injection oc with q
      exact absurd q (by decide)
    subst ei
    exact wpAny_pyNext_enum_endD (Draws.tuple (by simpa using I.ok.hd hc) it a nai its.toArray) he ⟨hit, p⟩ fun h' eb => ⟨rfl, I.turned (t' := s.toks) (fun b o hb q => eb b o hb q) f0 f1 f3 f4 f5⟩
  self := fun A i s Q E st h => let ⟨⟨_, he⟩, _⟩ := st; wpAny_pyIter_enum he h

def iEnumT (K : PySem.W.Frag) (ta : TA) : TI := fun σ H R => ta σ H fun vs H1 => ∃ a xs, vs = [.ref a] ∧ SqT K H1 a xs ∧ R (IteT K a) H1
/-- for i, x in enumerate(t), t a tuple -/
theorem pi_enumT {X : Cx} {e : Expr} {ta : TA} {p pos tpos : Pos} {elts : List Expr} {kk : Nat} (hg : Gl X "enumerate") (hm : X.mg "enumerate" = none) (ha : PA X [e] ta) (hs : starEach [e] X.env = [(false, eval e X.env)] := by rfl) :
    PI X (.Tuple elts kk tpos) (.Call (.Name "enumerate" p) [e] [] pos) (iEnumT X.K ta) := by
  refine ⟨fun pins s σ H R I h => Call_ (ld_blt I hg hm boot_enumerate (PyProof.Rows.callWith_type1 (thn (ha.run pos pins s σ H _ I h) fun us s1 hh => ?_) hs rfl))⟩
  obtain ⟨vs, H1, I1, r1, a, xs, rfl, hq, q⟩ := hh
  cases r1 with
  | cons r rr =>
    cases rr
    cases r
    obtain ⟨its, rv, pt, hz⟩ := I1.tuple hq
    refine enumT_call pt fun h' he hit hsz hk => wpAny_pyIter_enum he ?_
    refine ⟨s1.heap.objs.size + 1, [s1.heap.objs.size + 1, s1.heap.objs.size], _, _, H1, rfl, I1.kept (t' := s1.toks) hk, turn_enumT a (s1.heap.objs.size + 1) s1.heap.objs.size, ⟨⟨.none, he⟩, hit, Nat.succ_ne_self _⟩, fun b hb => ?_, q⟩
    have hle : s1.heap.objs.size ≤ b := by
      rcases List.mem_cons.mp hb with z | z
      · rw [z]; exact Nat.le_add_right _ _
      · rw [List.mem_singleton.mp z]; exact Nat.le_refl _
    exact I1.fpOk hle (I1.hok.fresh hle)
theorem walk_enumT {K : PySem.W.Frag} {a : Addr} {xs : List V} : Walk (IteT K a) xs.length (fun H => SqT K H a xs) (YPair (fun i => some (.int (i : Nat))) (fun i => xs[i]?)) := by
  refine ⟨fun i _ hi q => ⟨xs, xs[i], q, by simp [hi]⟩, fun _ q => ⟨xs, q, rfl⟩, fun i H v H' _ q y => ?_⟩
  obtain ⟨T, x, h1, h2, h3, h4⟩ := y
  exact ⟨T, .int (i : Nat), x, h1, h2, h3, rfl, h4 xs q⟩
section
variable {K : PySem.W.Frag} {σ : L2.St} {H : Hp} {t : TT} {te : TE}
/-- [e for x in t], t a tuple -/
theorem el_lcT {a : Addr} {xs : List V} {tl : TE} {j : Nat} {vs : List Nat} (f : Nat → Bool) (v : Nat → V) (h : Ev tl σ H (.ref a)) (hx : SqT K H a xs) (hz : xs.length ≤ 40000) (hw : ∀ x, wipe ((wipe σ vs).set j (some x)) vs = wipe σ vs)
    (ht : ∀ (i : Nat) (x : V) H1, Ex H H1 → xs[i]? = some x → EvT t ((wipe σ vs).set j (some x)) H1 (f i)) (he : ∀ (i : Nat) (x : V) H1, Ex H H1 → xs[i]? = some x → f i = true → Ev te ((wipe σ vs).set j (some x)) H1 (v i)) :
    EvL (tLc (iTup K tl) (gName j) t te vs) σ H (given xs.length f v) := fun H0 e Q q => h H0 e _ fun H1 e1 => ⟨a, rfl, ⟨xs, ex_t (e.trans e1) hx⟩, fun Dl hD =>
  lc_it (walk_tup (K := K) (a := a) (xs := xs)) (Cw H1 f v Dl) ⟨hD, Ex.new hD, upd_same⟩ (fun i H' _ p => ex_t ((e.trans e1).trans p.2.1) hx)
    (fun i x H' H2 hi p y => by
      obtain ⟨rfl, hxi⟩ := y
      exact ⟨hw x, cw_turn p (by omega) (ht i x H1 (e.trans e1) hxi) (fun hf => he i x H1 (e.trans e1) hxi hf)⟩)
    (fun H' p => q Dl H' (fresh_back e1 p.1) (e1.trans p.2.1) p.2.2)⟩
theorem given_all (n : Nat) (v : Nat → V) : given n (fun _ => true) v = (List.range n).map v := by
  unfold given
  rw [List.filter_eq_self.mpr (fun _ _ => rfl)]
theorem et_yes : EvT tYes σ H true := fun H1 _ _ q => q H1 (Ex.refl H1)
/-- all([..]) of flags -/
theorem ev_allL {bs : List Bool} {ta : TE} (h : EvL ta σ H (bs.map V.bl)) : Ev (tCB (rAll K) (tCons ta tNil)) σ H (.bl (bs.all id)) := fun H1 e Q q =>
  h H1 e _ fun p H2 _ e2 hp => ⟨p, bs, rfl, sq_of hp, q H2 e2⟩
/-- all([test(x) for x in t]) -/
theorem ev_allT {a : Addr} {xs : List V} {tl : TE} {j : Nat} {vs : List Nat} (g : Nat → Bool) (h : Ev tl σ H (.ref a)) (hx : SqT K H a xs) (hz : xs.length ≤ 40000) (hw : ∀ x, wipe ((wipe σ vs).set j (some x)) vs = wipe σ vs)
    (he : ∀ (i : Nat) (x : V) H1, Ex H H1 → xs[i]? = some x → Ev te ((wipe σ vs).set j (some x)) H1 (.bl (g i))) :
    Ev (tCB (rAll K) (tCons (tLc (iTup K tl) (gName j) tYes te vs) tNil)) σ H (.bl (((List.range xs.length).map g).all id)) :=
  ev_allL (by
    have q := el_lcT (K := K) (te := te) (fun _ => true) (fun i => .bl (g i)) h hx hz hw (fun _ _ _ _ _ => et_yes) fun i x H1 e hxi _ => he i x H1 e hxi
    rw [given_all] at q
    rw [List.map_map]
    exact q)
end
section
variable {K : PySem.W.Frag} {σ : L2.St} {H : Hp} {ta tb te : TE}
theorem ev_lenT {p : Addr} {xs : List V} (ha : Ev ta σ H (.ref p)) (h : SqT K H p xs) : Ev (tCB (rLenS K) (tCons ta tNil)) σ H (.int (xs.length : Int)) := fun H1 e Q q =>
  ha H1 e _ fun H2 e2 => ⟨p, xs, rfl, Or.inr (ex_t (e.trans e2) h), q H2 e2⟩
theorem all_get {α : Type} (ds : List α) (p : α → Bool) : ((List.range ds.length).map (fun i => ((ds[i]?).map p).getD false)).all id = ds.all p := by
  have e : (List.range ds.length).map (fun i => ((ds[i]?).map p).getD false) = ds.map p := by
    apply List.ext_getElem
    · simp
    · intro i h1 h2
      have hi : i < ds.length := by simpa using h1
      simp [hi]
  rw [e, List.all_map]
  rfl
end
section
variable {K : PySem.W.Frag} {σ : L2.St} {H : Hp} {g : TG} {tu tz : TS} {D : Ends}
/-- for i, x in enumerate(t) -/
theorem s_forEn {a : Addr} {xs : List V} {tl : TE} (h : Ev tl σ H (.ref a)) (hx : SqT K H a xs) (Pv : Nat → L2.St → Hp → Prop) (h0 : ∀ H1, Ex H H1 → Pv 0 σ H1) (hl : ∀ i σ' H', i ≤ xs.length → Pv i σ' H' → SqT K H' a xs)
    (hs : ∀ i y T σ' H', xs[i]? = some y → Pv i σ' H' → H' T = none → g (.ref T) σ' (upd H' T (.tup [.int (i : Nat), y])) fun σ2 H2 => tu { D with nx := Pv (i + 1), ct := Pv (i + 1), bk := D.nx } σ2 H2) (hd : ∀ σ' H', Pv xs.length σ' H' → D.nx σ' H') : tFor (iEnumT K (tCons tl tNil)) g tu D σ H :=
  h H (Ex.refl H) _ fun H1 e => ⟨a, xs, rfl, ex_t e hx, for_it (walk_enumT (K := K) (a := a) (xs := xs)) Pv (h0 H1 e) hl (fun i x σ' H2 H3 hi p y => by
    obtain ⟨T, u, y, rfl, hT, rfl, hu, hy⟩ := y
    cases hu
    exact hs i y T σ' H2 hy p hT) hd⟩
theorem q_forEn {a : Addr} {xs : List V} {tl : TE} (h : Ev tl σ H (.ref a)) (hx : SqT K H a xs) (Pv : Nat → L2.St → Hp → Prop) (h0 : ∀ H1, Ex H H1 → Pv 0 σ H1) (hl : ∀ i σ' H', i ≤ xs.length → Pv i σ' H' → SqT K H' a xs)
    (hs : ∀ i y T σ' H', xs[i]? = some y → Pv i σ' H' → H' T = none → g (.ref T) σ' (upd H' T (.tup [.int (i : Nat), y])) fun σ2 H2 => tu { D with nx := Pv (i + 1), ct := Pv (i + 1), bk := tz D } σ2 H2) (hd : ∀ σ' H', Pv xs.length σ' H' → tz D σ' H') : tSeq (tFor (iEnumT K (tCons tl tNil)) g tu) tz D σ H :=
  s_forEn (D := { D with nx := tz D }) h hx Pv h0 hl hs hd
end
end Wk

set_option Elab.async false
set_option linter.all false
set_option maxRecDepth 100000
set_option maxHeartbeats 2000000
namespace Wk
open PySem PySem.Spec PyProof.Rows L2 Evl
def top (i : Nat) : Stmt := PySem.Challenge.pw_wishreels_k12_whole_talk_by_drawn_orders.main.body.getD i (.Pass ⟨0, 0, 0, 0⟩)
abbrev FnP (K : PySem.W.Frag) (x : Str) (st : Stmt) (f : Addr) (fd : FuncData) : Prop := FunD K x x (defArgs st) (defBody st) (defScope st) [] [] f fd
/-- names that are the built-in ones -/
structure Bl (mg : Str → Option Value) : Prop where
  isi : mg "isinstance" = none
  len : mg "len" = none
  tuple : mg "tuple" = none
  list : mg "list" = none
  int : mg "int" = none
  bool : mg "bool" = none
  str : mg "str" = none
  all : mg "all" = none
  set : mg "set" = none
  enum : mg "enumerate" = none
  range : mg "range" = none
  abs : mg "abs" = none
  min : mg "min" = none
  repr : mg "repr" = none
/-- a pure promise: a plain value, what stood stays -/
def spP (R : Hp → List V → V → Prop) : Sp := fun vs H Q _ => ∃ z, R H vs z ∧ ∀ H', Ex H H' → Q z H'
theorem spP_v {R : Hp → List V → V → Prop} {vs : List V} {H : Hp} {z : V} (h : ∀ H1, Ex H H1 → R H1 vs z) : SpV (spP R) vs H z := fun H1 e Q q E => ⟨z, h H1 e, fun H2 e2 => q H2 e2⟩
def isI : PyData → Bool
  | .int _ => true
  | _ => false
/-- what a datum is worth as an int -/
def valI : PyData → Int
  | .int i => i
  | _ => 0
theorem isI_eq {d : PyData} (h : isI d = true) : d = .int (valI d) := by
  cases d <;> first | rfl | (simp [isI] at h)
theorem kit_int (d : PyData) : ∃ b, kitB (tyN d) "int" = some b ∧ (b = true → ∃ c, kitB (tyN d) "bool" = some c ∧ (b && !c) = isI d) ∧ (b = false → isI d = false) := by
  cases d with
  | none => exact ⟨false, show kitB "NoneType" "int" = some false by decide +kernel, fun h => (by cases h), fun _ => rfl⟩
  | bool b => exact ⟨true, show kitB "bool" "int" = some true by decide +kernel, fun _ => ⟨true, show kitB "bool" "bool" = some true by decide +kernel, rfl⟩, fun h => (by cases h)⟩
  | int i => exact ⟨true, show kitB "int" "int" = some true by decide +kernel, fun _ => ⟨false, show kitB "int" "bool" = some false by decide +kernel, rfl⟩, fun h => (by cases h)⟩
  | str z => exact ⟨false, show kitB "str" "int" = some false by decide +kernel, fun h => (by cases h), fun _ => rfl⟩
  | list ds => exact ⟨false, show kitB "list" "int" = some false by decide +kernel, fun h => (by cases h), fun _ => rfl⟩
  | tuple ds => exact ⟨false, show kitB "tuple" "int" = some false by decide +kernel, fun h => (by cases h), fun _ => rfl⟩
  | dict ds => exact ⟨false, show kitB "dict" "int" = some false by decide +kernel, fun h => (by cases h), fun _ => rfl⟩
def isTu : PyData → Bool
  | .tuple _ => true
  | _ => false
def itemsT : PyData → List PyData
  | .tuple ds => ds
  | _ => []
theorem kit_tup (d : PyData) : kitB (tyN d) "tuple" = some (isTu d) := by
  cases d with
  | none => exact show kitB "NoneType" "tuple" = some false by decide +kernel
  | bool b => exact show kitB "bool" "tuple" = some false by decide +kernel
  | int i => exact show kitB "int" "tuple" = some false by decide +kernel
  | str z => exact show kitB "str" "tuple" = some false by decide +kernel
  | list ds => exact show kitB "list" "tuple" = some false by decide +kernel
  | tuple ds => exact show kitB "tuple" "tuple" = some true by decide +kernel
  | dict ds => exact show kitB "dict" "tuple" = some false by decide +kernel
def isR (n : Int) (d : PyData) : Bool := isI d && (decide (0 ≤ valI d) && decide (valI d ≤ n - 1))
/-- a way of router r through routers below n -/
def wayB (n r : Int) (d : PyData) : Bool := isTu d && (decide (2 ≤ (itemsT d).length) && decide ((itemsT d).length ≤ 8)) && ((itemsT d).all (isR n) && (decide (((itemsT d).map valI)[0]? = some r) && (decide (((itemsT d).map valI).getLast? = some 0) && decide ((itemsT d).map valI).Nodup)))
section
variable {P : Program} {w : World} {K : PySem.W.Frag} {mg : Str → Option Value} {base : Heap} {f : Addr} {fd : FuncData}
/-! is_integer, _law_is_int -/
abbrev spIsInt : Sp := spP fun H vs z => ∃ v d, vs = [v] ∧ Dq H v d ∧ z = .bl (isI d)
abbrev sIsInt : Stmt := top 11
theorem scIsInt : FnScope ["thing"] ["thing"] (defScope sIsInt) := ⟨rfl, rfl, rfl, by decide +kernel, rfl, by decide +kernel, by decide +kernel⟩
theorem ok_isInt (B : Bl mg) (F : FnP K "is_integer" sIsInt f fd) : FnOk P w K mg base CX0 1 f fd ["thing"] spIsInt := by
  refine F.ok scIsInt (fun vs H Q E h => ?_) (fun cdv A outer s H vs Q E hr h => ?_)
  · obtain ⟨z, ⟨v, d, rfl, _⟩, _⟩ := h
    rfl
  · obtain ⟨z, ⟨v, d, rfl, hd, rfl⟩, k⟩ := h
    refine ⟨_, pss_one (ps_ret (pe_and (pe_callB call_isi (by rfl) B.isi boot_isinstance (pa_cons (pv 0) (pa_cons (pe_bltn (v := .ty "int") (by rfl) B.int PyProof.Rows.boot_int rfl) pa_nil)))
      (pe_one (pe_not (pe_callB call_isi (by rfl) B.isi boot_isinstance (pa_cons (pv 0) (pa_cons (pe_bltn (v := .ty "bool") (by rfl) B.bool PyProof.Rows.boot_bool rfl) pa_nil))))))), ?_⟩
    obtain ⟨b, hb, h1, h2⟩ := kit_int d
    have v0 : Ev (tVar 0) (start ["thing"] [v]) H v := ev_var rfl
    cases b with
    | true =>
      obtain ⟨c, hc, e⟩ := h1 rfl
      rw [← e] at k
      exact s_ret (ev_andV (ev_isi v0 hd hb) fun _ => ev_notV (ev_isi v0 hd hc)) k
    | false =>
      rw [h2 rfl] at k
      exact s_ret (ev_andV (b := false) (ev_isi v0 hd hb) fun z => (by cases z)) k

/-! is_between, is_router -/
abbrev spBetween : Sp := spP fun H vs z => ∃ (a b : Int) (v : V) (d : PyData), vs = [.int a, .int b, v] ∧ Dq H v d ∧ z = .bl (isI d && (decide (a ≤ valI d) && decide (valI d ≤ b)))
abbrev sBetween : Stmt := top 12
theorem scBetween : FnScope ["least", "most", "thing"] ["least", "most", "thing"] (defScope sBetween) := ⟨rfl, rfl, rfl, by decide +kernel, rfl, by decide +kernel, by decide +kernel⟩
theorem ok_between (B : Bl mg) (C : Cal P w K mg base "is_integer" ["thing"] 1 spIsInt) (F : FnP K "is_between" sBetween f fd) : FnOk P w K mg base CX0 2 f fd ["least", "most", "thing"] spBetween := by
  refine F.ok scBetween (fun vs H Q E h => ?_) (fun cdv A outer s H vs Q E hr h => ?_)
  · obtain ⟨z, ⟨a, b, v, d, rfl, _⟩, _⟩ := h
    rfl
  · obtain ⟨z, ⟨a, b, v, d, rfl, hd, rfl⟩, k⟩ := h
    refine ⟨_, pss_one (ps_ret (pe_and (pe_cal C hr (by rfl) (pa_cons (pv 2) pa_nil)) (pe_one (pe_chain op_le op_le (pv 0) (pv 2) (pv 1))))), ?_⟩
    have v0 : Ev (tVar 0) (start ["least", "most", "thing"] [.int a, .int b, v]) H (.int a) := ev_var rfl
    have v1 : Ev (tVar 1) (start ["least", "most", "thing"] [.int a, .int b, v]) H (.int b) := ev_var rfl
    have v2 : Ev (tVar 2) (start ["least", "most", "thing"] [.int a, .int b, v]) H v := ev_var rfl
    refine s_ret (ev_andV (a := isI d) (ev_call (ea_cons v2 ea_nil) (spP_v fun H1 e => ⟨v, d, rfl, hd.mono e, rfl⟩)) fun hi => ?_) k
    rw [isI_eq hi] at hd
    cases hd
    exact ev_chain v0 v2 v1 rv_I0 rv_I0
abbrev spRouter : Sp := spP fun H vs z => ∃ (n : Int) (v : V) (d : PyData), vs = [.int n, v] ∧ Dq H v d ∧ z = .bl (isR n d)
abbrev sRouter : Stmt := top 16
theorem scRouter : FnScope ["size", "thing"] ["size", "thing"] (defScope sRouter) := ⟨rfl, rfl, rfl, by decide +kernel, rfl, by decide +kernel, by decide +kernel⟩
theorem ok_router (C : Cal P w K mg base "is_between" ["least", "most", "thing"] 2 spBetween) (F : FnP K "is_router" sRouter f fd) : FnOk P w K mg base CX0 3 f fd ["size", "thing"] spRouter := by
  refine F.ok scRouter (fun vs H Q E h => ?_) (fun cdv A outer s H vs Q E hr h => ?_)
  · obtain ⟨z, ⟨n, v, d, rfl, _⟩, _⟩ := h
    rfl
  · obtain ⟨z, ⟨n, v, d, rfl, hd, rfl⟩, k⟩ := h
    refine ⟨_, pss_one (ps_ret (pe_cal C hr (by rfl) (pa_cons pe_int (pa_cons (pe_op op_sub (pv 0) pe_int) (pa_cons (pv 1) pa_nil))))), ?_⟩
    exact s_ret (ev_call (ea_cons ev_c (ea_cons (ev_op (ev_var rfl) ev_c rv_I0) (ea_cons (ev_var rfl) ea_nil))) (spP_v fun H1 e => ⟨0, n - 1, v, d, rfl, hd.mono e, rfl⟩)) k
/-! is_way -/
abbrev spWay : Sp := spP fun H vs z => ∃ (n r : Int) (v : V) (d : PyData), vs = [.int n, .int r, v] ∧ Dq H v d ∧ z = .bl (wayB n r d)
abbrev sWay : Stmt := top 19
theorem scWay : FnScope ["size", "router", "thing", "item"] ["size", "router", "thing"] (defScope sWay) := ⟨rfl, rfl, rfl, by decide +kernel, rfl, by decide +kernel, by decide +kernel⟩
end
end Wk

set_option Elab.async false
set_option linter.all false
set_option maxRecDepth 100000
set_option maxHeartbeats 2000000
namespace Wk
open PySem PySem.Spec PyProof.Rows L2 Evl
theorem ints_of {n : Int} : ∀ {ds : List PyData}, ds.all (isR n) = true → ds = (ds.map valI).map PyData.int
  | [], _ => rfl
  | d :: ds, h => by
    have h' : isR n d = true ∧ ds.all (isR n) = true := by simpa using h
    have h1 : isI d = true := (Bool.and_eq_true_iff.mp h'.1).1
    show d :: ds = .int (valI d) :: (ds.map valI).map PyData.int
    rw [← ints_of h'.2, ← isI_eq h1]
section
variable {K : PySem.W.Frag} {σ : L2.St} {H : Hp} {ta tb te : TE}
theorem ev_lenSU {l : Addr} {ns : List Int} (ha : Ev ta σ H (.ref l)) (h : SqT K H l (ns.map V.int)) (hl : ns.length < 64) (hb : Ev tb σ H (.int (ns.length : Int))) :
    Ev (tOp rEq (tLenSU K ta) tb) σ H (.bl (decide ns.Nodup)) := fun H1 e Q q =>
  ha H1 e _ fun H2 e2 => ⟨l, ns, rfl, ex_t (e.trans e2) h, hl, fun m hm => hb H2 (e.trans e2) _ fun H3 e3 => ⟨rfl, by
    have ed : decide (V.int (m : Int) = V.int (ns.length : Int)) = decide ns.Nodup := by
      rw [decide_eq_decide]
      constructor
      · intro z
        injection z with z
        exact hm.mp (by omega)
      · intro z
        rw [hm.mpr z]
    rw [ed]
    exact q H3 (e2.trans e3)⟩⟩
theorem ev_lenSUU {l : Addr} {ks : List (Addr × List Int)} (ha : Ev ta σ H (.ref l)) (h : SqT K H l (ks.map fun p => V.ref p.1)) (hk : ∀ p ∈ ks, SqT K H p.1 (p.2.map V.int)) (hl : ks.length < 64) (hb : Ev tb σ H (.int (ks.length : Int))) :
    Ev (tOp rEq (tLenSUU K ta) tb) σ H (.bl (decide (ks.map (·.2)).Nodup)) := fun H1 e Q q =>
  ha H1 e _ fun H2 e2 => ⟨l, ks, rfl, ex_t (e.trans e2) h, fun p hp => ex_t (e.trans e2) (hk p hp), hl, fun m hm => hb H2 (e.trans e2) _ fun H3 e3 => ⟨rfl, by
    have ed : decide (V.int (m : Int) = V.int (ks.length : Int)) = decide (ks.map (·.2)).Nodup := by
      rw [decide_eq_decide]
      constructor
      · intro z
        injection z with z
        exact hm.mp (by omega)
      · intro z
        rw [hm.mpr z]
    rw [ed]
    exact q H3 (e2.trans e3)⟩⟩
end
theorem getLast_atI {α : Type} {xs : List α} {x : α} (h : xs.getLast? = some x) : atI xs (-1) = some x := by
  obtain ⟨ys, rfl⟩ : ∃ ys, xs = ys ++ [x] := by
    cases xs with
    | nil => cases h
    | cons y l =>
      refine ⟨(y :: l).dropLast, ?_⟩
      have := List.dropLast_concat_getLast (l := y :: l) (by simp)
      rw [List.getLast?_eq_some_getLast (by simp)] at h
      cases h
      exact this.symm
  exact atI_last ys x
section
variable {P : Program} {w : World} {K : PySem.W.Frag} {mg : Str → Option Value} {base : Heap} {f : Addr} {fd : FuncData}
theorem ok_way (B : Bl mg) {t8 : Tok} (m8 : mg "MOST_ROUTERS" = some (.int 8 t8)) (C : Cal P w K mg base "is_router" ["size", "thing"] 3 spRouter) (F : FnP K "is_way" sWay f fd) : FnOk P w K mg base CX0 5 f fd ["size", "router", "thing"] spWay := by
  refine F.ok scWay (fun vs H Q E h => ?_) (fun cdv A outer s H vs Q E hr h => ?_)
  · obtain ⟨z, ⟨n, r, v, d, rfl, _⟩, _⟩ := h
    rfl
  · obtain ⟨z, ⟨n, r, v, d, rfl, hd, rfl⟩, k⟩ := h
    refine ⟨_, pss_cons (ps_if (PW.pt (pw_or (pt_not (pt_val (pe_callB call_isi (by rfl) B.isi boot_isinstance (pa_cons (pv 2) (pa_cons (pe_bltn (v := .ty "tuple") (by rfl) B.tuple PyProof.Rows.boot_tuple rfl) pa_nil)))))
        (pw_or1 (pt_not (pt_chain op_le op_le pe_int (pe_callB call_len_seq (by rfl) B.len PySem.boot_len (pa_cons (pv 2) pa_nil)) (pe_glob (v := .int 8) (by rfl) m8 ⟨_, rfl⟩)))))) (pss_one (ps_ret pe_bl)) pss_nil)
      (pss_cons (ps_if (pt_not (pt_val (pe_callB (cr_all rfl) (by rfl) B.all boot_all (pa_cons (pe_lc (own := [("item", 3)]) (g := gName 3) (tt := tYes) rfl scWay.nd (pi_tup (pv 2)) (blkOk_by (N := ["size", "router", "thing", "item"]) (sc := defScope sWay) (by decide +kernel))
          (fun _ _ _ _ _ => pg_name (i := 3) scWay.nd rfl (Or.inl rfl)) (fun _ _ _ _ _ => pts_nil) (fun _ _ _ _ _ => pe_cal C hr (by rfl) (pa_cons (pv 0) (pa_cons (pv 3) pa_nil)))) pa_nil)))) (pss_one (ps_ret pe_bl)) pss_nil)
      (pss_one (ps_ret (pe_and (pe_cmpR op_eq (pe_ix ix_tup (pv 2) pe_int (fun _ _ => rfl)) (pv 1) (nomark _)) (pe_and (pe_cmpR op_eq (pe_ix ix_tup (pv 2) (pe_un un_neg pe_int) (fun _ _ => rfl)) pe_int (nomark _))
        (pe_one (pe_cmpR op_eq (pe_lenSU rfl (by rfl) B.len (by rfl) B.set (pv 2)) (pe_callB call_len_seq (by rfl) B.len PySem.boot_len (pa_cons (pv 2) pa_nil)) (nomark _)))))))), ?_⟩
    have v0 : ∀ {o : Option V} {H1 : Hp}, Ev (tVar 0) [some (.int n), some (.int r), some v, o] H1 (.int n) := ev_var rfl
    have v1 : ∀ {H1 : Hp}, Ev (tVar 1) (start ["size", "router", "thing", "item"] [.int n, .int r, v]) H1 (.int r) := ev_var rfl
    have v2 : ∀ {H1 : Hp}, Ev (tVar 2) (start ["size", "router", "thing", "item"] [.int n, .int r, v]) H1 v := ev_var rfl
    have hlen : ∀ {H1 : Hp}, Ex H H1 → isTu d = true → Ev (tCB (rLenS K) (tCons (tVar 2) tNil)) (start ["size", "router", "thing", "item"] [.int n, .int r, v]) H1 (.int ((itemsT d).length : Int)) := fun {H1} e ht => by
      cases hd <;> first | (simp [isTu] at ht; done) | skip
      rename_i a xs ds h1 h2
      rw [show (itemsT (.tuple ds)).length = xs.length from h2.length.symm]
      exact ev_lenT v2 (st_of (e _ _ h1))
    refine q_when (b := !isTu d || !(decide (2 ≤ ((itemsT d).length : Int)) && decide (((itemsT d).length : Int) ≤ 8))) (et_or (et_not (et_B (ev_isi v2 hd (kit_tup d)))) fun ht => et_not (et_test (ev_chain ev_c (hlen (Ex.refl H) (by simpa using ht)) ev_c rv_I0 rv_I0)))
      (fun hb H1 e => s_ret ev_c fun H2 e2 => ?_) (fun hb H1 e => ?_)
    · have ez : wayB n r d = false := by
        unfold wayB
        cases ht : isTu d
        · simp
        · simp [ht] at hb
          have : (decide (2 ≤ (itemsT d).length) && decide ((itemsT d).length ≤ 8)) = false := by simp; omega
          rw [this]
          simp
      rw [ez] at k
      exact k _ (e.trans e2)
    · have ht : isTu d = true := by simp at hb; exact hb.1
      have hl : 2 ≤ (itemsT d).length ∧ (itemsT d).length ≤ 8 := by simp [ht] at hb; omega
      have hd1 := hd.mono e
      clear hd
      cases hd1 <;> first | (simp [isTu] at ht; done) | skip
      rename_i a xs ds h1 h2
      have hxl := h2.length
      have hl' : 2 ≤ ds.length ∧ ds.length ≤ 8 := hl
      refine q_when (b := !ds.all (isR n)) (et_not (et_B ?_)) (fun hb H2 e2 => s_ret ev_c fun H3 e3 => ?_) (fun hb H2 e2 => ?_)
      · have q := ev_allT (K := K) (H := H1) (j := 3) (vs := [3]) (σ := start ["size", "router", "thing", "item"] [.int n, .int r, .ref a]) (te := tCall spRouter [] E0 (tCons (tVar 0) (tCons (tVar 3) tNil))) (fun i => ((ds[i]?).map (isR n)).getD false) v2 (st_of h1) (by omega) (fun x => rfl)
          (fun i x H2 e2 hx => by
            obtain ⟨dx, e3, e4⟩ := h2.get hx
            rw [e3]
            exact ev_call (ea_cons (ev_var rfl) (ea_cons (ev_var rfl) ea_nil)) (spP_v fun H3 e5 => ⟨n, x, dx, rfl, (e4.mono e2).mono e5, rfl⟩))
        rw [hxl, all_get] at q
        exact q
      · have ez : wayB n r (.tuple ds) = false := by
          have hb' : ds.all (isR n) = false := by simpa using hb
          unfold wayB
          show (true && _ && (ds.all (isR n) && _)) = false
          rw [hb']
          simp
        rw [ez] at k
        exact k _ ((e.trans e2).trans e3)
      · have hall : ds.all (isR n) = true := by simpa using hb
        have eds := ints_of hall
        have exs : xs = (ds.map valI).map V.int := by rw [eds] at h2; exact h2.int_inv
        generalize hns : ds.map valI = ns at *
        have hnl : ns.length = ds.length := by rw [← hns, List.length_map]
        subst exs
        have h1' := e2 _ _ h1
        have ez : wayB n r (.tuple ds) = (decide (V.int (ns.getD 0 0) = V.int r) && (decide (V.int (ns.getLast?.getD 0) = V.int 0) && decide ns.Nodup)) := by
          unfold wayB
          show (true && (decide (2 ≤ ds.length) && decide (ds.length ≤ 8)) && (ds.all (isR n) && (decide ((ds.map valI)[0]? = some r) && (decide ((ds.map valI).getLast? = some 0) && decide (ds.map valI).Nodup)))) = _
          rw [hall, hns, decide_eq_true hl'.1, decide_eq_true hl'.2]
          cases ns with
          | nil => simp at hnl; omega
          | cons x l =>
            simp only [Bool.true_and, Bool.and_true, List.getElem?_cons_zero, List.getD_cons_zero, V.int.injEq, Option.some.injEq]
            rw [List.getLast?_eq_some_getLast (by simp)]
            simp
        rw [ez] at k
        have hg : ∃ z, ns.getLast? = some z := by
          cases ns with
          | nil => simp at hnl; omega
          | cons x l => exact ⟨_, List.getLast?_eq_some_getLast (by simp)⟩
        obtain ⟨z, hz⟩ := hg
        rw [hz] at k
        refine s_ret (ev_andV (ev_op (ev_op v2 ev_c (rv_ixT (st_of h1') (v := .int (ns.getD 0 0)) ?_)) v1 (rv_eq rfl)) fun _ => ev_andV (ev_op (ev_op v2 (ev_un ev_c ru_neg) (rv_ixT (st_of h1') (v := .int z) ?_)) ev_c (rv_eq rfl)) fun _ => ev_lenSU v2 (st_of h1') (by omega) ?_) fun H3 e3 => k _ ((e.trans e2).trans e3)
        · cases ns with
          | nil => simp at hnl; omega
          | cons x l => exact atI_nat (j := 0) (by simp)
        · exact getLast_atI (by rw [List.getLast?_map, hz]; rfl)
        · have q := ev_lenT (K := K) (ta := tVar 2) (σ := start ["size", "router", "thing", "item"] [.int n, .int r, .ref a]) (H := H2) v2 (st_of h1')
          rw [List.length_map] at q
          exact q
end
end Wk

set_option Elab.async false
set_option linter.all false
set_option maxRecDepth 100000
set_option maxHeartbeats 2000000
namespace Wk
open PySem PySem.Spec PyProof.Rows L2 Evl
/-- the routers of a way -/
def rts (d : PyData) : List Int := (itemsT d).map valI
/-- the item of a router -/
def rowB (n r : Int) (d : PyData) : Bool := isTu d && decide ((itemsT d).length ≤ 6) && (if r = 0 then decide ((itemsT d).length = 0) else ((itemsT d).all (wayB n r) && decide ((itemsT d).map rts).Nodup))
theorem way_ints {n r : Int} {d : PyData} (h : wayB n r d = true) : d = .tuple ((rts d).map PyData.int) ∧ (itemsT d).all (isR n) = true ∧ 2 ≤ (rts d).length ∧ (rts d).length ≤ 8 ∧ (rts d)[0]? = some r ∧ (rts d).getLast? = some 0 ∧ (rts d).Nodup := by
  unfold wayB at h
  simp only [Bool.and_eq_true, decide_eq_true_eq] at h
  obtain ⟨⟨ht, h1, h2⟩, h3, h4, h5, h6⟩ := h
  cases d <;> first | (simp [isTu] at ht; done) | skip
  rename_i ds
  have e := ints_of (ds := ds) h3
  have el : (rts (.tuple ds)).length = ds.length := List.length_map ..
  exact ⟨congrArg PyData.tuple e, h3, by rw [el]; exact h1, by rw [el]; exact h2, h4, h5, h6⟩
theorem ways_keys {G : Hp} {n r : Int} : ∀ {ds : List PyData} {vs : List V}, DqA G vs ds → ds.all (wayB n r) = true → ∃ ks : List (Addr × List Int), vs = ks.map (fun p => V.ref p.1) ∧ (∀ p ∈ ks, G p.1 = some (.tup (p.2.map V.int))) ∧ ks.map (·.2) = ds.map rts
  | [], _, .nil, _ => ⟨[], rfl, fun p hp => (by cases hp), rfl⟩
  | d :: ds, _, .cons h t, c => by
    have c' : wayB n r d = true ∧ ds.all (wayB n r) = true := by simpa using c
    obtain ⟨ks, e1, e2, e3⟩ := ways_keys t c'.2
    have ed := (way_ints c'.1).1
    generalize rts d = ns at ed
    have er : rts d = ns := by
      rw [ed]
      simp [rts, itemsT, valI, Function.comp_def]
    subst ed
    cases h with
    | tup ha hx =>
      rename_i a xs
      have ex := hx.int_inv
      subst ex
      refine ⟨(a, ns) :: ks, by rw [e1]; rfl, fun p hp => ?_, by simp [e3, er]⟩
      rcases List.mem_cons.mp hp with z | z
      · rw [z]; exact ha
      · exact e2 p z
section
variable {P : Program} {w : World} {K : PySem.W.Frag} {mg : Str → Option Value} {base : Heap} {f : Addr} {fd : FuncData}
abbrev spRow : Sp := spP fun H vs z => ∃ (n r : Int) (v : V) (d : PyData), vs = [.int n, .int r, v] ∧ Dq H v d ∧ z = .bl (rowB n r d)
abbrev sRow : Stmt := top 62
theorem scRow : FnScope ["size", "router", "thing", "way"] ["size", "router", "thing"] (defScope sRow) := ⟨rfl, rfl, rfl, by decide +kernel, rfl, by decide +kernel, by decide +kernel⟩
theorem ok_row (B : Bl mg) {t6 : Tok} (hM : mg "MOST_WAYS" = some (.int 6 t6)) (C : Cal P w K mg base "is_way" ["size", "router", "thing"] 5 spWay) (F : FnP K "is_way_list" sRow f fd) : FnOk P w K mg base CX0 6 f fd ["size", "router", "thing"] spRow := by
  refine F.ok scRow (fun vs H Q E h => ?_) (fun cdv A outer s H vs Q E hr h => ?_)
  · obtain ⟨z, ⟨n, r, v, d, rfl, _⟩, _⟩ := h
    rfl
  · obtain ⟨z, ⟨n, r, v, d, rfl, hd, rfl⟩, k⟩ := h
    have hu : (A.deeper (envOfC "is_way_list" (defScope sRow) s.heap.objs.size f cdv)).units + 64 < cLine := by have := hr.un; omega
    refine ⟨_, pss_cons (ps_if (PW.pt (pw_or (pt_not (pt_val (pe_callB call_isi (by rfl) B.isi boot_isinstance (pa_cons (pv 2) (pa_cons (pe_bltn (v := .ty "tuple") (by rfl) B.tuple PyProof.Rows.boot_tuple rfl) pa_nil)))))
        (pw_or1 (pt_cmpR op_gt (pe_callB call_len_seq (by rfl) B.len PySem.boot_len (pa_cons (pv 2) pa_nil)) (pe_glob (v := .int 6) (by rfl) hM ⟨_, rfl⟩) (nomark _))))) (pss_one (ps_ret pe_bl)) pss_nil)
      (pss_cons (ps_if (pt_cmpR op_eq (pv 1) pe_int (nomark _)) (pss_one (ps_ret (pe_cmpR op_eq (pe_callB call_len_seq (by rfl) B.len PySem.boot_len (pa_cons (pv 2) pa_nil)) pe_int (nomark _)))) pss_nil)
      (pss_one (ps_ret (pe_and (pe_callB (cr_all rfl) (by rfl) B.all boot_all (pa_cons (pe_lc (own := [("way", 3)]) (g := gName 3) (tt := tYes) rfl scRow.nd (pi_tup (pv 2)) (blkOk_by (N := ["size", "router", "thing", "way"]) (sc := defScope sRow) (by decide +kernel))
          (fun _ _ _ _ _ => pg_name (i := 3) scRow.nd rfl (Or.inl rfl)) (fun _ _ _ _ _ => pts_nil) (fun _ _ _ _ _ => pe_cal C hr (by rfl) (pa_cons (pv 0) (pa_cons (pv 1) (pa_cons (pv 3) pa_nil))))) pa_nil))
        (pe_one (pe_cmpR op_eq (pe_lenSUU rfl hu (by rfl) B.len (by rfl) B.set (pv 2)) (pe_callB call_len_seq (by rfl) B.len PySem.boot_len (pa_cons (pv 2) pa_nil)) (nomark _))))))), ?_⟩
    have v1 : ∀ {H1 : Hp}, Ev (tVar 1) (start ["size", "router", "thing", "way"] [.int n, .int r, v]) H1 (.int r) := ev_var rfl
    have v2 : ∀ {H1 : Hp}, Ev (tVar 2) (start ["size", "router", "thing", "way"] [.int n, .int r, v]) H1 v := ev_var rfl
    have hlen : ∀ {H1 : Hp}, Ex H H1 → isTu d = true → Ev (tCB (rLenS K) (tCons (tVar 2) tNil)) (start ["size", "router", "thing", "way"] [.int n, .int r, v]) H1 (.int ((itemsT d).length : Int)) := fun {H1} e ht => by
      cases hd <;> first | (simp [isTu] at ht; done) | skip
      rename_i a xs ds h1 h2
      rw [show (itemsT (.tuple ds)).length = xs.length from h2.length.symm]
      exact ev_lenT v2 (st_of (e _ _ h1))
    refine q_when (b := !isTu d || decide (((itemsT d).length : Int) > 6)) (et_or (et_not (et_B (ev_isi v2 hd (kit_tup d)))) fun ht => et_test (ev_op (hlen (Ex.refl H) (by simpa using ht)) ev_c rv_I0))
      (fun hb H1 e => s_ret ev_c fun H2 e2 => ?_) (fun hb H1 e => ?_)
    · have ez : rowB n r d = false := by
        unfold rowB
        cases ht : isTu d
        · simp
        · simp [ht] at hb
          have : decide ((itemsT d).length ≤ 6) = false := by simp; omega
          rw [this]
          simp
      rw [ez] at k
      exact k _ (e.trans e2)
    · have ht : isTu d = true := by simp at hb; exact hb.1
      have hl : (itemsT d).length ≤ 6 := by simp [ht] at hb; omega
      have er : rowB n r d = (if r = 0 then decide ((itemsT d).length = 0) else ((itemsT d).all (wayB n r) && decide ((itemsT d).map rts).Nodup)) := by
        unfold rowB
        rw [ht, decide_eq_true hl]
        simp
      rw [er] at k
      refine q_when (b := decide (V.int r = V.int 0)) (et_test (ev_op v1 ev_c (rv_eq rfl))) (fun hb H2 e2 => ?_) (fun hb H2 e2 => ?_)
      · have hr0 : r = 0 := by have := of_decide_eq_true hb; injection this
        rw [if_pos hr0] at k
        have q : Ev (tOp rEq (tCB (rLenS K) (tCons (tVar 2) tNil)) (tC (.int 0))) (start ["size", "router", "thing", "way"] [.int n, .int r, v]) H2 (.bl (decide (V.int ((itemsT d).length : Int) = V.int 0))) := ev_op (hlen (e.trans e2) ht) ev_c (rv_eq rfl)
        have ed : decide (V.int ((itemsT d).length : Int) = V.int 0) = decide ((itemsT d).length = 0) := by
          rw [decide_eq_decide]
          constructor
          · intro z
            injection z with z
            omega
          · intro z
            rw [z]
            rfl
        rw [ed] at q
        exact s_ret q fun H3 e3 => k _ ((e.trans e2).trans e3)
      · have hr0 : ¬ r = 0 := fun z => by rw [z] at hb; simp at hb
        rw [if_neg hr0] at k
        have hd1 := hd.mono (e.trans e2)
        clear hd er hlen
        cases hd1 <;> first | (simp [isTu] at ht; done) | skip
        rename_i a xs ds h1 h2
        have hxl := h2.length
        have hl' : ds.length ≤ 6 := hl
        refine s_ret (ev_andV (a := ds.all (wayB n r)) ?_ fun hall => ?_) fun H3 e3 => k _ ((e.trans e2).trans e3)
        · have q := ev_allT (K := K) (H := H2) (j := 3) (vs := [3]) (σ := start ["size", "router", "thing", "way"] [.int n, .int r, .ref a]) (te := tCall spWay [] E0 (tCons (tVar 0) (tCons (tVar 1) (tCons (tVar 3) tNil)))) (fun i => ((ds[i]?).map (wayB n r)).getD false) v2 (st_of h1) (by omega) (fun x => rfl)
            (fun i x H3 e3 hx => by
              obtain ⟨dx, e5, e4⟩ := h2.get hx
              rw [e5]
              exact ev_call (ea_cons (ev_var rfl) (ea_cons (ev_var rfl) (ea_cons (ev_var rfl) ea_nil))) (spP_v fun H4 e6 => ⟨n, r, x, dx, rfl, (e4.mono e3).mono e6, rfl⟩))
          rw [hxl, all_get] at q
          exact q
        · obtain ⟨ks, ek1, ek2, ek3⟩ := ways_keys h2 hall
          have hkl : ks.length = xs.length := by rw [ek1, List.length_map]
          have q := ev_lenSUU (K := K) (σ := start ["size", "router", "thing", "way"] [.int n, .int r, .ref a]) (H := H2) (ta := tVar 2) (tb := tCB (rLenS K) (tCons (tVar 2) tNil)) (l := a) (ks := ks) v2 (st_of (by rw [← ek1]; exact h1)) (fun p hp => st_of (ek2 p hp)) (by omega) (by rw [hkl]; exact ev_lenT v2 (st_of h1))
          rw [ek3] at q
          exact q
end
end Wk

set_option Elab.async false
set_option linter.all false
set_option maxRecDepth 100000
set_option maxHeartbeats 4000000
namespace Wk
open PySem PySem.Spec PyProof.Rows L2 Evl
/-! an object made, a method called, where what is raised is wished for at the caller's slots -/
section
variable {X : Cx} {CX : CXT} {k : Nat} {f C : Addr} {fd : FuncData} {ps : List Str} {sp : Sp} {W : L2.St → XK} {x m : Str} {p pos apos : Pos} {e o : Expr} {es : List Expr} {ta : TE} {t : TA}
def tMkAt (C : Addr) (sp : Sp) (W : L2.St → XK) (t : TA) : TE := fun σ H Q => t σ H fun vs H1 => ∀ x dx, H1 x = none → H1 dx = none → dx ≠ x → sp (.ref x :: vs) (upd (upd H1 dx (.own x)) x (.ins C dx [])) (fun v H2 => v = .non ∧ Q (.ref x) H2) (W σ)
theorem pe_mkAt (M : Mk X.K C f) (Fn : FnOk X.prog X.w X.K X.mg X.base CX k f fd ps sp) (hr : Room (k + 1) X.A) (hg : Gl X x) (hm : X.mg x = some (.ref C)) (hb : Binds X.K fd ps []) (hx : ∀ σ, PassesAt CX X σ (W σ)) (ha : PA X (e :: es) t)
    (hdb : (x == ("__debug__" : Str)) = false := by decide) (he : starEach (e :: es) X.env = (false, eval e X.env) :: starEach es X.env := by rfl) (hpl : (backTo pos (starEach es X.env)).any (·.1) = false := by rfl) :
    PE X (.Call (.Name x p) (e :: es) [] pos) (tMkAt C sp W t) := by
  refine ⟨fun pins s σ H Q I h => wpAny_Call_Name_kw (ld_glob I hg hm (PySem.W.callWith_K (h₀ := X.base) I.ok.mod.kin M.kp (thn (ha.run pos pins s σ H _ I h) fun us s1 hh => ?_) he hpl) hdb)⟩
  obtain ⟨vs, H1, I1, r, q⟩ := hh
  refine ⟨I1.kIn, ?_⟩
  have hq := q (s1.heap.objs.size + 1) s1.heap.objs.size (I1.hok.fresh (Nat.le_succ _)) (I1.hok.fresh (Nat.le_refl _)) (Nat.ne_of_lt (Nat.lt_succ_self _))
  have J := Inv.made (C := C) I1
  have rr : Vals (V.ref (s1.heap.objs.size + 1) :: vs) (Value.ref (s1.heap.objs.size + 1) :: us) := .cons rfl r
  have hl : (Value.ref (s1.heap.objs.size + 1) :: us).length = ps.length := rr.length.symm.trans (Fn.len _ _ _ _ hq)
  have bd := hb _ (Value.ref (s1.heap.objs.size + 1) :: us) J.kIn (by rw [List.append_nil]; exact hl)
  rw [List.append_nil] at bd
  refine wpAny_call (make_map (f := f) I1.kIn M.makes M.init (beq_iff_eq.mp M.fn) (codeAny_mono (Fn.run _ X.stack _ _ ⟨_, []⟩ _ _ _ (W σ) (hr.make C us []) (J.env0.make C us []) bd rr hq) fun r s' out => ?_))
  cases r with
  | error er => exact hx σ pins _ _ er s' J out
  | ok fl =>
    cases fl with
    | ret u =>
      obtain ⟨v, H', I3, rv, ev, q3⟩ := J.after out
      subst ev
      exact ⟨rv, ⟨V.ref (s1.heap.objs.size + 1), H', I3, rfl, q3⟩⟩
    | next => exact False.elim out
    | brk => exact False.elim out
    | cont => exact False.elim out
def tMeAt (C : Addr) (m : Str) (sp : Sp) (W : L2.St → XK) (ta : TE) (t : TA) : TE := fun σ H Q => ta σ H fun x H1 => ∃ a dx fs, x = .ref a ∧ H1 a = some (.ins C dx fs) ∧ fs.lookup m = none ∧ t σ H1 fun vs H2 => sp (x :: vs) H2 Q (W σ)
theorem pe_meAt {pl : Sem Bool} (ho : PE X o ta) (c : Cls X.K C) (hm : Meth X.K C m f) (Fn : FnOk X.prog X.w X.K X.mg X.base CX k f fd ps sp) (hr : Room k X.A) (hb : Binds X.K fd ps []) (hx : ∀ σ, PassesAt CX X σ (W σ)) (ha : PA X (e :: es) t)
    (hst : starEach (e :: es) X.env = (false, eval e X.env) :: starEach es X.env := by rfl) (hpl : (backTo pos (starEach es X.env)).any (·.1) = false := by rfl)
    (ht : eval (.Call (.Attribute o m apos) (e :: es) [] pos) X.env = (do
      let ov ← eval o X.env
      standAt apos.atName
      let (f, first) ← holding [ov] (getMethod ov m pl)
      callWith pos f first (backTo pos (starEach (e :: es) X.env)) (backToKw pos (keywordEach [] X.env))) := by rfl) :
    PE X (.Call (.Attribute o m apos) (e :: es) [] pos) (tMeAt C m sp W ta t) := by
  refine ⟨fun pins s σ H Q I h => PySem.W.methodCall_KW (pl := pl) (thn (ho.run pins s σ H _ I h) fun u s1 hh => ?_) ht⟩
  obtain ⟨x, H1, I1, rx, a, dx, fs, ex, ea, l, q⟩ := hh
  subst ex
  obtain rfl : u = Value.ref a := rx
  refine getmeth_ok I1 ea c hm l (PySem.W.callWith_K (first := [.ref a]) (h₀ := X.base) I.ok.mod.kin hm.kp (thn (ha.run pos pins s1 σ H1 _ I1 q) fun us s2 hh => ?_) hst hpl)
  obtain ⟨vs, H2, I2, r, q2⟩ := hh
  exact ⟨I2.kIn, run_fnS (us := .ref a :: us) (vs := .ref a :: vs) Fn hr hb (hx σ) I2 (.cons rfl r) q2⟩
end
/-! an own error with one field -/
/-- __init__ of such an error: self.router = router -/
def spXI (C : Addr) : Sp := fun vs H Q _ => ∃ (a : Addr) (y : V), vs = [.ref a, y] ∧ H a = some (exo a C none) ∧ ∀ dx, H dx = none → dx ≠ a → Q .non (upd (upd H dx (exd dx [("router", y)])) a (exo a C (some dx)))
/-- X(e) is made: where the error's dict is -/
theorem mk_err {C : Addr} {te : TE} {σ : L2.St} {H : Hp} {y : V} {W : XK} (h : Ev te σ H y) (k : ∀ d H', H d = none → Ex H H' → H' d = some (.xd [("router", y)]) → W (.ref C) (some d) H') : tMkO C (spXI C) [] (tCons te tNil) σ H W := by
  refine h H (Ex.refl H) _ fun H1 e => ⟨by show 1 ≤ 1000; decide, fun a ha => ?_⟩
  refine ⟨a, y, rfl, upd_same, fun dx hd hne => ⟨rfl, dx, [("router", y)], upd_same, by rw [upd_ne hne, upd_same], ?_, ?_⟩⟩
  · rw [upd_ne hne] at hd
    exact hd
  · have hd1 : H1 dx = none := by rw [upd_ne hne] at hd; exact hd
    refine k dx _ (fresh_back e hd1) (fun b o hb => ?_) upd_same
    have hb1 := e b o hb
    have nb : b ≠ dx := ne_of_none hb1 hd1
    have na : b ≠ a := ne_of_none hb1 ha
    rw [upd_ne nb, del_ne na, upd_ne na, upd_ne nb, upd_ne na]
    exact hb1
/-! parts of tuples -/
section
variable {K : PySem.W.Frag} {σ : L2.St} {H : Hp} {ta tb te : TE}
/-- what stands in a tuple (an old one or a new one) -/
def EvS (te : TE) (σ : L2.St) (H : Hp) (xs : List V) : Prop := ∀ H1, Ex H H1 → ∀ Q : VK, (∀ p H2, Ex H1 H2 → H2 p = some (.tup xs) → Q (.ref p) H2) → te σ H1 Q
theorem es_sl {a : Addr} {xs : List V} {tl th : TO} {lo hi : Option Int} (h : Ev te σ H (.ref a)) (h1 : EvO tl σ H lo) (h2 : EvO th σ H hi) (hs : H a = some (.tup xs)) : EvS (tSl (rSlA K) te tl th) σ H (cutV xs lo hi) := fun H1 e Q q =>
  h H1 e _ fun H2 e2 => h1 H2 (e.trans e2) _ fun H3 e3 => h2 H3 ((e.trans e2).trans e3) _ fun H4 e4 => by
    have hs4 := (((e.trans e2).trans e3).trans e4) _ _ hs
    refine ⟨a, xs, rfl, st_of hs4, fun hw => ?_, fun hw p hp => q p _ (((e2.trans e3).trans e4).trans (Ex.new hp)) upd_same⟩
    have ec : cutV xs lo hi = xs := by
      unfold cutV
      rw [hw.1, hw.2]
      simp
    rw [ec] at q
    exact q a H4 ((e2.trans e3).trans e4) hs4
theorem es_cat {xs ys : List V} (ha : EvS ta σ H xs) (hb : EvS tb σ H ys) (hz : xs.length + ys.length ≤ 100000) : EvS (tOp (rCatA K) ta tb) σ H (xs ++ ys) := fun H1 e Q q =>
  ha H1 e _ fun p H2 e2 hp => hb H2 (e.trans e2) _ fun p' H3 e3 hp' => by
    have hp3 := e3 _ _ hp
    refine ⟨p, p', xs, ys, rfl, rfl, st_of hp3, st_of hp', sz_of hz, fun hx => ?_, fun _ hy => ?_, fun _ _ r hr => q r _ ((e2.trans e3).trans (Ex.new hr)) upd_same⟩
    · rw [hx] at q
      exact q p' H3 (e2.trans e3) hp'
    · rw [hy, List.append_nil] at q
      exact q p H3 (e2.trans e3) hp3
theorem es_tup {t : TA} {xs : List V} (h : EvA t σ H xs) (hz : xs.length ≤ 100000) : EvS (tTup t) σ H xs := fun H1 e Q q => eu_tup h hz H1 e Q fun p H2 _ e2 hp => q p H2 e2 hp
theorem es_var {a : Addr} {xs : List V} (h : Ev te σ H (.ref a)) (hs : H a = some (.tup xs)) : EvS te σ H xs := fun H1 e Q q => h H1 e _ fun H2 e2 => q a H2 e2 ((e.trans e2) _ _ hs)
theorem es_mono {xs : List V} {H' : Hp} (e : Ex H H') (h : EvS te σ H xs) : EvS te σ H' xs := fun H1 e1 Q q => h H1 (e.trans e1) Q q
end
/-! x in t, t a tuple of data -/
section
variable {X : Cx}
def rInU (K : PySem.W.Frag) : R2 := fun x y H Q => ∃ d ds, Dp K H x d ∧ Dp K H y (.tuple ds) ∧ SeqAt.shaped d = true ∧ PyData.canLayAll0 ds = true ∧ Q (.bl (ds.any fun z => PyData.eqv z d)) H
def rNotInU (K : PySem.W.Frag) : R2 := fun x y H Q => ∃ d ds, Dp K H x d ∧ Dp K H y (.tuple ds) ∧ SeqAt.shaped d = true ∧ PyData.canLayAll0 ds = true ∧ Q (.bl (!ds.any fun z => PyData.eqv z d)) H
theorem op_inU (hu : X.A.units + 66 < cLine) : OpR X (compareOp .In) (rInU X.K) := fun pins s σ H x y v u Q I rx ry h => by
  obtain ⟨d, ds, hd, he, sd, se, q⟩ := h
  obtain ⟨as, r1⟩ := Dp.reads I d x v hd rx
  obtain ⟨bs, r2⟩ := Dp.reads I (.tuple ds) y u he ry
  have hdp := SeqAt.depth_of_shaped sd
  exact SeqAt.in_tuple_reads r2 r1 se (SeqAt.canLay_of_shaped sd) (by have := Nat.min_le_right (PyData.depthAll ds) d.depth; omega) ⟨.bl _, H, I, rfl, q⟩
theorem op_notInU (hu : X.A.units + 66 < cLine) : OpR X (compareOp .NotIn) (rNotInU X.K) := fun pins s σ H x y v u Q I rx ry h => by
  obtain ⟨d, ds, hd, he, sd, se, q⟩ := h
  obtain ⟨as, r1⟩ := Dp.reads I d x v hd rx
  obtain ⟨bs, r2⟩ := Dp.reads I (.tuple ds) y u he ry
  have hdp := SeqAt.depth_of_shaped sd
  exact SeqAt.notIn_tuple_reads r2 r1 se (SeqAt.canLay_of_shaped sd) (by have := Nat.min_le_right (PyData.depthAll ds) d.depth; omega) ⟨.bl _, H, I, rfl, q⟩
end
end Wk

set_option Elab.async false
set_option linter.all false
set_option maxRecDepth 100000
set_option maxHeartbeats 2000000
namespace Wk
open PySem PySem.Spec PyProof.Rows L2 Evl
theorem lay_ints : ∀ ns : List Int, PyData.canLayAll0 (ns.map PyData.int) = true
  | [] => by simp [PyData.canLayAll0]
  | n :: ns => by
    have h := lay_ints ns
    simp [PyData.canLayAll0, PyData.canLay0, h]
theorem depth_ints : ∀ ns : List Int, PyData.depthAll (ns.map PyData.int) = 0
  | [] => by simp [PyData.depthAll]
  | n :: ns => by
    have h := depth_ints ns
    simp [PyData.depthAll, PyData.depth, h]
theorem shaped_ints (ns : List Int) : SeqAt.shaped (.tuple (ns.map PyData.int)) = true := by
  unfold SeqAt.shaped
  have h1 := lay_ints ns
  have h2 := depth_ints ns
  simp [PyData.canLay0, PyData.depth, h1, h2]
theorem way_lay {n r : Int} {d : PyData} (h : wayB n r d = true) : d.canLay0 = true := by
  rw [(way_ints h).1]
  exact SeqAt.canLay_of_shaped (shaped_ints _)
theorem ways_lay {n r : Int} : ∀ {ds : List PyData}, ds.all (wayB n r) = true → PyData.canLayAll0 ds = true
  | [], _ => by simp [PyData.canLayAll0]
  | d :: ds, h => by
    have h' : wayB n r d = true ∧ ds.all (wayB n r) = true := by simpa using h
    simp [PyData.canLayAll0, way_lay h'.1, ways_lay h'.2]
theorem row_lay {n r : Int} {d : PyData} (h : rowB n r d = true) : ∃ ws, d = .tuple ws ∧ PyData.canLayAll0 ws = true ∧ ws.length ≤ 6 ∧ (r ≠ 0 → ws.all (wayB n r) = true) ∧ (r = 0 → ws = []) := by
  unfold rowB at h
  simp only [Bool.and_eq_true, decide_eq_true_eq] at h
  obtain ⟨⟨ht, h1⟩, h2⟩ := h
  cases d <;> first | (simp [isTu] at ht; done) | skip
  rename_i ws
  by_cases hr : r = 0
  · rw [if_pos hr] at h2
    have e : ws = [] := List.length_eq_zero_iff.mp (of_decide_eq_true h2)
    refine ⟨ws, rfl, by rw [e]; simp [PyData.canLayAll0], h1, fun z => absurd hr z, fun _ => e⟩
  · rw [if_neg hr] at h2
    have h3 := (Bool.and_eq_true_iff.mp h2).1
    exact ⟨ws, rfl, ways_lay h3, h1, fun _ => h3, fun z => absurd z hr⟩
/-- the rest of a way stands in the list of its router, or is the goal's -/
def restB (rows : List PyData) (w : PyData) : Bool := decide ((rts w).getD 1 0 = 0) || (itemsT (rows.getD ((rts w).getD 1 0).toNat .none)).any (fun z => PyData.eqv z (.tuple (((rts w).drop 1).map PyData.int)))
def Good (rows : List PyData) : Prop := ∀ (i : Nat) (row : PyData), rows[i]? = some row → rowB (rows.length : Int) (i : Int) row = true
theorem way_at {n r : Int} {w : PyData} {i : Nat} {x : Int} (h : wayB n r w = true) (e : (rts w)[i]? = some x) : 0 ≤ x ∧ x < n := by
  have hall := (way_ints h).2.1
  unfold rts at e
  rw [List.getElem?_map] at e
  cases hd : (itemsT w)[i]? with
  | none => rw [hd] at e; cases e
  | some d =>
    rw [hd] at e
    have hm : d ∈ itemsT w := List.mem_of_getElem? hd
    have hr : isR n d = true := List.all_eq_true.mp hall d hm
    unfold isR at hr
    simp only [Bool.and_eq_true, decide_eq_true_eq] at hr
    have ex : valI d = x := Option.some.inj e
    omega
theorem drop1 (ns : List Int) : cutV (ns.map V.int) (some 1) none = (ns.drop 1).map V.int := by
  unfold cutV
  have e1 : HT.sIx (ns.map V.int).length 0 (some 1) = min 1 (ns.map V.int).length := HT.sIx_nat _ _ 1
  rw [e1, HT.sIx_none]
  cases ns with
  | nil => rfl
  | cons x l =>
    simp
    exact List.take_of_length_le (by simp)
section
variable {P : Program} {w : World} {K : PySem.W.Frag} {mg : Str → Option Value} {base : Heap} {f : Addr} {fd : FuncData}
abbrev spRest : Sp := spP fun H vs z => ∃ (lv wv : V) (rows : List PyData) (w : PyData) (r : Int), vs = [lv, wv] ∧ Dq H lv (.tuple rows) ∧ Dq H wv w ∧ wayB (rows.length : Int) r w = true ∧ Good rows ∧ z = .bl (restB rows w)
abbrev sRest : Stmt := top 63
theorem scRest : FnScope ["lists", "way"] ["lists", "way"] (defScope sRest) := ⟨rfl, rfl, rfl, by decide +kernel, rfl, by decide +kernel, by decide +kernel⟩
theorem ok_rest (F : FnP K "has_let_rest" sRest f fd) : FnOk P w K mg base CX0 1 f fd ["lists", "way"] spRest := by
  refine F.ok scRest (fun vs H Q E h => ?_) (fun cdv A outer s H vs Q E hr h => ?_)
  · obtain ⟨z, ⟨lv, wv, rows, w, r, rfl, _⟩, _⟩ := h
    rfl
  · obtain ⟨z, ⟨lv, wv, rows, w, r, rfl, hl, hw, hway, hg, rfl⟩, k⟩ := h
    have hu : (A.deeper (envOfC "has_let_rest" (defScope sRest) s.heap.objs.size f cdv)).units + 66 < cLine := by have := hr.un; omega
    refine ⟨_, pss_one (ps_ret (pe_or (pe_cmpR op_eq (pe_ix ix_tup (pv 1) pe_int (fun _ _ => rfl)) pe_int (nomark _)) (pe_one (pe_cmpR (op_inU hu) (pe_slice sl_tupA (pv 1) (po_some pe_int) po_none) (pe_ix ix_tup (pv 0) (pe_ix ix_tup (pv 1) pe_int (fun _ _ => rfl)) (fun _ _ => rfl)) rfl)))), ?_⟩
    obtain ⟨ew, _, h2, _, _, _, _⟩ := way_ints hway
    unfold restB at k
    have hn1 : ∃ j, (rts w)[1]? = some j := ⟨_, List.getElem?_eq_getElem (by omega)⟩
    obtain ⟨j, hj⟩ := hn1
    obtain ⟨hj0, hjn⟩ := way_at hway hj
    have ejd : (rts w).getD 1 0 = j := by rw [List.getD_eq_getElem?_getD, hj]; rfl
    rw [ejd] at k
    generalize rts w = ns at *
    subst ew
    cases hw with
    | tup ha hx =>
      rename_i a xs
      have ex := hx.int_inv
      subst ex
      cases hl with
      | tup hb hy =>
        rename_i b ys
        have v0 : Ev (tVar 0) (start ["lists", "way"] [.ref b, .ref a]) H (.ref b) := ev_var rfl
        have v1 : Ev (tVar 1) (start ["lists", "way"] [.ref b, .ref a]) H (.ref a) := ev_var rfl
        have hat : atI (ns.map V.int) 1 = some (.int j) := atI_nat (j := 1) (by rw [List.getElem?_map, hj]; rfl)
        have i1 : Ev (tOp (rIxT K) (tVar 1) (tC (.int 1))) (start ["lists", "way"] [.ref b, .ref a]) H (.int j) := ev_op v1 ev_c (rv_ixT (st_of ha) hat)
        have ed : decide (V.int j = V.int 0) = decide (j = 0) := by rw [decide_eq_decide]; exact ⟨fun z => by injection z, fun z => by rw [z]⟩
        refine s_ret (ev_is (ev_orV (a := decide (V.int j = V.int 0)) (ev_op i1 ev_c (rv_eq rfl)) fun hne => ?_) (by rw [ed])) k
        have hjl : j.toNat < rows.length := by omega
        have hrow : rows[j.toNat]? = some rows[j.toNat] := List.getElem?_eq_getElem hjl
        have hgd : rows.getD j.toNat .none = rows[j.toNat] := by rw [List.getD_eq_getElem?_getD, hrow]; rfl
        obtain ⟨ws, ew, lay, _⟩ := row_lay (hg _ _ hrow)
        obtain ⟨rv, hrv, hdr⟩ := hy.at hrow
        rw [hgd, ew]
        rw [ew] at hdr
        have hat2 : atI ys j = some rv := by
          have q := atI_nat (j := j.toNat) hrv
          rw [Int.toNat_of_nonneg hj0] at q
          exact q
        intro H1 e Q2 q
        refine es_sl (K := K) v1 (eo_some ev_c) eo_none ha H1 e _ fun p H2 e2 hp => ?_
        rw [drop1] at hp
        refine ev_op (Ev.mono (e.trans e2) v0) (Ev.mono (e.trans e2) i1) (rv_ixT (st_of ((e.trans e2) _ _ hb)) hat2) H2 (Ex.refl H2) _ fun H3 e3 => ?_
        refine ⟨.tuple ((ns.drop 1).map PyData.int), ws, .tup (st_of (e3 _ _ hp)) (DqA.dp (lay_ints _) (DqA.ints _)), Dq.dp (by simpa [PyData.canLay0] using lay) (hdr.mono ((e.trans e2).trans e3)), shaped_ints _, lay, q H3 (e2.trans e3)⟩
end
end Wk

set_option Elab.async false
set_option linter.all false
set_option maxRecDepth 100000
set_option maxHeartbeats 2000000
namespace Wk
open PySem PySem.Spec PyProof.Rows L2 Evl
/-- what the text tells of an error class with one field, at C, its __init__ at fI -/
structure Err (P : Program) (w : World) (K : PySem.W.Frag) (mg : Str → Option Value) (base : Heap) (x : Str) (C : Addr) : Prop where
  g : mg x = some (.ref C)
  oex : OexC K C
  xf : XfC K C
  no : PySem.W.findIn K (.ref C) "router" = some none
  te : PySem.W.exmOne K (.ref C) (.ref C) = some true
  ini : ∃ (fI : Addr) (fd : FuncData), PySem.W.findIn K (.ref C) "__init__" = some (some (.ref fI)) ∧ PySem.W.typeIn K (.ref fI) = some (.type "function") ∧ FnOk P w K mg base CX0 1 fI fd ["self", "router"] (spXI C) ∧ Binds K fd ["self", "router"] []
theorem pmk_err {X : Cx} {x : Str} {C : Addr} {e : Expr} {ta : TA} {p pos : Pos} (T : Err X.prog X.w X.K X.mg X.base x C) (hr : Room 2 X.A) (hg : Gl X x) (ha : PA X [e] ta)
    (hdb : (x == ("__debug__" : Str)) = false := by decide) (he : starEach [e] X.env = (false, eval e X.env) :: starEach [] X.env := by rfl) (hpl : (backTo pos (starEach [] X.env)).any (·.1) = false := by rfl) : PMk X (.Call (.Name x p) [e] [] pos) (tMkO C (spXI C) [] ta) := by
  obtain ⟨fI, fd, h1, h2, h3, h4⟩ := T.ini
  exact pmk_oex T.oex h1 h2 h3 hr h4 .nil pass0 hg T.g ha hdb he hpl
/-- the first router whose item is wrong; the first with a way whose rest is not let -/
def fb (n : Int) : Nat → List PyData → Option Int
  | _, [] => none
  | i, d :: ds => if rowB n (i : Int) d = true then fb n (i + 1) ds else some (i : Int)
def sb (rows : List PyData) : Nat → List PyData → Option Int
  | _, [] => none
  | i, d :: ds => if (itemsT d).all (restB rows) = true then sb rows (i + 1) ds else some (i : Int)
def due2 (rows : List PyData) : Option Int := match fb (rows.length : Int) 0 rows with
  | some r => some r
  | none => sb rows 0 rows
def dueD (d : PyData) : Option Int := if isTu d = true ∧ 2 ≤ (itemsT d).length ∧ (itemsT d).length ≤ 8 then due2 (itemsT d) else some (-1)
theorem fb_drop {n : Int} : ∀ {ds : List PyData} {i j : Nat} {d : PyData}, ds[i]? = some d → fb n (j + i) (ds.drop i) = if rowB n ((j + i : Nat) : Int) d = true then fb n (j + (i + 1)) (ds.drop (i + 1)) else some ((j + i : Nat) : Int)
  | [], i, j, d, h => by simp at h
  | x :: ds, 0, j, d, h => by
    simp at h
    subst h
    rfl
  | x :: ds, i + 1, j, d, h => by
    have q := fb_drop (n := n) (ds := ds) (i := i) (j := j + 1) (d := d) (by simpa using h)
    simp only [List.drop_succ_cons]
    rw [show j + (i + 1) = j + 1 + i by omega, show j + (i + 1 + 1) = j + 1 + (i + 1) by omega]
    exact q
theorem sb_drop {rows : List PyData} : ∀ {ds : List PyData} {i j : Nat} {d : PyData}, ds[i]? = some d → sb rows (j + i) (ds.drop i) = if (itemsT d).all (restB rows) = true then sb rows (j + (i + 1)) (ds.drop (i + 1)) else some ((j + i : Nat) : Int)
  | [], i, j, d, h => by simp at h
  | x :: ds, 0, j, d, h => by
    simp at h
    subst h
    rfl
  | x :: ds, i + 1, j, d, h => by
    have q := sb_drop (rows := rows) (ds := ds) (i := i) (j := j + 1) (d := d) (by simpa using h)
    simp only [List.drop_succ_cons]
    rw [show j + (i + 1) = j + 1 + i by omega, show j + (i + 1 + 1) = j + 1 + (i + 1) by omega]
    exact q
theorem fb_good {n : Int} : ∀ {ds : List PyData} {j : Nat}, fb n j ds = none → ∀ (i : Nat) (d : PyData), ds[i]? = some d → rowB n ((j + i : Nat) : Int) d = true
  | [], _, _, i, d, h => by simp at h
  | x :: ds, j, hf, i, d, h => by
    unfold fb at hf
    by_cases hx : rowB n (j : Int) x = true
    · rw [if_pos hx] at hf
      cases i with
      | zero => simp at h; subst h; exact hx
      | succ i =>
        have q := fb_good hf i d (by simpa using h)
        rw [show j + (i + 1) = j + 1 + i by omega]
        exact q
    · rw [if_neg hx] at hf
      cases hf
theorem fb_Good {rows : List PyData} (h : fb (rows.length : Int) 0 rows = none) : Good rows := fun i row e => by
  have q := fb_good h i row e
  rw [Nat.zero_add] at q
  exact q
theorem g_two {i j : Nat} {x y : V} {σ : L2.St} {H : Hp} {k : L2.St → Hp → Prop} (h : k ((σ.set i (some x)).set j (some y)) H) : gCons (gName i) (gCons (gName j) gNil) [x, y] σ H k := ⟨_, _, rfl, ⟨_, _, rfl, ⟨rfl, h⟩⟩⟩
section
variable {P : Program} {w : World} {K : PySem.W.Frag} {mg : Str → Option Value} {base : Heap} {f : Addr} {fd : FuncData}
abbrev spSize : Sp := spP fun H vs z => ∃ (a : Int) (v : V) (d : PyData), vs = [.int a, v] ∧ Dq H v d ∧ z = .bl (isI d && (decide (a ≤ valI d) && decide (valI d ≤ 8)))
abbrev sSize : Stmt := top 18
theorem scSize : FnScope ["least", "thing"] ["least", "thing"] (defScope sSize) := ⟨rfl, rfl, rfl, by decide +kernel, rfl, by decide +kernel, by decide +kernel⟩
theorem ok_size {t8 : Tok} (hM : mg "MOST_ROUTERS" = some (.int 8 t8)) (C : Cal P w K mg base "is_between" ["least", "most", "thing"] 2 spBetween) (F : FnP K "is_size" sSize f fd) : FnOk P w K mg base CX0 3 f fd ["least", "thing"] spSize := by
  refine F.ok scSize (fun vs H Q E h => ?_) (fun cdv A outer s H vs Q E hr h => ?_)
  · obtain ⟨z, ⟨n, v, d, rfl, _⟩, _⟩ := h
    rfl
  · obtain ⟨z, ⟨n, v, d, rfl, hd, rfl⟩, k⟩ := h
    refine ⟨_, pss_one (ps_ret (pe_cal C hr (by rfl) (pa_cons (pv 0) (pa_cons (pe_glob (v := .int 8) (by rfl) hM ⟨_, rfl⟩) (pa_cons (pv 1) pa_nil))))), ?_⟩
    exact s_ret (ev_call (ea_cons (ev_var rfl) (ea_cons ev_c (ea_cons (ev_var rfl) ea_nil))) (spP_v fun H1 e => ⟨n, 8, v, d, rfl, hd.mono e, rfl⟩)) k
def spRefuse (CB : Addr) : Sp := fun vs H Q E => ∃ v d, vs = [v] ∧ Dq H v d ∧ (dueD d = none → ∀ H', Ex H H' → Q .non H') ∧ ∀ r, dueD d = some r → ∀ dx H', H dx = none → Ex H H' → H' dx = some (.xd [("router", .int r)]) → E (.ref CB) (some dx) H'
abbrev sRefuse : Stmt := top 61
abbrev nRefuse : List Str := ["lists", "router", "item", "way"]
theorem scRefuse : FnScope nRefuse ["lists"] (defScope sRefuse) := ⟨rfl, rfl, rfl, by decide +kernel, rfl, by decide +kernel, by decide +kernel⟩
theorem ok_refuse {CB : Addr} (B : Bl mg) {t2 : Tok} (hM : mg "LEAST_ROUTERS" = some (.int 2 t2)) (CS : Cal P w K mg base "is_size" ["least", "thing"] 3 spSize) (T : Err P w K mg base "BadWishes" CB) (C : Cal P w K mg base "is_way_list" ["size", "router", "thing"] 6 spRow) (C2 : Cal P w K mg base "has_let_rest" ["lists", "way"] 1 spRest)
    (F : FnP K "refuse_wrong_lists" sRefuse f fd) : FnOk P w K mg base (L2.CX P w) 7 f fd ["lists"] (spRefuse CB) := by
  refine F.ok scRefuse (fun vs H Q E h => ?_) (fun cdv A outer s H vs Q E hr h => ?_)
  · obtain ⟨v, d, rfl, _⟩ := h
    rfl
  · obtain ⟨v, d, rfl, hd, kN, kE⟩ := h
    have hr2 : Room 2 _ := hr.mono (by decide)
    have hr1 : Room 1 _ := hr.mono (by decide)
    refine ⟨_, pss_cons (ps_if (PW.pt (pw_or (pt_not (pt_val (pe_callB call_isi (by rfl) B.isi boot_isinstance (pa_cons (pv 0) (pa_cons (pe_bltn (v := .ty "tuple") (by rfl) B.tuple PyProof.Rows.boot_tuple rfl) pa_nil)))))
        (pw_or1 (pt_not (pt_val (pe_cal CS hr (by rfl) (pa_cons (pe_glob (v := .int 2) (by rfl) hM ⟨_, rfl⟩) (pa_cons (pe_callB call_len_seq (by rfl) B.len PySem.boot_len (pa_cons (pv 0) pa_nil)) pa_nil)))))))) (pss_one (ps_raise rfl (takes_of rfl rfl rfl rfl) (pmk_err T hr2 (by rfl) (pa_cons (pe_un un_neg pe_int) pa_nil)))) pss_nil)
      (pss_cons (ps_for (passes_of rfl) rfl (pi_enumT (by rfl) B.enum (pa_cons (pv 0) pa_nil)) (pg_tup rfl (pgs_cons (pg_name (i := 1) scRefuse.nd rfl (.inl rfl)) (pgs_cons (pg_name (i := 2) scRefuse.nd rfl (.inl rfl)) pgs_nil)))
        (pss_one (ps_if (pt_not (pt_val (pe_cal C hr (by rfl) (pa_cons (pe_callB call_len_seq (by rfl) B.len PySem.boot_len (pa_cons (pv 0) pa_nil)) (pa_cons (pv 1) (pa_cons (pv 2) pa_nil)))))) (pss_one (ps_raise rfl (takes_of rfl rfl rfl rfl) (pmk_err T hr2 (by rfl) (pa_cons (pv 1) pa_nil)))) pss_nil)))
      (pss_one (ps_for (passes_of rfl) rfl (pi_enumT (by rfl) B.enum (pa_cons (pv 0) pa_nil)) (pg_tup rfl (pgs_cons (pg_name (i := 1) scRefuse.nd rfl (.inl rfl)) (pgs_cons (pg_name (i := 2) scRefuse.nd rfl (.inl rfl)) pgs_nil)))
        (pss_one (ps_if (pt_not (pt_val (pe_callB (cr_all rfl) (by rfl) B.all boot_all (pa_cons (pe_lc (own := [("way", 3)]) (g := gName 3) (tt := tYes) rfl scRefuse.nd (pi_tup (pv 2)) (blkOk_by (N := nRefuse) (sc := defScope sRefuse) (by decide +kernel))
          (fun _ _ _ _ _ => pg_name (i := 3) scRefuse.nd rfl (Or.inl rfl)) (fun _ _ _ _ _ => pts_nil) (fun _ _ _ _ _ => pe_cal C2 hr1 (by rfl) (pa_cons (pv 0) (pa_cons (pv 3) pa_nil)))) pa_nil)))) (pss_one (ps_raise rfl (takes_of rfl rfl rfl rfl) (pmk_err T hr2 (by rfl) (pa_cons (pv 1) pa_nil)))) pss_nil))))), ?_⟩
    have v0 : ∀ {H1 : Hp} {o1 o2 o3 : Option V}, Ev (tVar 0) [some v, o1, o2, o3] H1 v := ev_var rfl
    have hlen : ∀ {H1 : Hp} {o1 o2 o3 : Option V}, Ex H H1 → isTu d = true → Ev (tCB (rLenS K) (tCons (tVar 0) tNil)) [some v, o1, o2, o3] H1 (.int ((itemsT d).length : Int)) := fun {H1 o1 o2 o3} e ht => by
      cases hd <;> first | (simp [isTu] at ht; done) | skip
      rename_i a xs ds h1 h2
      rw [show (itemsT (.tuple ds)).length = xs.length from h2.length.symm]
      exact ev_lenT v0 (st_of (e _ _ h1))
    refine q_when (b := !isTu d || !(decide (2 ≤ ((itemsT d).length : Int)) && decide (((itemsT d).length : Int) ≤ 8))) (et_or (et_not (et_B (ev_isi (v0 (H1 := H)) hd (kit_tup d)))) fun ht => et_not (et_B (ev_call (ea_cons ev_c (ea_cons (hlen (Ex.refl H) (by simpa using ht)) ea_nil)) (spP_v fun H1 e => ⟨2, _, _, rfl, .int _, rfl⟩))))
      (fun hb H1 e => ?_) (fun hb H1 e => ?_)
    · refine mk_err (ev_un ev_c ru_neg) fun dx H' h0 e' hx => kE (-1) ?_ dx H' (fresh_back e h0) (e.trans e') hx
      unfold dueD
      rw [if_neg]
      intro z
      obtain ⟨z1, z2, z3⟩ := z
      simp [z1] at hb
      omega
    · have ht : isTu d = true := by simp at hb; exact hb.1
      have hl : 2 ≤ (itemsT d).length ∧ (itemsT d).length ≤ 8 := by simp [ht] at hb; omega
      have edue : dueD d = due2 (itemsT d) := by unfold dueD; rw [if_pos ⟨ht, hl⟩]
      rw [edue] at kN kE
      cases hd <;> first | (simp [isTu] at ht; done) | skip
      rename_i a xs rows h1 h2
      have hlen' : ∀ {H1 : Hp} {o1 o2 o3 : Option V}, Ex H H1 → Ev (tCB (rLenS K) (tCons (tVar 0) tNil)) [some (.ref a), o1, o2, o3] H1 (.int (rows.length : Int)) := fun {_ _ _ _} e => hlen e rfl
      have kN' : due2 rows = none → ∀ H', Ex H H' → Q .non H' := kN
      have kE' : ∀ r, due2 rows = some r → ∀ dx H', H dx = none → Ex H H' → H' dx = some (.xd [("router", .int r)]) → E (.ref CB) (some dx) H' := kE
      have hl' : 2 ≤ rows.length ∧ rows.length ≤ 8 := hl
      clear kN kE hlen edue hl hb
      have hxl := h2.length
      refine q_forEn (K := K) (v0 (H1 := H1)) (st_of (e _ _ h1)) (fun i σ H' => Ex H H' ∧ (∃ o1 o2, σ = [some (.ref a), o1, o2, none]) ∧ fb (rows.length : Int) 0 rows = fb (rows.length : Int) i (rows.drop i)) (fun H2 e2 => ⟨e.trans e2, ⟨none, none, rfl⟩, rfl⟩) (fun i σ H' _ p => st_of (p.1 _ _ h1)) ?_ ?_
      · rintro i z T σ H3 hz ⟨e3, ⟨o1, o2, rfl⟩, hf⟩ hT
        obtain ⟨dz, ed1, ed2⟩ := h2.get hz
        have e4 : Ex H3 (upd H3 T (.tup [.int (i : Nat), z])) := Ex.new hT
        refine ⟨T, _, rfl, st_of upd_same, rfl, g_two ?_⟩
        change tIfS _ _ _ _ [some (.ref a), some (.int (i : Nat)), some z, none] _
        have hdrop := fb_drop (n := (rows.length : Int)) (j := 0) ed1
        rw [Nat.zero_add, Nat.zero_add] at hdrop
        refine s_when (b := !rowB (rows.length : Int) (i : Int) dz) (et_not (et_B (ev_call (ea_cons (hlen' (e3.trans e4)) (ea_cons (ev_var rfl) (ea_cons (ev_var rfl) ea_nil))) (spP_v fun H5 e5 => ⟨_, _, z, dz, rfl, ed2.mono ((e3.trans e4).trans e5), rfl⟩)))) (fun hb H5 e5 => ?_) (fun hb H5 e5 => ?_)
        · refine mk_err (ev_var rfl) fun dx H' h0 e' hx => kE' (i : Int) ?_ dx H' (fresh_back ((e3.trans e4).trans e5) h0) (((e3.trans e4).trans e5).trans e') hx
          have hb' : rowB (rows.length : Int) (i : Int) dz = false := by simpa using hb
          unfold due2
          rw [hf, hdrop, hb']
          rfl
        · have hb' : rowB (rows.length : Int) (i : Int) dz = true := by simpa using hb
          refine ⟨(e3.trans e4).trans e5, ⟨_, _, rfl⟩, ?_⟩
          rw [hf, hdrop, hb']
          rfl
      · rintro σ H3 ⟨e3, ⟨o1, o2, rfl⟩, hf⟩
        have hfn : fb (rows.length : Int) 0 rows = none := by
          rw [hf, hxl, List.drop_length]
          rfl
        have hG := fb_Good hfn
        have edue : due2 rows = sb rows 0 rows := by unfold due2; rw [hfn]
        rw [edue] at kN' kE'
        refine s_forEn (K := K) (v0 (H1 := H3)) (st_of (e3 _ _ h1)) (fun i σ H' => Ex H H' ∧ (∃ o1 o2, σ = [some (.ref a), o1, o2, none]) ∧ sb rows 0 rows = sb rows i (rows.drop i)) (fun H4 e4 => ⟨e3.trans e4, ⟨_, _, rfl⟩, rfl⟩) (fun i σ H' _ p => st_of (p.1 _ _ h1)) ?_ ?_
        · rintro i z T σ H5 hz ⟨e5, ⟨p1, p2, rfl⟩, hs⟩ hT
          obtain ⟨dz, ed1, ed2⟩ := h2.get hz
          have e6 : Ex H5 (upd H5 T (.tup [.int (i : Nat), z])) := Ex.new hT
          refine ⟨T, _, rfl, st_of upd_same, rfl, g_two ?_⟩
          change tIfS _ _ _ _ [some (.ref a), some (.int (i : Nat)), some z, none] _
          have hdrop := sb_drop (rows := rows) (j := 0) ed1
          rw [Nat.zero_add, Nat.zero_add] at hdrop
          obtain ⟨ws, ew, lay, hwl, hways, hw0⟩ := row_lay (hG i dz ed1)
          subst ew
          have hwall : ∀ w ∈ ws, wayB (rows.length : Int) (i : Int) w = true := fun w hw => by
            by_cases hi0 : (i : Int) = 0
            · rw [hw0 hi0] at hw
              cases hw
            · exact List.all_eq_true.mp (hways hi0) w hw
          have ed3 := ed2.mono (e5.trans e6)
          cases ed3 with
          | tup hz1 hz2 =>
            rename_i az zs
            have hzl := hz2.length
            refine s_when (b := !ws.all (restB rows)) (et_not (et_B ?_)) (fun hb H7 e7 => ?_) (fun hb H7 e7 => ?_)
            · have q := ev_allT (K := K) (H := upd H5 T (.tup [.int (i : Nat), .ref az])) (j := 3) (vs := [3]) (σ := [some (.ref a), some (.int (i : Nat)), some (.ref az), none]) (tl := tVar 2) (te := tCall spRest [] E0 (tCons (tVar 0) (tCons (tVar 3) tNil))) (fun k => ((ws[k]?).map (restB rows)).getD false) (ev_var rfl) (st_of hz1) (by omega) (fun x => rfl)
                (fun k x H8 e8 hx => by
                  obtain ⟨dx, e9, e10⟩ := hz2.get hx
                  rw [e9]
                  exact ev_call (ea_cons (ev_var rfl) (ea_cons (ev_var rfl) ea_nil)) (spP_v fun H9 e11 => ⟨.ref a, x, rows, dx, (i : Int), rfl, .tup ((((e5.trans e6).trans e8).trans e11) _ _ h1) (h2.mono (((e5.trans e6).trans e8).trans e11)), (e10.mono e8).mono e11, hwall dx (List.mem_of_getElem? e9), hG, rfl⟩))
              rw [hzl, all_get] at q
              exact q
            · refine mk_err (ev_var rfl) fun dx H' h0 e' hx => kE' (i : Int) ?_ dx H' (fresh_back ((e5.trans e6).trans e7) h0) (((e5.trans e6).trans e7).trans e') hx
              have hb' : ws.all (restB rows) = false := by simpa using hb
              rw [hs, hdrop, show (itemsT (.tuple ws)).all (restB rows) = false from hb']
              rfl
            · have hb' : ws.all (restB rows) = true := by simpa using hb
              refine ⟨(e5.trans e6).trans e7, ⟨_, _, rfl⟩, ?_⟩
              rw [hs, hdrop, show (itemsT (.tuple ws)).all (restB rows) = true from hb']
              rfl
        · rintro σ H5 ⟨e5, ⟨p1, p2, rfl⟩, hs⟩
          refine kN' ?_ H5 e5
          rw [hs, hxl, List.drop_length]
          rfl
end
end Wk

set_option Elab.async false
set_option linter.all false
set_option maxRecDepth 100000
set_option maxHeartbeats 2000000
namespace Wk
open PySem PySem.Spec PyProof.Rows L2 Evl
abbrev FnM (K : PySem.W.Frag) (x q : Str) (st : Stmt) (f : Addr) (fd : FuncData) : Prop := FunD K x q (defArgs st) (defBody st) (defScope st) [] [] f fd
/-- the fields of wishes -/
def wf (n : Int) (v : V) : List (Str × V) := putF "_lists" v (putF "size" (.int n) [])
theorem wf_size (n : Int) (v : V) : (wf n v).lookup ("size" : Str) = some (.int n) := by
  unfold wf
  rw [lookup_putF, if_neg (by decide +kernel), lookup_putF, if_pos rfl]
theorem wf_lists (n : Int) (v : V) : (wf n v).lookup ("_lists" : Str) = some v := by
  unfold wf
  rw [lookup_putF, if_pos rfl]
theorem wf_no (n : Int) (v : V) {m : Str} (h1 : ¬ m = "_lists") (h2 : ¬ m = "size") : (wf n v).lookup m = none := by
  unfold wf
  rw [lookup_putF, if_neg h1, lookup_putF, if_neg h2]
  rfl
section
variable {P : Program} {w : World} {K : PySem.W.Frag} {mg : Str → Option Value} {base : Heap} {f : Addr} {fd : FuncData}
abbrev sXN : Stmt := inClass (top 3) 0
abbrev sXB : Stmt := inClass (top 4) 0
theorem scXN : FnScope ["self", "router"] ["self", "router"] (defScope sXN) := ⟨rfl, rfl, rfl, by decide +kernel, rfl, by decide +kernel, by decide +kernel⟩
theorem scXB : FnScope ["self", "router"] ["self", "router"] (defScope sXB) := ⟨rfl, rfl, rfl, by decide +kernel, rfl, by decide +kernel, by decide +kernel⟩
theorem ok_xn {C : Addr} (T : OexC K C) (no : PySem.W.findIn K (.ref C) "router" = some none) (F : FnM K "__init__" "NoRouter.__init__" sXN f fd) : FnOk P w K mg base CX0 1 f fd ["self", "router"] (spXI C) := by
  refine F.ok scXN (fun vs H Q E h => ?_) (fun cdv A outer s H vs Q E hr h => ?_)
  · obtain ⟨a, y, rfl, _⟩ := h
    rfl
  · obtain ⟨a, y, rfl, ha, k⟩ := h
    exact ⟨_, pss_one (ps_ost (pv 0) (pv 1)), y, rfl, .ref a, rfl, a, C, rfl, T, no, .inl ⟨ha, k⟩⟩
theorem ok_xb {C : Addr} (T : OexC K C) (no : PySem.W.findIn K (.ref C) "router" = some none) (F : FnM K "__init__" "BadWishes.__init__" sXB f fd) : FnOk P w K mg base CX0 1 f fd ["self", "router"] (spXI C) := by
  refine F.ok scXB (fun vs H Q E h => ?_) (fun cdv A outer s H vs Q E hr h => ?_)
  · obtain ⟨a, y, rfl, _⟩ := h
    rfl
  · obtain ⟨a, y, rfl, ha, k⟩ := h
    exact ⟨_, pss_one (ps_ost (pv 0) (pv 1)), y, rfl, .ref a, rfl, a, C, rfl, T, no, .inl ⟨ha, k⟩⟩
/-! Wishes.__init__ -/
structure CalX (P : Program) (w : World) (K : PySem.W.Frag) (mg : Str → Option Value) (base : Heap) (x : Str) (ps : List Str) (k : Nat) (sp : Sp) : Prop where
  ex : ∃ (f : Addr) (fd : FuncData), FnOk P w K mg base (L2.CX P w) k f fd ps sp ∧ mg x = some (.ref f) ∧ PySem.W.keepIn K (.ref f) = true ∧ Binds K fd ps []
def spWI (CW CB : Addr) : Sp := fun vs H Q E => ∃ (G : Hp) (p dx : Addr) (v : V) (d : PyData), vs = [.ref p, v] ∧ H p = some (.ins CW dx []) ∧ Ex G H ∧ G p = none ∧ Dq G v d ∧
  (dueD d = none → ∀ H', Ex G H' → H' p = some (.ins CW dx (wf ((itemsT d).length : Int) v)) → Q .non H') ∧ ∀ r, dueD d = some r → ∀ dx H', H dx = none → Ex H H' → H' dx = some (.xd [("router", .int r)]) → E (.ref CB) (some dx) H'
abbrev sWI : Stmt := inClass (top 60) 0
theorem scWI : FnScope ["self", "lists"] ["self", "lists"] (defScope sWI) := ⟨rfl, rfl, rfl, by decide +kernel, rfl, by decide +kernel, by decide +kernel⟩
theorem due_none {d : PyData} (h : dueD d = none) : isTu d = true ∧ 2 ≤ (itemsT d).length ∧ (itemsT d).length ≤ 8 ∧ due2 (itemsT d) = none := by
  unfold dueD at h
  by_cases c : isTu d = true ∧ 2 ≤ (itemsT d).length ∧ (itemsT d).length ≤ 8
  · rw [if_pos c] at h
    exact ⟨c.1, c.2.1, c.2.2, h⟩
  · rw [if_neg c] at h
    cases h
structure WTx (K : PySem.W.Frag) (mg : Str → Option Value) (CW : Addr) : Prop where
  cl : Cls K CW
  nS : NoAttr K CW "size"
  nL : NoAttr K CW "_lists"
  g : mg "Wishes" = some (.ref CW)
theorem ok_wi {CW CB : Addr} (B : Bl mg) (T : WTx K mg CW) (C : CalX P w K mg base "refuse_wrong_lists" ["lists"] 7 (spRefuse CB)) (F : FnM K "__init__" "Wishes.__init__" sWI f fd) : FnOk P w K mg base (L2.CX P w) 8 f fd ["self", "lists"] (spWI CW CB) := by
  obtain ⟨fR, fdR, FR, gR, kR, bR⟩ := C.ex
  refine F.ok scWI (fun vs H Q E h => ?_) (fun cdv A outer s H vs Q E hr h => ?_)
  · obtain ⟨G, p, dx, v, d, rfl, _⟩ := h
    rfl
  · obtain ⟨G, p, dx, v, d, rfl, hp, eG, gp, hd, kN, kE⟩ := h
    refine ⟨_, pss_cons (ps_expr (pe_call FR hr (by rfl) gR kR bR .nil (passes_call (takes_of rfl rfl rfl rfl) (fun _ _ _ _ h => h)) (pa_cons (pv 1) pa_nil)))
      (pss_cons (ps_fld (pv 0) (pe_callB call_len_seq (by rfl) B.len PySem.boot_len (pa_cons (pv 1) pa_nil)) rfl) (pss_one (ps_fld (pv 0) (pv 1) rfl))), ?_⟩
    refine ⟨v, rfl, v, d, rfl, hd.mono eG, fun hn H1 e1 => ?_, kE⟩
    obtain ⟨ht, hl2, hl8, hdu⟩ := due_none hn
    have hp1 := e1 _ _ hp
    have hd1 := hd.mono (eG.trans e1)
    have kN' := kN hn
    cases hd1 <;> first | (simp [isTu] at ht; done) | skip
    rename_i a xs rows h1 h2
    have npa : a ≠ p := fun z => by rw [z, hp1] at h1; cases h1
    refine ⟨.ref a, rfl, a, xs, rfl, .inr (st_of h1), .ref p, rfl, p, CW, dx, [], rfl, hp1, T.cl, T.nS, (by show 0 < 1000; decide), ?_⟩
    refine ⟨.ref a, rfl, .ref p, rfl, p, CW, dx, _, rfl, upd_same, T.cl, T.nL, (by show 1 < 1000; decide), ?_⟩
    refine kN' _ (fun b o hb => ?_) ?_
    · have nb : b ≠ p := fun z => by rw [z, gp] at hb; cases hb
      rw [upd_ne nb, upd_ne nb]
      exact e1 _ _ (eG _ _ hb)
    · rw [upd_same, h2.length]
      rfl
/-! refuse_no_router -/
def spNoRt (CN : Addr) : Sp := fun vs H Q E => ∃ (n : Int) (v : V) (d : PyData), vs = [.int n, v] ∧ Dq H v d ∧ (isR n d = true → ∀ H', Ex H H' → Q .non H') ∧ (isR n d = false → ∀ dx H', H dx = none → Ex H H' → H' dx = some (.xd [("router", v)]) → E (.ref CN) (some dx) H')
abbrev sNoRt : Stmt := top 17
theorem scNoRt : FnScope ["size", "thing"] ["size", "thing"] (defScope sNoRt) := ⟨rfl, rfl, rfl, by decide +kernel, rfl, by decide +kernel, by decide +kernel⟩
theorem ok_noRt {CN : Addr} (TN : Err P w K mg base "NoRouter" CN) (C : Cal P w K mg base "is_router" ["size", "thing"] 3 spRouter) (F : FnP K "refuse_no_router" sNoRt f fd) : FnOk P w K mg base (L2.CX P w) 4 f fd ["size", "thing"] (spNoRt CN) := by
  refine F.ok scNoRt (fun vs H Q E h => ?_) (fun cdv A outer s H vs Q E hr h => ?_)
  · obtain ⟨n, v, d, rfl, _⟩ := h
    rfl
  · obtain ⟨n, v, d, rfl, hd, kQ, kE⟩ := h
    have hr2 : Room 2 _ := hr.mono (by decide)
    refine ⟨_, pss_one (ps_if (pt_not (pt_val (pe_cal C hr (by rfl) (pa_cons (pv 0) (pa_cons (pv 1) pa_nil))))) (pss_one (ps_raise rfl (takes_of rfl rfl rfl rfl) (pmk_err TN hr2 (by rfl) (pa_cons (pv 1) pa_nil)))) pss_nil), ?_⟩
    refine s_when (b := !isR n d) (et_not (et_B (ev_call (ea_cons (ev_var rfl) (ea_cons (ev_var rfl) ea_nil)) (spP_v fun H1 e => ⟨_, v, d, rfl, hd.mono e, rfl⟩)))) (fun hb H1 e => ?_) (fun hb H1 e => ?_)
    · exact mk_err (ev_var rfl) fun dx H' h0 e' hx => kE (by simpa using hb) dx H' (fresh_back e h0) (e.trans e') hx
    · exact kQ (by simpa using hb) H1 e
/-! Wishes.ways -/
def spWays (CW CN : Addr) : Sp := fun vs H Q E => ∃ (p dx : Addr) (lv v : V) (d : PyData) (rows : List PyData), vs = [.ref p, v] ∧ H p = some (.ins CW dx (wf (rows.length : Int) lv)) ∧ Dq H lv (.tuple rows) ∧ Dq H v d ∧
  (isR (rows.length : Int) d = true → ∀ v' row H', rows[(valI d).toNat]? = some row → Dq H v' row → Ex H H' → Q v' H') ∧ (isR (rows.length : Int) d = false → ∀ dx H', H dx = none → Ex H H' → H' dx = some (.xd [("router", v)]) → E (.ref CN) (some dx) H')
abbrev sWays : Stmt := inClass (top 60) 2
theorem scWays : FnScope ["self", "router"] ["self", "router"] (defScope sWays) := ⟨rfl, rfl, rfl, by decide +kernel, rfl, by decide +kernel, by decide +kernel⟩
theorem ok_ways {CW CN : Addr} (T : WTx K mg CW) (C : CalX P w K mg base "refuse_no_router" ["size", "thing"] 4 (spNoRt CN)) (F : FnM K "ways" "Wishes.ways" sWays f fd) : FnOk P w K mg base (L2.CX P w) 5 f fd ["self", "router"] (spWays CW CN) := by
  obtain ⟨fR, fdR, FR, gR, kR, bR⟩ := C.ex
  refine F.ok scWays (fun vs H Q E h => ?_) (fun cdv A outer s H vs Q E hr h => ?_)
  · obtain ⟨p, dx, lv, v, d, rows, rfl, _⟩ := h
    rfl
  · obtain ⟨p, dx, lv, v, d, rows, rfl, hp, hl, hd, kQ, kE⟩ := h
    have hr2 : Room 2 _ := hr.mono (by decide)
    refine ⟨_, pss_cons (ps_expr (pe_call FR hr (by rfl) gR kR bR .nil (passes_call (takes_of rfl rfl rfl rfl) (fun _ _ _ _ h => h)) (pa_cons (pe_fld (pv 0) rfl) (pa_cons (pv 1) pa_nil))))
      (pss_one (ps_ret (pe_ix ix_tup (pe_fld (pv 0) rfl) (pv 1) (fun _ _ => rfl)))), ?_⟩
    have v1 : ∀ {H1 : Hp}, Ev (tVar 1) (start ["self", "router"] [.ref p, v]) H1 v := ev_var rfl
    have fS : Ev (tFld K (tVar 0) "size") (start ["self", "router"] [.ref p, v]) H (.int (rows.length : Int)) := fun H1 e Q2 q => ⟨.ref p, rfl, p, CW, dx, _, _, rfl, e _ _ hp, T.cl, T.nS, wf_size _ _, q H1 (Ex.refl H1)⟩
    refine ⟨.ref p, rfl, p, CW, dx, _, _, rfl, hp, T.cl, T.nS, wf_size _ _, v, rfl, _, v, d, rfl, hd, fun hR H1 e => ?_, fun hb dx' H' h0 e' hx => kE hb dx' H' h0 e' hx⟩
    · skip
      have hR' := hR
      unfold isR at hR'
      simp only [Bool.and_eq_true, decide_eq_true_eq] at hR'
      obtain ⟨hi, h0, hn⟩ := hR'
      have ei := isI_eq hi
      generalize valI d = j at *
      subst ei
      cases hd
      cases hl with
      | tup ha hx =>
        rename_i a xs
        have hjl : j.toNat < rows.length := by omega
        have hrow : rows[j.toNat]? = some rows[j.toNat] := List.getElem?_eq_getElem hjl
        obtain ⟨rv, hrv, hdr⟩ := hx.at hrow
        have hat : atI xs j = some rv := by
          have q := atI_nat (j := j.toNat) hrv
          rw [Int.toNat_of_nonneg h0] at q
          exact q
        have fL : Ev (tFld K (tVar 0) "_lists") (start ["self", "router"] [.ref p, .int j]) H1 (.ref a) := fun H2 e2 Q2 q => ⟨.ref p, rfl, p, CW, dx, _, _, rfl, e2 _ _ (e _ _ hp), T.cl, T.nL, wf_lists _ _, q H2 (Ex.refl H2)⟩
        exact s_ret (ev_op fL v1 (rv_ixT (st_of (e _ _ ha)) hat)) fun H2 e2 => kQ hR rv _ H2 hrow hdr (e.trans e2)
end
end Wk

set_option Elab.async false
set_option linter.all false
set_option maxRecDepth 100000
set_option maxHeartbeats 4000000
namespace Wk
open PySem PySem.Spec PyProof.Rows L2 Evl SeqAt
/-! == of a sequence and the empty one: by the lengths alone -/
section
variable {X : Cx}
def rEqEL (K : PySem.W.Frag) : R2 := fun x y H Q => ∃ a b xs, x = .ref a ∧ y = .ref b ∧ SqL K H a xs ∧ SqL K H b [] ∧ Q (.bl xs.isEmpty) H
theorem op_eqEL (hu : X.A.units < cLine) : OpR X (compareOp .Eq) (rEqEL X.K) := fun pins s σ H x y v u Q I rx ry h => by
  obtain ⟨a, b, xs, rfl, rfl, ha, hb, q⟩ := h
  cases rx
  cases ry
  obtain ⟨its, r1, p1, _⟩ := I.list ha
  obtain ⟨its2, r2, p2, _⟩ := I.list hb
  cases r2
  cases r1 with
  | nil => exact eq_listAt (e := fun _ => true) p1.isList p2.isList rfl hu (fun j h1 _ => absurd h1 (by simp)) ⟨.bl true, H, I, rfl, q⟩
  | cons r rr => exact eq_list_lengthsAt p1.isList p2.isList (by simp) hu ⟨.bl false, H, I, rfl, q⟩
def rEqEU (K : PySem.W.Frag) : R2 := fun x y H Q => ∃ a b xs, x = .ref a ∧ y = .ref b ∧ SqT K H a xs ∧ SqT K H b [] ∧ Q (.bl xs.isEmpty) H
theorem op_eqEU (hu : X.A.units < cLine) : OpR X (compareOp .Eq) (rEqEU X.K) := fun pins s σ H x y v u Q I rx ry h => by
  obtain ⟨a, b, xs, rfl, rfl, ha, hb, q⟩ := h
  cases rx
  cases ry
  obtain ⟨its, r1, p1, _⟩ := I.tuple ha
  obtain ⟨its2, r2, p2, _⟩ := I.tuple hb
  cases r2
  refine eq_tupleAt (e := fun _ => true) p1 p2 hu (fun j _ h2 => absurd h2 (by simp)) ⟨.bl xs.isEmpty, H, I, ?_, q⟩
  cases r1 <;> rfl
def rNeEU (K : PySem.W.Frag) : R2 := fun x y H Q => ∃ a b xs, x = .ref a ∧ y = .ref b ∧ SqT K H a xs ∧ SqT K H b [] ∧ Q (.bl (!xs.isEmpty)) H
theorem op_neEU (hu : X.A.units < cLine) : OpR X (compareOp .NotEq) (rNeEU X.K) := fun pins s σ H x y v u Q I rx ry h => by
  obtain ⟨a, b, xs, rfl, rfl, ha, hb, q⟩ := h
  cases rx
  cases ry
  obtain ⟨its, r1, p1, _⟩ := I.tuple ha
  obtain ⟨its2, r2, p2, _⟩ := I.tuple hb
  cases r2
  refine RcNeAt.tuples (e := fun _ => true) p1 p2 hu (fun j _ h2 => absurd h2 (by simp)) X.prog X.w _ _ ⟨.bl (!xs.isEmpty), H, I, ?_, q⟩
  cases r1 <;> rfl
end
/-! a dict and a tuple are unlike -/
theorem dictEqTup (l b : Addr) (o : Obj) (hoc : o.cls = .type "dict") (its : Array Value) (n : Nat) (dd : Option Addr) (sl : Array (Option Value)) :
    Meets (Builtin.«dict.__eq__» ⟨[.ref l, .ref b], []⟩) (fun _ R s => s.heap.get? l = some o ∧ s.heap.get? b = some { cls := .type "tuple", dict := dd, data := .seq its n, slots := sl } ∧ R (.ok (.ret .notImplemented)) s) :=
  .of_wp fun prog w A R s h => by
    obtain ⟨hp, g, d, tk, os⟩ := s
    obtain ⟨hl, hb, h⟩ := h
    obtain ⟨oc, od, dt, os2⟩ := o
    simp only at hoc
    subst hoc
    have f1 := F.sub_tuple_dict
    wp_walk using wpAny_loadPart' hl, wpAny_loadPart' hb
    exact ⟨_, rfl, h⟩
theorem tupEqDict (l b : Addr) (o : Obj) (hoc : o.cls = .type "dict") (its : Array Value) (n : Nat) (dd : Option Addr) (sl : Array (Option Value)) :
    Meets (Builtin.«tuple.__eq__» ⟨[.ref b, .ref l], []⟩) (fun _ R s => s.heap.get? b = some { cls := .type "tuple", dict := dd, data := .seq its n, slots := sl } ∧ s.heap.get? l = some o ∧ R (.ok (.ret .notImplemented)) s) :=
  .of_wp fun prog w A R s h => by
    obtain ⟨hp, g, d, tk, os⟩ := s
    obtain ⟨hb, hl, h⟩ := h
    obtain ⟨oc, od, dt, os2⟩ := o
    simp only at hoc
    subst hoc
    have f1 := F.sub_dict_tuple
    wp_walk using wpAny_loadPart' hl, wpAny_loadPart' hb
    exact ⟨_, rfl, h⟩
section
variable {A : Around} {s : Shared}
theorem eqAt_dictTup {l b : Addr} {o : Obj} {its : Array Value} (hl : s.heap.get? l = some o) (hoc : o.cls = .type "dict") (hb : s.heap.IsTuple b its) (hu : A.units < cLine) : EqAt A s (.ref l) (.ref b) false := by
  obtain ⟨⟨c2, dd, dt, sl⟩, ho2, hc2, n, hd2⟩ := hb
  simp only at hc2 hd2
  subst hc2 hd2
  have hne : l ≠ b := fun z => by
    rw [z, ho2] at hl
    cases hl
    exact absurd hoc (by simp)
  refine EqAt.of_refs hne fun prog w E Q h => ?_
  exact rc_eq_decline_or (k := false) ⟨_, hl, hoc⟩ ⟨_, ho2, rfl⟩ (by decide) F.sub_tuple_dict F.slot_dict_eq F.slot_tuple_eq_refl
    (fun _ hq => call_meets F.slot_dict_eq ⟨_, hl, hoc⟩ F.entry_dict_eq (F.args_dict_eq_2 _ _) (dictEqTup l b o hoc its n dd sl) ⟨hl, ho2, hq⟩)
    (fun _ hq => call_meets F.slot_tuple_eq_refl ⟨_, ho2, rfl⟩ F.entry_tuple_eq (F.args_tuple_eq_2 _ _) (tupEqDict l b o hoc its n dd sl) ⟨ho2, hl, hq⟩)
    (fun _ hq => wpAny_isSame_ref_other hne hl ho2 (by rw [hoc]; simp) hq) (.inr hu) h
end
/-- an item of an edited row -/
def Itm (d : PyData) : Prop := d = .dict [] ∨ (d.canLay0 = true ∧ d.depth ≤ 8)
section
variable {X : Cx}
/-- x not in l, l a list of such items, x a tuple: a flag -/
def rNotInX (K : PySem.W.Frag) : R2 := fun x y H Q => ∃ a p ds vs es, x = .ref a ∧ y = .ref p ∧ H p = some (.lst vs) ∧ DqA H vs ds ∧ (∀ d ∈ ds, Itm d) ∧ Dq H (.ref a) (.tuple es) ∧ PyData.canLay0 (.tuple es) = true ∧ ∀ b : Bool, Q (.bl b) H
theorem op_notInX (hu : X.A.units + 66 < cLine) : OpR X (compareOp .NotIn) (rNotInX X.K) := fun pins s σ H x y v u Q I rx ry h => by
  obtain ⟨a, p, ds, vs, es, rfl, rfl, hp, hds, hi, hx, cx, q⟩ := h
  cases rx
  cases ry
  obtain ⟨its, r1, p1, _⟩ := I.list (sq_of hp)
  have hxp := hx
  cases hxp with
  | tup h1 h2 =>
    obtain ⟨as, rx⟩ := Dp.reads I (.tuple es) (.ref a) (.ref a) (Dq.dp (K := X.K) cx hx) rfl
    obtain ⟨its2, r2, p2, _⟩ := I.tuple (st_of h1)
    have key : ∀ y ∈ its, ∃ b, EqAt X.A.in1 s y (.ref a) b := fun y hy => by
      obtain ⟨i, hiy⟩ := List.mem_iff_getElem?.mp hy
      have hil : i < vs.length := by
        have := (List.getElem?_eq_some_iff.mp hiy).1
        rw [r1.length]; exact this
      have hv : vs[i]? = some vs[i] := List.getElem?_eq_getElem hil
      obtain ⟨u2, hu2, ru⟩ := r1.get hv
      rw [hiy] at hu2
      cases hu2
      obtain ⟨d, ed, hd⟩ := hds.get hv
      rcases hi d (List.mem_of_getElem? ed) with z | ⟨z, zd⟩
      · subst z
        generalize hvv : vs[i] = vv at *
        cases hd with
        | dic hdd =>
          cases ru
          obtain ⟨_, _, vs2, _, o, es2, ep, g1, g2, _⟩ := (show ObjOk X.prog X.w H s.heap _ (.dK []) from I.hok _ _ hdd)
          exact ⟨false, eqAt_dictTup g1 g2.1 p2 (by show X.A.in1.units < cLine; simp; omega)⟩
      · obtain ⟨bs, ry⟩ := Dp.reads I d vs[i] y (Dq.dp (K := X.K) z hd) ru
        exact ⟨_, eqAt_reads d (.tuple es) X.A.in1 s y (.ref a) bs as ry rx z cx (by
          have hm := Nat.min_le_left d.depth (PyData.tuple es).depth
          show X.A.in1.units + _ < cLine
          simp
          omega)⟩
    have key2 : ∃ e : Value → Bool, ∀ y, y ∈ its.toArray → EqAt X.A.in1 s y (.ref a) (e y) := by
      refine ⟨fun y => @decide (EqAt X.A.in1 s y (.ref a) true) (Classical.propDecidable _), fun y hy => ?_⟩
      obtain ⟨b, hb⟩ := key y (by simpa using hy)
      by_cases c : EqAt X.A.in1 s y (.ref a) true
      · simp only [c, decide_true]
      · simp only [c, decide_false]
        cases b with
        | false => exact hb
        | true => exact absurd hb c
    obtain ⟨e, he⟩ := key2
    exact notIn_listAt e p1.isList he ⟨.bl _, H, I, rfl, q _⟩
end
end Wk

set_option Elab.async false
set_option linter.all false
set_option maxRecDepth 100000
set_option maxHeartbeats 2000000
namespace Wk
open PySem PySem.Spec PyProof.Rows L2 Evl
theorem eqv_ints : ∀ a b : List Int, PyData.eqvAll (a.map PyData.int) (b.map PyData.int) = decide (a = b)
  | [], [] => by simp [PyData.eqvAll]
  | [], _ :: _ => by simp [PyData.eqvAll]
  | _ :: _, [] => by simp [PyData.eqvAll]
  | x :: a, y :: b => by
    have ih := eqv_ints a b
    simp only [List.map_cons, PyData.eqvAll, PyData.eqv, ih]
    by_cases h : x = y
    · subst h; simp
    · have : (x == y) = false := by simpa using h
      simp [this, h]
theorem eqv_way {n r m q : Int} {d e : PyData} (h1 : wayB n r d = true) (h2 : wayB m q e = true) : PyData.eqv d e = decide (rts d = rts e) := by
  have e1 := (way_ints h1).1
  have e2 := (way_ints h2).1
  generalize hx : rts d = a at *
  generalize hy : rts e = b at *
  rw [e1, e2]
  show PyData.eqvAll _ _ = _
  exact eqv_ints a b
theorem inV_ints (x : Int) : ∀ ns : List Int, inV (.int x) (ns.map V.int) = decide (x ∈ ns)
  | [] => rfl
  | n :: ns => by
    have ih := inV_ints x ns
    unfold inV at *
    rw [List.map_cons, List.any_cons, ih]
    show ((n == x) || _) = _
    by_cases h : n = x
    · subst h; simp
    · have : (n == x) = false := by simpa using h
      rw [this]
      simp [Ne.symm h]
theorem cut_to (xs : List V) (i : Nat) (h : i ≤ xs.length) : cutV xs none (some (i : Int)) = xs.take i := by
  unfold cutV
  rw [HT.sIx_none, HT.sIx_nat, Nat.min_eq_left h]
  simp
theorem flat_ints (ns : List Int) : (ns.map V.int).all flatV = true := by
  rw [List.all_map, List.all_eq_true]
  intro x _
  rfl
theorem nd_take {α : Type} : ∀ {l : List α} {i : Nat} {x : α}, l.Nodup → l[i]? = some x → x ∉ l.take i
  | [], i, x, _, h, _ => by simp at h
  | y :: l, 0, x, _, _, hm => by simp at hm
  | y :: l, i + 1, x, hn, h, hm => by
    have hn' := List.nodup_cons.mp hn
    have h' : l[i]? = some x := by simpa using h
    rcases List.mem_cons.mp (show x ∈ y :: l.take i from hm) with e | e
    · exact hn'.1 (e ▸ List.mem_of_getElem? h')
    · exact nd_take hn'.2 h' e
theorem nd_snoc {α : Type} {l : List α} {x : α} (h : l.Nodup) (hx : x ∉ l) : (l ++ [x]).Nodup := by
  unfold List.Nodup
  rw [List.pairwise_append]
  refine ⟨h, List.pairwise_singleton _ _, fun a ha b hb => ?_⟩
  rw [List.mem_singleton] at hb
  intro e
  rw [← hb, ← e] at hx
  exact hx ha
theorem take_snoc {α : Type} {l : List α} {i : Nat} {x : α} (h : l[i]? = some x) : l.take (i + 1) = l.take i ++ [x] := by
  rw [List.take_add_one, h]
  rfl
theorem ev_inS {K : PySem.W.Frag} {σ : L2.St} {H : Hp} {ta tb : TE} {x : V} {xs : List V} (ha : Ev ta σ H x) (hb : EvS tb σ H xs) (hx : flatV x = true) (hf : xs.all flatV = true) : Ev (tOp (rIn K false) ta tb) σ H (.bl (inV x xs)) := fun H1 e Q q =>
  ha H1 e _ fun H2 e2 => hb H2 (e.trans e2) _ fun p H3 e3 hp => ⟨p, xs, rfl, .inr (st_of hp), hx, hf, q H3 (e2.trans e3)⟩
theorem any_rts {n r : Int} {d : PyData} (hd : wayB n r d = true) : ∀ {ds : List PyData}, ds.all (wayB n r) = true → (ds.any fun z => PyData.eqv z d) = decide (rts d ∈ ds.map rts)
  | [], _ => rfl
  | x :: ds, h => by
    have h' : wayB n r x = true ∧ ds.all (wayB n r) = true := by simpa using h
    rw [List.any_cons, any_rts hd h'.2, eqv_way h'.1 hd, List.map_cons]
    by_cases c : rts x = rts d
    · rw [decide_eq_true c, Bool.true_or]
      exact (decide_eq_true (by rw [c]; exact List.mem_cons_self)).symm
    · rw [decide_eq_false c, Bool.false_or]
      rw [decide_eq_decide]
      constructor
      · exact fun z => List.mem_cons_of_mem _ z
      · intro z
        rcases List.mem_cons.mp z with e | e
        · exact absurd e.symm c
        · exact e
theorem way_second {n r : Int} {w : PyData} (h : wayB n r w = true) : (rts w).getD 1 0 = 0 ↔ (rts w).length = 2 := by
  obtain ⟨_, _, h2, _, _, hlast, hnd⟩ := way_ints h
  generalize rts w = ns at *
  cases ns with
  | nil => simp at h2
  | cons a l =>
    cases l with
    | nil => simp at h2
    | cons b l =>
      cases l with
      | nil =>
        simp at hlast
        simp [hlast]
      | cons c l =>
        have hb : b ∉ c :: l := (List.nodup_cons.mp (List.nodup_cons.mp hnd).2).1
        have h0 : (0 : Int) ∈ c :: l := by
          have e : (c :: l).getLast? = some 0 := by
            rw [← hlast]
            simp [List.getLast?_cons_cons]
          exact List.mem_of_getLast? e
        constructor
        · intro z
          have z' : b = 0 := z
          rw [z'] at hb
          exact absurd h0 hb
        · intro z
          simp at z
/-- None, or the router -/
def dueV (o : Option Int) : V := match o with
  | none => .non
  | some r => .int r
/-- plain data: ints, texts, tuples of such -/
inductive Smp : Nat → PyData → Prop
  | int (n : Nat) (i : Int) : Smp n (.int i)
  | str (n : Nat) (z : Str) : Smp n (.str z)
  | tup (n : Nat) (ds : List PyData) : (∀ d ∈ ds, Smp n d) → ds.length ≤ 100 → Smp (n + 1) (.tuple ds)
section
variable {K : PySem.W.Frag} {σ : L2.St} {H : Hp} {ta : TE}
theorem ev_isi2 {v : V} {d : PyData} {n m : String} {b c : Bool} (h : Ev ta σ H v) (hd : Dq H v d) (h1 : kitB (tyN d) n = some b) (h2 : kitB (tyN d) m = some c) :
    Ev (tCB (rIsiT K) (tCons ta (tCons (tTup (tCons (tC (.ty n)) (tCons (tC (.ty m)) tNil))) tNil))) σ H (.bl (b || c)) := fun H1 e Q q =>
  h H1 e _ fun H2 e2 => ⟨by show 2 ≤ sizeLine; decide, fun p hp => ⟨v, p, [.ty n, .ty m], .type (tyN d), [.type n, .type m], b || c, rfl, upd_same, .cons (.ty n) (.cons (.ty m) .nil), (hd.mono ((e.trans e2).trans (Ex.new hp))).ty,
    kitAny_cons (kit_ty h1) (fun hb => kitAny_cons (kit_ty h2) (fun hc => by rw [hb, hc]; exact kitAny_nil) (fun hc => by rw [hc]; simp)) (fun hb => by rw [hb]; rfl), q _ (e2.trans (Ex.new hp))⟩⟩
end
theorem k_tl : kitB "tuple" "list" = some false := by decide +kernel
theorem k_tt : kitB "tuple" "tuple" = some true := by decide +kernel
theorem k_il : kitB "int" "list" = some false := by decide +kernel
theorem k_it : kitB "int" "tuple" = some false := by decide +kernel
theorem k_sl : kitB "str" "list" = some false := by decide +kernel
theorem k_st : kitB "str" "tuple" = some false := by decide +kernel
theorem k_ii : kitB "int" "int" = some true := by decide +kernel
theorem k_ib : kitB "int" "bool" = some false := by decide +kernel
theorem k_si : kitB "str" "int" = some false := by decide +kernel
theorem k_ss : kitB "str" "str" = some true := by decide +kernel
/-! the pool of numbers: the list at p with a count and the list at q of cells; G is what stays -/
structure Pl (G H : Hp) (p q : Addr) : Prop where
  ex : Ex G H
  gp : G p = none
  gq : G q = none
  ne : p ≠ q
  at_ : ∃ (n : Int) (cs : List Int), H p = some (.lst [.int n, .ref q]) ∧ H q = some (.lst (cs.map V.int)) ∧ cs ≠ [] ∧ cs.length ≤ 63
theorem Pl.np {G H : Hp} {p q a : Addr} (h : Pl G H p q) (ha : H a = none) : a ≠ p := fun z => by
  obtain ⟨n, cs, h1, _⟩ := h.at_
  rw [z, h1] at ha
  cases ha
theorem Pl.nq {G H : Hp} {p q a : Addr} (h : Pl G H p q) (ha : H a = none) : a ≠ q := fun z => by
  obtain ⟨n, cs, _, h2, _⟩ := h.at_
  rw [z, h2] at ha
  cases ha
theorem Pl.ext {G H H' : Hp} {p q : Addr} (h : Pl G H p q) (e : Ex H H') : Pl G H' p q := by
  obtain ⟨n, cs, h1, h2, r⟩ := h.at_
  exact ⟨h.ex.trans e, h.gp, h.gq, h.ne, n, cs, e _ _ h1, e _ _ h2, r⟩
/-- a new object that stays -/
theorem Pl.new {G H : Hp} {p q a : Addr} {o : HO} (h : Pl G H p q) (ha : H a = none) : Pl (upd G a o) (upd H a o) p q := by
  obtain ⟨n, cs, h1, h2, r⟩ := h.at_
  have np := h.np ha
  have nq := h.nq ha
  refine ⟨fun b u hb => ?_, by rw [upd_ne (Ne.symm np)]; exact h.gp, by rw [upd_ne (Ne.symm nq)]; exact h.gq, h.ne, n, cs, by rw [upd_ne (Ne.symm np)]; exact h1, by rw [upd_ne (Ne.symm nq)]; exact h2, r⟩
  by_cases c : b = a
  · rw [c, upd_same] at hb ⊢
    exact hb
  · rw [upd_ne c] at hb ⊢
    exact h.ex _ _ hb
/-- an object that does not stay is changed -/
theorem Pl.mut {G H : Hp} {p q a : Addr} {o : HO} (h : Pl G H p q) (ga : G a = none) (np : a ≠ p) (nq : a ≠ q) : Pl G (upd H a o) p q := by
  obtain ⟨n, cs, h1, h2, r⟩ := h.at_
  exact ⟨Ex.mut h.ex ga, h.gp, h.gq, h.ne, n, cs, by rw [upd_ne (Ne.symm np)]; exact h1, by rw [upd_ne (Ne.symm nq)]; exact h2, r⟩
/-- what an object holds now stays for a while -/
theorem Pl.hold {G H : Hp} {p q a : Addr} {o : HO} (h : Pl G H p q) (ha : H a = some o) (np : a ≠ p) (nq : a ≠ q) : Pl (upd G a o) H p q := by
  refine ⟨fun b u hb => ?_, by rw [upd_ne (Ne.symm np)]; exact h.gp, by rw [upd_ne (Ne.symm nq)]; exact h.gq, h.ne, h.at_⟩
  by_cases c : b = a
  · rw [c, upd_same] at hb
    cases hb
    rw [c]
    exact ha
  · rw [upd_ne c] at hb
    exact h.ex _ _ hb
/-- less stays -/
theorem Pl.less {G G' H : Hp} {p q : Addr} (h : Pl G H p q) (e : Ex G' G) : Pl G' H p q := ⟨e.trans h.ex, fresh_back e h.gp, fresh_back e h.gq, h.ne, h.at_⟩
theorem Ex.upd2 {G : Hp} {a : Addr} {o : HO} (h : G a = none) : Ex G (upd G a o) := Ex.new h
/-- all but the pool stays -/
def Off (p q : Addr) (H H' : Hp) : Prop := ∀ b o, b ≠ p → b ≠ q → H b = some o → H' b = some o
theorem Off.refl (p q : Addr) (H : Hp) : Off p q H H := fun _ _ _ _ h => h
theorem Off.trans {p q : Addr} {H H1 H2 : Hp} (a : Off p q H H1) (b : Off p q H1 H2) : Off p q H H2 := fun c o h1 h2 h => b c o h1 h2 (a c o h1 h2 h)
theorem Off.ex {p q : Addr} {H H1 : Hp} (e : Ex H H1) : Off p q H H1 := fun c o _ _ h => e c o h
open Classical in
noncomputable def Hd (H : Hp) (p q : Addr) : Hp := fun b => if b = p ∨ b = q then none else H b
theorem hd_none {H : Hp} {p q a : Addr} (h : Hd H p q a = none) (hp : a ≠ p) (hq : a ≠ q) : H a = none := by
  unfold Hd at h
  rw [if_neg (by simp [hp, hq])] at h
  exact h
theorem Pl.hd {G H : Hp} {p q : Addr} (h : Pl G H p q) : Pl (Hd H p q) H p q :=
  ⟨fun b o hb => by
    unfold Hd at hb
    split at hb
    · cases hb
    · exact hb, by unfold Hd; rw [if_pos (.inl rfl)], by unfold Hd; rw [if_pos (.inr rfl)], h.ne, h.at_⟩
theorem Pl.off {H H' : Hp} {p q : Addr} (h : Pl (Hd H p q) H' p q) : Off p q H H' := fun b o hp hq hb => h.ex b o (by unfold Hd; rw [if_neg (by simp [hp, hq])]; exact hb)
theorem Pl.back {G H H' : Hp} {p q : Addr} (h0 : Pl G H p q) (h : Pl (Hd H p q) H' p q) : Pl G H' p q := h.less fun b o hb => by
  have hp : b ≠ p := fun z => by rw [z, h0.gp] at hb; cases hb
  have hq : b ≠ q := fun z => by rw [z, h0.gq] at hb; cases hb
  unfold Hd
  rw [if_neg (by simp [hp, hq])]
  exact h0.ex _ _ hb
theorem eraseIdx_mp {α β : Type} (f : α → β) : ∀ (l : List α) (k : Nat), (l.map f).eraseIdx k = (l.eraseIdx k).map f
  | [], _ => rfl
  | _ :: _, 0 => rfl
  | x :: l, k + 1 => by
    show f x :: (l.map f).eraseIdx k = f x :: (l.eraseIdx k).map f
    rw [eraseIdx_mp f l k]
theorem seqIx {k n : Nat} (h : k < n) : seqIndex? (k : Int) n = some k := by
  have q := ixN_seq (n := n) (i := (k : Int)) (j := k) (by
    unfold ixN
    rw [if_pos (by omega), if_pos (by omega)]
    simp)
  exact q.1
theorem ix_listK {X : Cx} {K : PySem.W.Frag} (hK : X.K = K) : IxR X (rIxL K) := by
  subst hK
  exact ix_list
theorem ixNat {n : Nat} {x : Int} (h0 : 0 ≤ x) (h1 : x < n) : ixN n x = some x.toNat := by
  unfold ixN
  rw [if_pos h0, if_pos h1]
theorem at_ints {os : List Int} {j : Nat} (h : j < os.length) : atI (os.map V.int) (j : Int) = some (.int os[j]) := atI_nat (by rw [List.getElem?_map, List.getElem?_eq_getElem h]; rfl)
theorem g_name {i : Nat} {x : V} {σ : L2.St} {H : Hp} {k : L2.St → Hp → Prop} (h : k (σ.set i (some x)) H) : gName i x σ H k := h
theorem asg_lst1 {te : TE} {g : TG} {D : Ends} {σ : L2.St} {H : Hp} (h : te σ H fun x H1 => 1 ≤ sizeLine ∧ ∀ b, H1 b = none → g (.ref b) σ (upd H1 b (.lst [x])) D.nx) : tAsg (tLst (tCons te tNil)) g D σ H := h
theorem cb1 {r : List V → Hp → VK → Prop} {ta : TE} {σ : L2.St} {H : Hp} {Q : VK} (h : ta σ H fun x H1 => r [x] H1 Q) : tCB r (tCons ta tNil) σ H Q := h
theorem q_c {i : Nat} {v : V} {tz : TS} {D : Ends} {σ : L2.St} {H : Hp} (h : tz D (σ.set i (some v)) H) : tSeq (tAsg (tC v) (gName i)) tz D σ H := h
theorem call_tupleK {X : Cx} {K : PySem.W.Frag} (hK : X.K = K) : CallR X (.type "tuple") (fun xs H Q => ∃ p ys, xs = [.ref p] ∧ ((SqL K H p ys ∧ ∀ l, H l = none → Q (.ref l) (upd H l (.tup ys))) ∨ (SqT K H p ys ∧ Q (.ref p) H))) := by
  subst hK
  exact call_tuple_of
theorem ret_cb {r : List V → Hp → VK → Prop} {ta : TE} {D : Ends} {σ : L2.St} {H : Hp} (h : ta σ H fun x H1 => r [x] H1 D.rt) : tRet (tCB r (tCons ta tNil)) D σ H := h
/-! what stays grows by new things only -/
structure Gr (p q : Addr) (G H G' H' : Hp) : Prop where
  ex : Ex G G'
  nw : ∀ b, G b = none → H b ≠ none → G' b = none
  off : Off p q H H'
  pl : Pl G' H' p q
theorem Gr.refl {p q : Addr} {G H : Hp} (h : Pl G H p q) : Gr p q G H G H := ⟨Ex.refl _, fun _ h _ => h, Off.refl _ _ _, h⟩
theorem Gr.trans {p q : Addr} {G H G1 H1 G2 H2 : Hp} (a : Gr p q G H G1 H1) (b : Gr p q G1 H1 G2 H2) : Gr p q G H G2 H2 := by
  refine ⟨a.ex.trans b.ex, fun c hc hh => ?_, a.off.trans b.off, b.pl⟩
  by_cases cp : c = p
  · rw [cp]; exact b.pl.gp
  by_cases cq : c = q
  · rw [cq]; exact b.pl.gq
  refine b.nw c (a.nw c hc hh) ?_
  cases hx : H c with
  | none => exact absurd hx hh
  | some o => rw [a.off c o cp cq hx]; simp
theorem Gr.new {p q t : Addr} {G H : Hp} {o : HO} (h : Pl G H p q) (ht : H t = none) : Gr p q G H (upd G t o) (upd H t o) := by
  refine ⟨Ex.new (fresh_back h.ex ht), fun b hb hh => ?_, Off.ex (Ex.new ht), h.new ht⟩
  have nb : b ≠ t := fun z => hh (by rw [z]; exact ht)
  rw [upd_ne nb]
  exact hb
theorem Gr.ext {p q : Addr} {G H H' : Hp} (h : Pl G H p q) (e : Ex H H') : Gr p q G H G H' := ⟨Ex.refl _, fun _ h _ => h, Off.ex e, h.ext e⟩
theorem Gr.draw {p q : Addr} {G H H' : Hp} (h : Pl G H p q) (h' : Pl (Hd H p q) H' p q) : Gr p q G H G H' := ⟨Ex.refl _, fun _ h _ => h, h'.off, h.back h'⟩
/-! displays -/
def EvDt (p q : Addr) (te : TE) (σ : L2.St) (d : PyData) : Prop := ∀ G H, Pl G H p q → ∀ Q : VK, (∀ G' H' v, Gr p q G H G' H' → Dq G' v d → Q v H') → te σ H Q
def EvDA (p q : Addr) (ta : TA) (σ : L2.St) (ds : List PyData) : Prop := ∀ G H, Pl G H p q → ∀ Q : List V → Hp → Prop, (∀ G' H' vs, Gr p q G H G' H' → DqA G' vs ds → Q vs H') → ta σ H Q
section
variable {p q : Addr} {σ : L2.St} {te tb : TE} {ta : TA} {d : PyData} {ds es : List PyData}
theorem ed_c {v : V} (h : ∀ G, Dq G v d) : EvDt p q (tC v) σ d := fun G H hP Q k => k G H v (Gr.refl hP) (h G)
theorem ed_int {i : Nat} {x : Int} (h : σ[i]? = some (some (.int x))) : EvDt p q (tVar i) σ (.int x) := fun G H hP Q k => ⟨.int x, h, k G H _ (Gr.refl hP) (.int x)⟩
theorem ed_nil : EvDA p q tNil σ [] := fun G H hP Q k => k G H [] (Gr.refl hP) .nil
theorem ed_cons (h : EvDt p q te σ d) (hr : EvDA p q ta σ ds) : EvDA p q (tCons te ta) σ (d :: ds) := fun G H hP Q k =>
  h G H hP _ fun G1 H1 v g1 hv => hr G1 H1 g1.pl _ fun G2 H2 vs g2 hvs => k G2 H2 (v :: vs) (g1.trans g2) (.cons (hv.mono g2.ex) hvs)
theorem ed_tup (h : EvDA p q ta σ ds) (hl : ds.length ≤ 1000) : EvDt p q (tTup ta) σ (.tuple ds) := fun G H hP Q k =>
  h G H hP _ fun G1 H1 vs g1 hvs => ⟨by have := hvs.length; rw [sizeLine_eq]; omega, fun t ht => k (upd G1 t (.tup vs)) _ (.ref t) (g1.trans (Gr.new g1.pl ht)) (.tup upd_same (hvs.mono (Gr.new (o := .tup vs) g1.pl ht).ex))⟩
theorem ed_lst (h : EvDA p q ta σ ds) (hl : ds.length ≤ 1000) : EvDt p q (tLst ta) σ (.list ds) := fun G H hP Q k =>
  h G H hP _ fun G1 H1 vs g1 hvs => ⟨by have := hvs.length; rw [sizeLine_eq]; omega, fun t ht => k (upd G1 t (.lst vs)) _ (.ref t) (g1.trans (Gr.new g1.pl ht)) (.lst upd_same (hvs.mono (Gr.new (o := .lst vs) g1.pl ht).ex))⟩
theorem ed_dict : EvDt p q tDNewK σ (.dict []) := fun G H hP Q k t ht => k (upd G t (.dK [])) _ (.ref t) (Gr.new hP ht) (.dic upd_same)
/-- things + [..] -/
theorem ed_cat (G0 : Hp) {v : V} {i : Nat} (hv : σ[i]? = some (some v)) (h0 : Dq G0 v (.list ds)) (hb : EvDt p q tb σ (.list es)) (hl : ds.length + es.length ≤ 1000) {H : Hp} (hP : Pl G0 H p q) {Q : VK} (k : ∀ G' H' v, Gr p q G0 H G' H' → Dq G' v (.list (ds ++ es)) → Q v H') : tOp rCat (tVar i) tb σ H Q := by
  refine ⟨v, hv, hb G0 H hP _ fun G1 H1 u g1 hu => ?_⟩
  have h1 := h0.mono g1.ex
  cases h1 with
  | lst a1 a2 =>
    cases hu with
    | lst b1 b2 =>
      rename_i aa xs ab ys
      have l1 := a2.length
      have l2 := b2.length
      refine ⟨aa, ab, xs, ys, rfl, rfl, g1.pl.ex _ _ a1, g1.pl.ex _ _ b1, by rw [sizeLine_eq]; omega, fun t ht => ?_⟩
      have gn := Gr.new (o := .lst (xs ++ ys)) g1.pl ht
      exact k _ _ (.ref t) (g1.trans gn) (.lst upd_same ((a2.append b2).mono gn.ex))
end
theorem q_asgD {p q : Addr} {i : Nat} {te : TE} {tz : TS} {D : Ends} {σ : L2.St} {G H : Hp} {d : PyData} (h : EvDt p q te σ d) (hP : Pl G H p q) (k : ∀ G' H' v, Gr p q G H G' H' → Dq G' v d → tz D (σ.set i (some v)) H') : tSeq (tAsg te (gName i)) tz D σ H := h G H hP _ k
theorem q_catD {p q : Addr} {i j : Nat} {tb : TE} {tz : TS} {D : Ends} {σ : L2.St} {H : Hp} {ds es : List PyData} (G0 : Hp) {v : V} (hv : σ[i]? = some (some v)) (h0 : Dq G0 v (.list ds)) (hb : EvDt p q tb σ (.list es)) (hl : ds.length + es.length ≤ 1000) (hP : Pl G0 H p q) (k : ∀ G' H' v, Gr p q G0 H G' H' → Dq G' v (.list (ds ++ es)) → tz D (σ.set j (some v)) H') : tSeq (tAsg (tOp rCat (tVar i) tb) (gName j)) tz D σ H := ed_cat G0 hv h0 hb hl hP k
theorem DqA.set {G : Hp} {v : V} {d : PyData} (hv : Dq G v d) : ∀ {ds : List PyData} {vs : List V} (i : Nat), DqA G vs ds → DqA G (vs.set i v) (ds.set i d)
  | [], _, i, .nil => by simp; exact .nil
  | _ :: _, _, 0, .cons h t => .cons hv t
  | _ :: _, _, i + 1, .cons h t => .cons h (DqA.set hv i t)
theorem DqA.erase {G : Hp} : ∀ {ds : List PyData} {vs : List V} (i : Nat), DqA G vs ds → DqA G (vs.eraseIdx i) (ds.eraseIdx i)
  | [], _, i, .nil => by simp; exact .nil
  | _ :: _, _, 0, .cons h t => t
  | _ :: _, _, i + 1, .cons h t => .cons h (DqA.erase i t)
theorem layAll : ∀ {ds : List PyData}, PyData.canLayAll0 ds = true ↔ ∀ d ∈ ds, d.canLay0 = true
  | [] => by simp [PyData.canLayAll0]
  | d :: ds => by
    have ih := layAll (ds := ds)
    simp [PyData.canLayAll0, ih]
theorem depAll {k : Nat} : ∀ {ds : List PyData}, PyData.depthAll ds ≤ k ↔ ∀ d ∈ ds, d.depth ≤ k
  | [] => by simp [PyData.depthAll]
  | d :: ds => by
    have ih := depAll (k := k) (ds := ds)
    simp only [PyData.depthAll, List.mem_cons, forall_eq_or_imp, ← ih]
    omega
theorem cut_from (xs : List V) (i : Nat) (h : i ≤ xs.length) : cutV xs (some (i : Int)) none = xs.drop i := by
  unfold cutV
  rw [HT.sIx_nat, HT.sIx_none, Nat.min_eq_left h]
  exact List.take_of_length_le (by simp)
theorem call_listK {X : Cx} {K : PySem.W.Frag} (hK : X.K = K) : CallR X (.type "list") (rListS K) := by
  subst hK
  exact call_list_of
theorem ret_op {r : R2} {ta tb : TE} {D : Ends} {σ : L2.St} {H : Hp} (h : ta σ H fun x H1 => tb σ H1 fun y H2 => r x y H2 D.rt) : tRet (tOp r ta tb) D σ H := h
theorem call_listK2 {X : Cx} {K : PySem.W.Frag} (hK : X.K = K) : CallR X (.type "list") (fun xs H Q => ∃ p ys, xs = [.ref p] ∧ (SqL K H p ys ∨ SqT K H p ys) ∧ ∀ l, H l = none → Q (.ref l) (upd H l (.lst ys))) := by
  subst hK
  exact call_list_of
theorem smp_ints (ns : List Int) (h : ns.length ≤ 100) : Smp 1 (.tuple (ns.map PyData.int)) := .tup 0 _ (fun d hd => by
  obtain ⟨i, _, rfl⟩ := List.mem_map.mp hd
  exact .int 0 i) (by rw [List.length_map]; exact h)
theorem smp_row {n r : Int} {d : PyData} (h : rowB n r d = true) : Smp 2 d := by
  obtain ⟨ws, rfl, _, hl, h1, h2⟩ := row_lay h
  refine .tup 1 ws (fun w hw => ?_) (by omega)
  by_cases hr : r = 0
  · rw [h2 hr] at hw
    cases hw
  · have := way_ints (List.all_eq_true.mp (h1 hr) w hw)
    rw [this.1]
    exact smp_ints _ (by omega)
theorem due_good {rows : List PyData} (h : dueD (.tuple rows) = none) : 2 ≤ rows.length ∧ rows.length ≤ 8 ∧ Good rows := by
  obtain ⟨_, h1, h2, h3⟩ := due_none h
  refine ⟨h1, h2, ?_⟩
  unfold due2 at h3
  cases hf : fb ((itemsT (.tuple rows)).length : Int) 0 (itemsT (.tuple rows)) with
  | some r => rw [hf] at h3; cases h3
  | none => exact fb_Good hf
/-- for x in a list that is made on the way -/
theorem q_forC {K : PySem.W.Frag} {tl : TE} {g : TG} {tu tz : TS} {D : Ends} {σ : L2.St} {H : Hp} (C : Addr → List V → Hp → Prop) (h : ∀ Q : VK, (∀ l xs H1, C l xs H1 → Q (.ref l) H1) → tl σ H Q)
    (hC : ∀ l xs H1, C l xs H1 → SqL K H1 l xs ∧ ∃ Pv : Nat → L2.St → Hp → Prop, Pv 0 σ H1 ∧ (∀ i σ' H', i ≤ xs.length → Pv i σ' H' → SqL K H' l xs) ∧ (∀ i x σ' H', xs[i]? = some x → Pv i σ' H' → g x σ' H' fun σ2 H2 => tu { D with nx := Pv (i + 1), ct := Pv (i + 1), bk := tz D } σ2 H2) ∧ (∀ σ' H', Pv xs.length σ' H' → tz D σ' H')) : tSeq (tFor (iList K tl) g tu) tz D σ H :=
  h _ fun l xs H1 c => by
    obtain ⟨hs, Pv, h0, hl, ht, hd⟩ := hC l xs H1 c
    exact ⟨l, rfl, ⟨xs, hs⟩, for_list Pv h0 hl ht hd⟩
end Wk

set_option Elab.async false
set_option linter.all false
set_option maxRecDepth 100000
set_option maxHeartbeats 2000000
namespace Wk
open PySem PySem.Spec PyProof.Rows L2 Evl
/-! lists of ways, as plain rows of ints -/
abbrev Wy := List Int
def wd (w : Wy) : PyData := .tuple (w.map PyData.int)
def rd (row : List Wy) : PyData := .tuple (row.map wd)
def pd (rows : List (List Wy)) : PyData := .tuple (rows.map rd)
/-- a way of router r below n -/
structure WyOk (n r : Nat) (w : Wy) : Prop where
  l2 : 2 ≤ w.length
  l8 : w.length ≤ 8
  hd : w[0]? = some (r : Int)
  lt : w.getLast? = some 0
  nd : w.Nodup
  rg : ∀ x ∈ w, 0 ≤ x ∧ x < (n : Int)
/-- good lists -/
structure GW (rows : List (List Wy)) : Prop where
  goal : ∀ row, rows[0]? = some row → row = []
  nd : ∀ (i : Nat) (row : List Wy), rows[i]? = some row → row.Nodup
  ok : ∀ (i : Nat) (row : List Wy), rows[i]? = some row → ∀ w ∈ row, WyOk rows.length i w
  rest : ∀ (i : Nat) (row : List Wy), rows[i]? = some row → ∀ w ∈ row, w.drop 1 = [0] ∨ ∃ (j : Nat) (row' : List Wy), w[1]? = some (j : Int) ∧ rows[j]? = some row' ∧ w.drop 1 ∈ row'
theorem rts_wd (w : Wy) : rts (wd w) = w := by
  simp [rts, wd, itemsT, valI, Function.comp_def]
theorem wayB_of {n r : Nat} {w : Wy} (h : WyOk n r w) : wayB (n : Int) (r : Int) (wd w) = true := by
  have e : (itemsT (wd w)).map valI = w := rts_wd w
  have hl : (itemsT (wd w)).length = w.length := by simp [wd, itemsT]
  have ha : (itemsT (wd w)).all (isR (n : Int)) = true := by
    rw [List.all_eq_true]
    intro d hd
    simp only [wd, itemsT, List.mem_map] at hd
    obtain ⟨x, hx, rfl⟩ := hd
    have := h.rg x hx
    show (true && (decide (0 ≤ x) && decide (x ≤ (n : Int) - 1))) = true
    rw [decide_eq_true this.1, decide_eq_true (show x ≤ (n : Int) - 1 by omega)]
    rfl
  unfold wayB
  rw [e, hl, ha, decide_eq_true h.l2, decide_eq_true h.l8, decide_eq_true h.hd, decide_eq_true h.lt, decide_eq_true h.nd]
  rfl
theorem wd_inj {a b : Wy} (h : wd a = wd b) : a = b := by
  rw [← rts_wd a, ← rts_wd b, h]
theorem map_rts (row : List Wy) : (row.map wd).map rts = row := by
  rw [List.map_map]
  exact (List.map_congr_left fun w _ => rts_wd w).trans (List.map_id row)
theorem rowB_of {rows : List (List Wy)} (h : GW rows) (h6 : ∀ row ∈ rows, row.length ≤ 6) {i : Nat} {row : List Wy} (e : rows[i]? = some row) : rowB (rows.length : Int) (i : Int) (rd row) = true := by
  have hi : itemsT (rd row) = row.map wd := rfl
  have hl : (itemsT (rd row)).length = row.length := by rw [hi, List.length_map]
  unfold rowB
  rw [hl, decide_eq_true (h6 row (List.mem_of_getElem? e)), hi, map_rts]
  by_cases c : (i : Int) = 0
  · rw [if_pos c]
    have i0 : i = 0 := by omega
    subst i0
    rw [h.goal row e]
    rfl
  · rw [if_neg c, decide_eq_true (h.nd i row e)]
    have ha : (row.map wd).all (wayB (rows.length : Int) (i : Int)) = true := by
      rw [List.all_eq_true]
      intro d hd
      obtain ⟨w, hw, rfl⟩ := List.mem_map.mp hd
      exact wayB_of (h.ok i row e w hw)
    rw [ha]
    rfl
theorem eqv_wd (a b : Wy) : PyData.eqv (wd a) (wd b) = decide (a = b) := eqv_ints a b
theorem getD_rows {rows : List (List Wy)} {j : Nat} {row : List Wy} (h : rows[j]? = some row) : (rows.map rd).getD j .none = rd row := by
  rw [List.getD_eq_getElem?_getD, List.getElem?_map, h]
  rfl
theorem restB_of {rows : List (List Wy)} (h : GW rows) {i : Nat} {row : List Wy} (e : rows[i]? = some row) {w : Wy} (hw : w ∈ row) : restB (rows.map rd) (wd w) = true := by
  unfold restB
  rw [rts_wd]
  have ok := h.ok i row e w hw
  rcases h.rest i row e w hw with z | ⟨j, row', h1, h2, h3⟩
  · have e1 : w.getD 1 0 = 0 := by
      have : w[1]? = some 0 := by
        have q : (w.drop 1)[0]? = some 0 := by rw [z]; rfl
        rw [List.getElem?_drop] at q
        exact q
      rw [List.getD_eq_getElem?_getD, this]
      rfl
    rw [e1]
    rfl
  · have e1 : w.getD 1 0 = (j : Int) := by rw [List.getD_eq_getElem?_getD, h1]; rfl
    rw [e1, Int.toNat_natCast, getD_rows h2]
    have : (itemsT (rd row')).any (fun z => PyData.eqv z (.tuple ((w.drop 1).map PyData.int))) = true := by
      rw [List.any_eq_true]
      refine ⟨wd (w.drop 1), List.mem_map.mpr ⟨_, h3, rfl⟩, ?_⟩
      show PyData.eqv (wd (w.drop 1)) (wd (w.drop 1)) = true
      rw [eqv_wd, decide_eq_true rfl]
    rw [this, Bool.or_true]
theorem fb_none {n : Int} : ∀ {ds : List PyData} {j : Nat}, (∀ (i : Nat) (d : PyData), ds[i]? = some d → rowB n ((j + i : Nat) : Int) d = true) → fb n j ds = none
  | [], _, _ => rfl
  | d :: ds, j, h => by
    have h0 := h 0 d rfl
    rw [Nat.add_zero] at h0
    unfold fb
    rw [if_pos h0]
    exact fb_none fun i d' e => by
      have q := h (i + 1) d' (by simpa using e)
      rw [show j + 1 + i = j + (i + 1) by omega]
      exact q
theorem sb_none {rows : List PyData} : ∀ {ds : List PyData} {j : Nat}, (∀ d ∈ ds, (itemsT d).all (restB rows) = true) → sb rows j ds = none
  | [], _, _ => rfl
  | d :: ds, j, h => by
    unfold sb
    rw [if_pos (h d List.mem_cons_self)]
    exact sb_none fun x hx => h x (List.mem_cons_of_mem _ hx)
/-- good lists are let -/
theorem due_pd {rows : List (List Wy)} (h : GW rows) (h2 : 2 ≤ rows.length) (h8 : rows.length ≤ 8) (h6 : ∀ row ∈ rows, row.length ≤ 6) : dueD (pd rows) = none := by
  have hl : (itemsT (pd rows)).length = rows.length := by simp [pd, itemsT]
  unfold dueD
  rw [if_pos ⟨rfl, by rw [hl]; exact h2, by rw [hl]; exact h8⟩]
  unfold due2
  rw [hl]
  have hf : fb (rows.length : Int) 0 (itemsT (pd rows)) = none := fb_none fun i d e => by
    have e' : (rows.map rd)[i]? = some d := e
    rw [List.getElem?_map] at e'
    cases hr : rows[i]? with
    | none => rw [hr] at e'; cases e'
    | some row =>
      rw [hr] at e'
      cases e'
      rw [Nat.zero_add]
      exact rowB_of h h6 hr
  rw [hf]
  refine sb_none fun d hd => ?_
  obtain ⟨row, hr, rfl⟩ := List.mem_map.mp (show d ∈ rows.map rd from hd)
  rw [List.all_eq_true]
  intro x hx
  obtain ⟨w, hw, rfl⟩ := List.mem_map.mp (show x ∈ row.map wd from hx)
  obtain ⟨i, hi⟩ := List.mem_iff_getElem?.mp hr
  exact restB_of h hi hw
/-- an order: 0 first, unlike routers -/
structure OsOk (n : Nat) (os : List Int) : Prop where
  len : os.length = n
  nd : os.Nodup
  hd : os[0]? = some 0
  rg : ∀ x ∈ os, 0 ≤ x ∧ x < (n : Int)
theorem OsOk.ne {n : Nat} {os : List Int} (h : OsOk n os) {i j : Nat} {x : Int} (hi : os[i]? = some x) (hj : os[j]? = some x) : i = j := by
  have hil := (List.getElem?_eq_some_iff.mp hi).1
  exact (List.getElem?_inj hil h.nd).mp (hi.trans hj.symm)
/-- a way more in the row of r -/
theorem gw_add {rows : List (List Wy)} (h : GW rows) {r : Nat} {row : List Wy} (hr : rows[r]? = some row) (h0 : r ≠ 0) {b : Wy} (hb : b = [0] ∨ ∃ (j : Nat) (row' : List Wy), rows[j]? = some row' ∧ b ∈ row') (hn : (r : Int) ∉ b) (hl : b.length ≤ 7) (hw : ((r : Int) :: b) ∉ row) (i : Nat) :
    GW (rows.set r (row.take i ++ [(r : Int) :: b] ++ row.drop i)) := by
  have hrl := (List.getElem?_eq_some_iff.mp hr).1
  have hmem : ∀ w, w ∈ row.take i ++ [(r : Int) :: b] ++ row.drop i ↔ w ∈ row ∨ w = (r : Int) :: b := fun w => by
    have q : w ∈ row ↔ w ∈ row.take i ∨ w ∈ row.drop i := by
      rw [← List.mem_append, List.take_append_drop]
    simp only [List.mem_append, List.mem_singleton, q]
    constructor
    · rintro ((z | z) | z)
      · exact .inl (.inl z)
      · exact .inr z
      · exact .inl (.inr z)
    · rintro ((z | z) | z)
      · exact .inl (.inl z)
      · exact .inr z
      · exact .inl (.inr z)
  have hget : ∀ (k : Nat) (row' : List Wy), (rows.set r (row.take i ++ [(r : Int) :: b] ++ row.drop i))[k]? = some row' → (k = r ∧ row' = row.take i ++ [(r : Int) :: b] ++ row.drop i) ∨ (k ≠ r ∧ rows[k]? = some row') := fun k row' e => by
    by_cases c : r = k
    · subst c
      rw [List.getElem?_set_self hrl] at e
      exact .inl ⟨rfl, (Option.some.inj e).symm⟩
    · rw [List.getElem?_set_ne c] at e
      exact .inr ⟨fun z => c z.symm, e⟩
  have hup : ∀ (k : Nat) (row' : List Wy) (w : Wy), rows[k]? = some row' → w ∈ row' → ∃ row2, (rows.set r (row.take i ++ [(r : Int) :: b] ++ row.drop i))[k]? = some row2 ∧ w ∈ row2 := fun k row' w e hm => by
    by_cases c : r = k
    · subst c
      rw [hr] at e
      cases e
      exact ⟨_, List.getElem?_set_self hrl, (hmem w).mpr (.inl hm)⟩
    · exact ⟨row', by rw [List.getElem?_set_ne c]; exact e, hm⟩
  have hlen : (rows.set r (row.take i ++ [(r : Int) :: b] ++ row.drop i)).length = rows.length := List.length_set ..
  have hbok : WyOk rows.length r ((r : Int) :: b) := by
    have hrg0 : (0 : Int) ≤ r ∧ (r : Int) < rows.length := ⟨by omega, by omega⟩
    rcases hb with rfl | ⟨j, row', hj, hbj⟩
    · refine ⟨by simp, by simp, rfl, rfl, ?_, fun x hx => ?_⟩
      · exact List.nodup_cons.mpr ⟨hn, by simp⟩
      · rcases List.mem_cons.mp hx with z | z
        · rw [z]; exact hrg0
        · rw [List.mem_singleton.mp z]; omega
    · have ok := h.ok j row' hj b hbj
      refine ⟨by have := ok.l2; simp; omega, by simp; omega, rfl, ?_, List.nodup_cons.mpr ⟨hn, ok.nd⟩, fun x hx => ?_⟩
      · cases b with
        | nil => have := ok.l2; simp at this
        | cons y l => rw [List.getLast?_cons_cons]; exact ok.lt
      · rcases List.mem_cons.mp hx with z | z
        · rw [z]; exact hrg0
        · exact ok.rg x z
  refine ⟨fun row' e => ?_, fun k row' e => ?_, fun k row' e w hm => ?_, fun k row' e w hm => ?_⟩
  · rcases hget 0 row' e with ⟨z, _⟩ | ⟨_, z⟩
    · exact absurd z.symm h0
    · exact h.goal row' z
  · rcases hget k row' e with ⟨_, z⟩ | ⟨_, z⟩
    · rw [z]
      have nd := h.nd r row hr
      have p1 : (row.take i ++ [(r : Int) :: b] ++ row.drop i).Perm (((r : Int) :: b) :: row) := by
        have p2 : (row.take i ++ [(r : Int) :: b] ++ row.drop i).Perm ([(r : Int) :: b] ++ row.take i ++ row.drop i) := List.Perm.append_right _ List.perm_append_comm
        have e2 : [(r : Int) :: b] ++ row.take i ++ row.drop i = ((r : Int) :: b) :: row := by
          rw [List.append_assoc, List.take_append_drop]
          rfl
        rw [e2] at p2
        exact p2
      exact p1.nodup_iff.mpr (List.nodup_cons.mpr ⟨hw, nd⟩)
    · exact h.nd k row' z
  · rw [hlen]
    rcases hget k row' e with ⟨z1, z2⟩ | ⟨_, z⟩
    · subst z1
      rw [z2] at hm
      rcases (hmem w).mp hm with y | y
      · exact h.ok k row hr w y
      · rw [y]; exact hbok
    · exact h.ok k row' z w hm
  · have key : ∀ (k' : Nat) (row'' : List Wy), rows[k']? = some row'' → w ∈ row'' → w.drop 1 = [0] ∨ ∃ (j : Nat) (row2 : List Wy), w[1]? = some (j : Int) ∧ (rows.set r (row.take i ++ [(r : Int) :: b] ++ row.drop i))[j]? = some row2 ∧ w.drop 1 ∈ row2 := fun k' row'' e' hm' => by
      rcases h.rest k' row'' e' w hm' with y | ⟨j, row3, y1, y2, y3⟩
      · exact .inl y
      · obtain ⟨row4, y4, y5⟩ := hup j row3 _ y2 y3
        exact .inr ⟨j, row4, y1, y4, y5⟩
    rcases hget k row' e with ⟨z1, z2⟩ | ⟨_, z⟩
    · subst z1
      rw [z2] at hm
      rcases (hmem w).mp hm with y | y
      · exact key k row hr y
      · rw [y]
        rcases hb with rfl | ⟨j, row3, hj, hbj⟩
        · exact .inl rfl
        · obtain ⟨row4, y4, y5⟩ := hup j row3 b hj hbj
          exact .inr ⟨j, row4, by show b[0]? = _; exact (h.ok j row3 hj b hbj).hd, y4, y5⟩
    · exact key k row' z hm
end Wk

set_option Elab.async false
set_option linter.all false
set_option maxRecDepth 100000
set_option maxHeartbeats 2000000
namespace Wk
open PySem PySem.Spec PyProof.Rows L2 Evl
section
variable {P : Program} {w : World} {K : PySem.W.Frag} {mg : Str → Option Value} {base : Heap} {f : Addr} {fd : FuncData}
/-! _law_pool -/
def spPool (K : PySem.W.Frag) : Sp := fun vs H Q _ => ∃ (a : Addr) (ns : List Int), vs = [.ref a] ∧ SqL K H a (ns.map V.int) ∧ ns.length ≤ 63 ∧ ∀ H' p q, Pl H H' p q → Q (.ref p) H'
abbrev sPool : Stmt := top 66
abbrev nPool : List Str := ["_law_script", "_law_cells", "_law_cell"]
theorem scPool : FnScope nPool ["_law_script"] (defScope sPool) := ⟨rfl, rfl, rfl, by decide +kernel, rfl, by decide +kernel, by decide +kernel⟩
theorem ok_pool (B : Bl mg) (F : FnP K "_law_pool" sPool f fd) : FnOk P w K mg base CX0 1 f fd ["_law_script"] (spPool K) := by
  refine F.ok scPool (fun vs H Q E h => ?_) (fun cdv A outer s H vs Q E hr h => ?_)
  · obtain ⟨a, ns, rfl, _⟩ := h
    rfl
  · obtain ⟨a, ns, rfl, hs, hl, k⟩ := h
    have hu0 : (A.deeper (envOfC "_law_pool" (defScope sPool) s.heap.objs.size f cdv)).units < cLine := by have := hr.un; omega
    refine ⟨_, pss_cons (ps_setLc (i := 1) (own := [("_law_cell", 2)]) (g := gName 2) (tt := tYes) rfl scPool.nd rfl rfl (sw_true rfl rfl rfl (by decide +kernel)) (pi_list (pv 0)) (blkOk_by (N := nPool) (sc := defScope sPool) (by decide +kernel))
          (fun _ _ _ _ _ => pg_name (i := 2) scPool.nd rfl (Or.inl rfl)) (fun _ _ _ _ _ => pts_nil)
          (fun _ _ _ _ _ => pe_op op_add (pe_op op_mul pe_int (pe_callB call_abs (by rfl) B.abs boot_abs (pa_cons (pv 2) pa_nil))) (pe_callTy call_int1 (by rfl) B.int PyProof.Rows.boot_int (pa_cons (pe_cmpR op_lt (pv 2) pe_int (nomark _)) pa_nil))))
      (pss_cons (ps_if (pt_cmpR (op_eqEL hu0) (pv 1) (pe_lst pa_nil) (nomark _)) (pss_one (ps_set (i := 1) scPool.nd rfl (Or.inl rfl) (pe_lst (pa_cons pe_int pa_nil)))) pss_nil)
      (pss_one (ps_ret (pe_lst (pa_cons pe_int (pa_cons (pv 1) pa_nil)))))), ?_⟩
    have cell : ∀ (i : Nat) (x : V) (H1 : Hp), Ex H H1 → (ns.map V.int)[i]? = some x → Ev (tOp (rI0 fun i j => .int (i + j)) (tOp (rI CMul fun i j => .int (i * j)) (tC (.int 2)) (tCB (fun xs H Q => ∃ i, xs = [.int i] ∧ Q (.int (if i < 0 then -i else i)) H) (tCons (tVar 2) tNil)))
        (tCB (fun xs H Q => (∃ i, xs = [.int i] ∧ Q (.int i) H) ∨ ∃ k, xs = [.bl k] ∧ Q (.int (if k then 1 else 0)) H) (tCons (tOp (rI0 fun i j => .bl (decide (i < j))) (tVar 2) (tC (.int 0))) tNil))) [some (.ref a), none, some x] H1
        (.int (2 * (if ns.getD i 0 < 0 then -(ns.getD i 0) else ns.getD i 0) + (if decide (ns.getD i 0 < 0) = true then 1 else 0))) := fun i x H1 e hx => by
      rw [List.getElem?_map] at hx
      cases hn : ns[i]? with
      | none => rw [hn] at hx; cases hx
      | some n =>
        rw [hn] at hx
        have ex : x = .int n := (Option.some.inj hx).symm
        subst ex
        rw [show ns.getD i 0 = n by rw [List.getD_eq_getElem?_getD, hn]; rfl]
        refine ev_op (ev_op ev_c (ev_cb (ea_cons (ev_var rfl) ea_nil) fun H2 e2 Q2 q => ⟨n, rfl, q H2 (Ex.refl H2)⟩) (rv_I (.inl ⟨by decide, by decide⟩))) (ev_cb (ea_cons (ev_op (ev_var rfl) ev_c rv_I0) ea_nil) fun H2 e2 Q2 q => .inr ⟨_, rfl, q H2 (Ex.refl H2)⟩) rv_I0
    refine q_asgL (el_lcL (K := K) (j := 2) (vs := [2]) (fun _ => true) (fun i => .int (2 * (if ns.getD i 0 < 0 then -(ns.getD i 0) else ns.getD i 0) + (if decide (ns.getD i 0 < 0) = true then 1 else 0))) (ev_var rfl) hs (by rw [List.length_map]; omega) (fun x => rfl) (fun _ _ _ _ _ => et_yes) (fun i x H1 e hx _ => cell i x H1 e hx)) fun p1 H1 hp1 e1 hl1 => ?_
    rw [given_all, List.length_map] at hl1
    generalize hcs : (List.range ns.length).map (fun i => 2 * (if ns.getD i 0 < 0 then -(ns.getD i 0) else ns.getD i 0) + (if decide (ns.getD i 0 < 0) = true then 1 else 0)) = cs
    have hl2 : H1 p1 = some (.lst (cs.map V.int)) := by
      rw [hl1, ← hcs, List.map_map]
      rfl
    have hcl : cs.length = ns.length := by rw [← hcs]; simp
    have fin : ∀ (q : Addr) (H2 : Hp) (ds : List Int) (o : Option V), Ex H H2 → H q = none → H2 q = some (.lst (ds.map V.int)) → ds ≠ [] → ds.length ≤ 63 → tRet (tLst (tCons (tC (.int 0)) (tCons (tVar 1) tNil))) { nx := fun _ H' => Q .non H', rt := Q } [some (.ref a), some (.ref q), o] H2 := fun q H2 ds o e hq h2 hne hle => by
      refine s_retL (el_lst (ea_cons ev_c (ea_cons (ev_var rfl) ea_nil)) (by show 2 ≤ 100000; decide)) fun p H3 hp e3 h3 => k H3 p q ?_
      exact ⟨e.trans e3, fresh_back e hp, hq, (fun z => by rw [z, h2] at hp; cases hp), 0, ds, h3, e3 _ _ h2, hne, hle⟩
    refine q_when (b := (cs.map V.int).isEmpty) (et_test (ev_opL (xs := []) (ev_var rfl) (el_lst ea_nil (by simp)) fun p2 H2 hp2 e2 => fun H3 e3 Q2 q => ⟨p1, p2, _, rfl, rfl, sq_of ((e2.trans e3) _ _ hl2), sq_of (e3 _ _ hp2), q H3 (Ex.refl H3)⟩)) (fun hb H2 e2 => ?_) (fun hb H2 e2 => ?_)
    · refine s_asgL (el_lst (ea_cons ev_c ea_nil) (by show 1 ≤ 100000; decide)) fun p3 H3 hp3 e3 h3 => ?_
      exact fin p3 H3 [0] none ((e1.trans e2).trans e3) (fresh_back (e1.trans e2) hp3) h3 (by simp) (by simp)
    · refine fin p1 H2 cs none (e1.trans e2) hp1 (e2 _ _ hl2) (fun z => ?_) (by omega)
      rw [z] at hb
      simp at hb
/-! _law_draw -/
def spDraw : Sp := fun vs H Q _ => ∃ (G : Hp) (p q : Addr) (z : Int), vs = [.ref p, .int z] ∧ Pl G H p q ∧ 0 < z ∧ z ≤ 1000 ∧ ∀ H' (i : Int), Pl G H' p q → 0 ≤ i → i < z → Q (.int i) H'
abbrev sDraw : Stmt := top 67
abbrev nDraw : List Str := ["_law_pool_here", "_law_size", "_law_place", "_law_cell", "_law_number"]
theorem scDraw : FnScope nDraw ["_law_pool_here", "_law_size"] (defScope sDraw) := ⟨rfl, rfl, rfl, by decide +kernel, rfl, by decide +kernel, by decide +kernel⟩
theorem modP (a b : Int) (h : 0 < b) : 0 ≤ a % b ∧ a % b < b := ⟨Int.emod_nonneg _ (by omega), Int.emod_lt_of_pos _ h⟩
theorem ok_draw (B : Bl mg) (F : FnP K "_law_draw" sDraw f fd) : FnOk P w K mg base CX0 1 f fd ["_law_pool_here", "_law_size"] spDraw := by
  refine F.ok scDraw (fun vs H Q E h => ?_) (fun cdv A outer s H vs Q E hr h => ?_)
  · obtain ⟨G, p, q, z, rfl, _⟩ := h
    rfl
  · obtain ⟨G, p, q, z, rfl, hP, hz, hz2, k⟩ := h
    refine ⟨_, pss_cons (ps_asg (pe_op op_add (pe_ix ix_list (pv 0) pe_int (fun _ _ => rfl)) pe_int) (pg_sub (pv 0) pe_int set_list))
      (pss_cons (ps_set (i := 2) scDraw.nd rfl (Or.inl rfl) (pe_op op_mod (pe_callTy call_int1 (by rfl) B.int PyProof.Rows.boot_int (pa_cons (pe_ix ix_list (pv 0) pe_int (fun _ _ => rfl)) pa_nil)) (pe_callB call_len_seq (by rfl) B.len PySem.boot_len (pa_cons (pe_ix ix_list (pv 0) pe_int (fun _ _ => rfl)) pa_nil))))
      (pss_cons (ps_set (i := 3) scDraw.nd rfl (Or.inl rfl) (pe_ix ix_list (pe_ix ix_list (pv 0) pe_int (fun _ _ => rfl)) (pv 2) (fun _ _ => rfl)))
      (pss_cons (ps_if (pt_cmpR op_ge (pv 3) (pe_op op_pow pe_int pe_int) (nomark _))
          (pss_cons (ps_asg (pe_op op_fdiv (pv 3) (pv 1)) (pg_sub (pe_ix ix_list (pv 0) pe_int (fun _ _ => rfl)) (pv 2) set_list)) (pss_one (ps_ret (pe_op op_mod (pe_callTy call_int1 (by rfl) B.int PyProof.Rows.boot_int (pa_cons (pv 3) pa_nil)) (pv 1))))) pss_nil)
      (pss_cons (ps_set (i := 4) scDraw.nd rfl (Or.inl rfl) (pe_op op_mod (pe_callTy call_int1 (by rfl) B.int PyProof.Rows.boot_int (pa_cons (pe_op op_mul (pe_op op_add (pe_op op_add (pv 3) (pe_op op_mul pe_int (pe_ix ix_list (pv 0) pe_int (fun _ _ => rfl)))) pe_int) pe_int) pa_nil)) pe_int))
      (pss_cons (ps_set (i := 4) scDraw.nd rfl (Or.inl rfl) (pe_op op_mod (pe_callTy call_int1 (by rfl) B.int PyProof.Rows.boot_int (pa_cons (pe_op op_mul (pv 4) (pe_op op_add (pe_op op_fdiv (pv 4) pe_int) pe_int)) pa_nil)) pe_int))
      (pss_cons (ps_set (i := 4) scDraw.nd rfl (Or.inl rfl) (pe_op op_mod (pe_callTy call_int1 (by rfl) B.int PyProof.Rows.boot_int (pa_cons (pe_op op_mul (pv 4) (pe_op op_add (pe_op op_fdiv (pv 4) pe_int) pe_int)) pa_nil)) pe_int))
      (pss_one (ps_ret (pe_op op_mod (pe_callTy call_int1 (by rfl) B.int PyProof.Rows.boot_int (pa_cons (pv 4) pa_nil)) (pv 1)))))))))), ?_⟩
    obtain ⟨n, cs, h1, h2, hne, hle⟩ := hP.at_
    have hcl : 0 < cs.length := List.length_pos_iff.mpr hne
    refine ⟨.ref p, rfl, p, _, 0, .int n, rfl, rfl, sq_of h1, rfl, n, 1, rfl, rfl, .ref p, rfl, p, _, 0, 0, rfl, rfl, h1, rfl, ?_⟩
    -- the count is set
    generalize hH1 : upd H p (.lst ([V.int n, V.ref q].set 0 (.int (n + 1)))) = H1
    have p1 : H1 p = some (.lst [.int (n + 1), .ref q]) := by rw [← hH1]; exact upd_same
    have q1 : H1 q = some (.lst (cs.map V.int)) := by rw [← hH1, upd_ne (Ne.symm hP.ne)]; exact h2
    have P1 : Pl G H1 p q := ⟨by rw [← hH1]; exact Ex.mut hP.ex hP.gp, hP.gp, hP.gq, hP.ne, n + 1, cs, p1, q1, hne, hle⟩
    have pl0 := modP (n + 1) ((cs.map V.int).length : Int) (by rw [List.length_map]; omega)
    rw [List.length_map] at pl0
    obtain ⟨j, hj⟩ : ∃ j : Nat, (n + 1) % ((cs.map V.int).length : Int) = (j : Int) := ⟨((n + 1) % ((cs.map V.int).length : Int)).toNat, by rw [Int.toNat_of_nonneg]; rw [List.length_map]; exact pl0.1⟩
    have hjl : j < cs.length := by rw [List.length_map] at hj; omega
    refine ⟨.ref p, rfl, p, _, 0, .int (n + 1), rfl, rfl, sq_of p1, rfl, .inl ⟨n + 1, rfl, .ref p, rfl, p, _, 1, .ref q, rfl, rfl, sq_of p1, rfl, q, _, rfl, .inl (sq_of q1), n + 1, _, rfl, rfl, by rw [List.length_map]; omega, ?_⟩⟩
    change tSeq _ _ _ [some (.ref p), some (.int z), some (.int ((n + 1) % ((cs.map V.int).length : Int))), none, none] H1
    rw [hj]
    have hcj : (cs.map V.int)[j]? = some (.int cs[j]) := by rw [List.getElem?_map, List.getElem?_eq_getElem hjl]; rfl
    refine ⟨.ref p, rfl, p, _, 1, .ref q, rfl, rfl, sq_of p1, rfl, .int (j : Int), rfl, q, _, j, _, rfl, rfl, sq_of q1, atI_nat hcj, ?_⟩
    change tSeq _ _ _ [some (.ref p), some (.int z), some (.int (j : Int)), some (.int cs[j]), none] H1
    generalize cs[j] = c
    refine ⟨.int c, rfl, 10, 18, rfl, rfl, ⟨by decide, by decide, by decide⟩, c, _, rfl, rfl, _, rfl, ?_⟩
    refine ite2 (fun _ => ?_) (fun _ => ?_)
    · refine ⟨.int c, rfl, .int z, rfl, c, z, rfl, rfl, ⟨hz, by omega⟩, .ref p, rfl, p, _, 1, .ref q, rfl, rfl, sq_of p1, rfl, .int (j : Int), rfl, q, _, (j : Int), j, rfl, rfl, q1, ixN_nat (by rw [List.length_map]; exact hjl), ?_⟩
      have m := modP c z hz
      refine ⟨.int c, rfl, .inl ⟨c, rfl, .int z, rfl, c, z, rfl, rfl, hz, k _ _ ?_ m.1 m.2⟩⟩
      refine ⟨Ex.mut P1.ex hP.gq, hP.gp, hP.gq, hP.ne, n + 1, cs.set j (c / z), by rw [upd_ne hP.ne]; exact p1, by rw [upd_same, List.map_set], fun e => ?_, by rw [List.length_set]; exact hle⟩
      have := congrArg List.length e
      rw [List.length_set] at this
      exact hne (by simpa using this)
    · refine ⟨.int c, rfl, .ref p, rfl, p, _, 0, .int (n + 1), rfl, rfl, sq_of p1, rfl, 7919, n + 1, rfl, rfl, .inl ⟨by decide, by decide⟩, c, _, rfl, rfl, _, 1, rfl, rfl, _, 48271, rfl, rfl, .inr ⟨by decide, by decide⟩, .inl ⟨_, rfl, _, 2147483647, rfl, rfl, (show (0 : Int) < 2147483647 by decide), ?_⟩⟩
      have m1 := modP ((c + 7919 * (n + 1) + 1) * 48271) 2147483647 (by decide)
      change tSeq _ _ _ [some (.ref p), some (.int z), some (.int (j : Int)), some (.int c), some (.int (((c + 7919 * (n + 1) + 1) * 48271) % 2147483647))] H1
      generalize ((c + 7919 * (n + 1) + 1) * 48271) % 2147483647 = y1 at m1 ⊢
      refine ⟨.int y1, rfl, .int y1, rfl, y1, 1009, rfl, rfl, ⟨by decide, by decide⟩, _, 69621, rfl, rfl, y1, _, rfl, rfl, .inl ⟨by omega, by omega⟩, .inl ⟨_, rfl, _, 2147483647, rfl, rfl, (show (0 : Int) < 2147483647 by decide), ?_⟩⟩
      have m2 := modP (y1 * (y1 / 1009 + 69621)) 2147483647 (by decide)
      change tSeq _ _ _ [some (.ref p), some (.int z), some (.int (j : Int)), some (.int c), some (.int ((y1 * (y1 / 1009 + 69621)) % 2147483647))] H1
      generalize (y1 * (y1 / 1009 + 69621)) % 2147483647 = y2 at m2 ⊢
      refine ⟨.int y2, rfl, .int y2, rfl, y2, 2003, rfl, rfl, ⟨by decide, by decide⟩, _, 40692, rfl, rfl, y2, _, rfl, rfl, .inl ⟨by omega, by omega⟩, .inl ⟨_, rfl, _, 2147483399, rfl, rfl, (show (0 : Int) < 2147483399 by decide), ?_⟩⟩
      have m := modP ((y2 * (y2 / 2003 + 40692)) % 2147483399) z hz
      exact ⟨.int ((y2 * (y2 / 2003 + 40692)) % 2147483399), rfl, .inl ⟨_, rfl, .int z, rfl, _, z, rfl, rfl, hz, k _ _ P1 m.1 m.2⟩⟩
end
/-- a draw, as a call -/
theorem ev_draw {G H : Hp} {p q : Addr} {z : Int} {Q : VK} (h : Pl G H p q) (hz : 0 < z) (hz2 : z ≤ 1000) (k : ∀ H' (i : Int), Pl G H' p q → Off p q H H' → 0 ≤ i → i < z → Q (.int i) H') (E : XK) : spDraw [.ref p, .int z] H Q E :=
  ⟨Hd H p q, p, q, z, rfl, h.hd, hz, hz2, fun H' i hP h0 h1 => k H' i (h.back hP) hP.off h0 h1⟩
end Wk

set_option Elab.async false
set_option linter.all false
set_option maxRecDepth 100000
set_option maxHeartbeats 2000000
namespace Wk
open PySem PySem.Spec PyProof.Rows L2 Evl
/-! the list at R of the rows' lists -/
structure Rz (G H : Hp) (p q R : Addr) (rs : List Addr) (rows : List (List Wy)) : Prop where
  at_ : H R = some (.lst (rs.map V.ref))
  gR : G R = none
  Rp : R ≠ p
  Rq : R ≠ q
  nin : R ∉ rs
  nd : rs.Nodup
  len : rs.length = rows.length
  row : ∀ (i : Nat) (r : Addr) (row : List Wy), rs[i]? = some r → rows[i]? = some row → G r = none ∧ r ≠ p ∧ r ≠ q ∧ ∃ vs, H r = some (.lst vs) ∧ DqA G vs (row.map wd)
section
variable {G H H' : Hp} {p q R : Addr} {rs : List Addr} {rows : List (List Wy)}
theorem Rz.off (h : Rz G H p q R rs rows) (o : Off p q H H') : Rz G H' p q R rs rows := by
  refine ⟨o _ _ h.Rp h.Rq h.at_, h.gR, h.Rp, h.Rq, h.nin, h.nd, h.len, fun i r row hr hw => ?_⟩
  obtain ⟨g, rp, rq, vs, h1, h2⟩ := h.row i r row hr hw
  exact ⟨g, rp, rq, vs, o _ _ rp rq h1, h2⟩
theorem Rz.ext (h : Rz G H p q R rs rows) (e : Ex H H') : Rz G H' p q R rs rows := h.off (Off.ex e)
theorem Rz.at (h : Rz G H p q R rs rows) {i : Nat} (hi : i < rows.length) : ∃ r, rs[i]? = some r ∧ r ∈ rs := by
  have hl : i < rs.length := by rw [h.len]; exact hi
  exact ⟨rs[i], List.getElem?_eq_getElem hl, List.getElem_mem hl⟩
theorem Rz.mem (h : Rz G H p q R rs rows) {r : Addr} (hr : r ∈ rs) : G r = none ∧ r ≠ p ∧ r ≠ q ∧ ∃ vs, H r = some (.lst vs) := by
  obtain ⟨i, hi⟩ := List.mem_iff_getElem?.mp hr
  have hl := (List.getElem?_eq_some_iff.mp hi).1
  have hl2 : i < rows.length := by rw [← h.len]; exact hl
  obtain ⟨g, rp, rq, vs, h1, _⟩ := h.row i r _ hi (List.getElem?_eq_getElem hl2)
  exact ⟨g, rp, rq, vs, h1⟩
theorem Rz.new {t : Addr} {o : HO} (h : Rz G H p q R rs rows) (ht : H t = none) (gt : G t = none) : Rz (upd G t o) (upd H t o) p q R rs rows := by
  have h2 := h.ext (Ex.new (o := o) ht)
  have nR : R ≠ t := ne_of_none h.at_ ht
  refine ⟨h2.at_, by rw [upd_ne nR]; exact h.gR, h.Rp, h.Rq, h.nin, h.nd, h.len, fun i r row hr hw => ?_⟩
  obtain ⟨g, rp, rq, vs, h1, hd⟩ := h.row i r row hr hw
  have nr : r ≠ t := ne_of_none h1 ht
  exact ⟨by rw [upd_ne nr]; exact g, rp, rq, vs, by rw [upd_ne nr]; exact h1, hd.mono (Ex.new gt)⟩
theorem Rz.grow {G' : Hp} (h : Rz G H p q R rs rows) (e : Ex G G') (gR : G' R = none) (gr : ∀ r ∈ rs, G' r = none) : Rz G' H p q R rs rows := by
  refine ⟨h.at_, gR, h.Rp, h.Rq, h.nin, h.nd, h.len, fun i r row hr hw => ?_⟩
  obtain ⟨g, rp, rq, vs, h1, hd⟩ := h.row i r row hr hw
  exact ⟨gr r (List.mem_of_getElem? hr), rp, rq, vs, h1, hd.mono e⟩
/-- a row is changed -/
theorem Rz.mut {i : Nat} {r : Addr} {row' : List Wy} {vs : List V} (h : Rz G H p q R rs rows) (hr : rs[i]? = some r) (hd : DqA G vs (row'.map wd)) : Rz G (upd H r (.lst vs)) p q R rs (rows.set i row') := by
  have hm := List.mem_of_getElem? hr
  have nR : R ≠ r := fun z => h.nin (by rw [z]; exact hm)
  have hil : i < rs.length := (List.getElem?_eq_some_iff.mp hr).1
  refine ⟨by rw [upd_ne nR]; exact h.at_, h.gR, h.Rp, h.Rq, h.nin, h.nd, by rw [List.length_set]; exact h.len, fun k r2 row2 h2 w2 => ?_⟩
  by_cases c : i = k
  · subst c
    rw [hr] at h2
    cases h2
    rw [List.getElem?_set_self (by rw [← h.len]; exact hil)] at w2
    cases w2
    obtain ⟨g, rp, rq, _⟩ := h.mem hm
    exact ⟨g, rp, rq, vs, upd_same, hd⟩
  · rw [List.getElem?_set_ne c] at w2
    obtain ⟨g, rp, rq, vs2, h3, h4⟩ := h.row k r2 row2 h2 w2
    have nr : r2 ≠ r := fun z => c ((List.getElem?_inj hil h.nd).mp (by rw [hr, h2, z]))
    exact ⟨g, rp, rq, vs2, by rw [upd_ne nr]; exact h3, h4⟩
theorem nodup_set {α : Type} : ∀ {l : List α} {i : Nat} {b : α}, l.Nodup → b ∉ l → (l.set i b).Nodup
  | [], _, _, h, _ => h
  | x :: l, 0, b, h, hb => List.nodup_cons.mpr ⟨fun z => hb (List.mem_cons_of_mem _ z), (List.nodup_cons.mp h).2⟩
  | x :: l, i + 1, b, h, hb => by
    have h' := List.nodup_cons.mp h
    refine List.nodup_cons.mpr ⟨fun z => ?_, nodup_set h'.2 fun z => hb (List.mem_cons_of_mem _ z)⟩
    rcases List.mem_or_eq_of_mem_set z with y | y
    · exact h'.1 y
    · exact hb (by rw [← y]; exact List.mem_cons_self)
/-- a new list in the place of a row -/
theorem Rz.put {i : Nat} {b : Addr} {row' : List Wy} {vs : List V} (hP : Pl G H p q) (h : Rz G H p q R rs rows) (hi : i < rows.length) (hb : H b = none) (hd : DqA G vs (row'.map wd)) :
    Pl G (upd (upd H b (.lst vs)) R (.lst ((rs.map V.ref).set i (.ref b)))) p q ∧ Rz G (upd (upd H b (.lst vs)) R (.lst ((rs.map V.ref).set i (.ref b)))) p q R (rs.set i b) (rows.set i row') := by
  have e : Ex H (upd H b (.lst vs)) := Ex.new hb
  have h2 := h.ext e
  have gb := fresh_back hP.ex hb
  have bR : b ≠ R := Ne.symm (ne_of_none h.at_ hb)
  have hbn : b ∉ rs := fun z => by
    obtain ⟨_, _, _, vs', h1⟩ := h.mem z
    rw [hb] at h1
    cases h1
  have hil : i < rs.length := by rw [h.len]; exact hi
  refine ⟨(hP.ext e).mut h.gR h.Rp h.Rq, by rw [upd_same, List.map_set], h.gR, h.Rp, h.Rq, fun z => ?_, nodup_set h.nd hbn, by rw [List.length_set, List.length_set]; exact h.len, fun k r2 row2 h3 w2 => ?_⟩
  · rcases List.mem_or_eq_of_mem_set z with y | y
    · exact h.nin y
    · exact bR y.symm
  · by_cases c : i = k
    · subst c
      rw [List.getElem?_set_self hil] at h3
      cases h3
      rw [List.getElem?_set_self hi] at w2
      cases w2
      exact ⟨gb, hP.np hb, hP.nq hb, vs, by rw [upd_ne bR, upd_same], hd⟩
    · rw [List.getElem?_set_ne c] at h3 w2
      obtain ⟨g, rp, rq, vs2, h4, h5⟩ := h2.row k r2 row2 h3 w2
      have nr : r2 ≠ R := fun z => h.nin (by rw [← z]; exact List.mem_of_getElem? h3)
      exact ⟨g, rp, rq, vs2, by rw [upd_ne nr]; exact h4, h5⟩
end
theorem erase_perm {α : Type} : ∀ (l : List α) (m : Nat) (h : m < l.length), (l[m] :: l.eraseIdx m).Perm l
  | x :: l, 0, h => List.Perm.refl _
  | x :: l, m + 1, h => by
    have h' : m < l.length := by simpa using h
    exact (List.Perm.swap x l[m] (l.eraseIdx m)).trans ((erase_perm l m h').cons x)
section
variable {P : Program} {w : World} {K : PySem.W.Frag} {mg : Str → Option Value} {base : Heap} {f : Addr} {fd : FuncData}
/-! _law_order -/
def spOrder : Sp := fun vs H Q _ => ∃ (G : Hp) (p q : Addr) (n : Nat), vs = [.ref p, .int (n : Int)] ∧ Pl G H p q ∧ 2 ≤ n ∧ n ≤ 8 ∧ ∀ H' a (os : List Int), Pl G H' p q → Off p q H H' → H a = none → H' a = some (.lst (os.map V.int)) → OsOk n os → Q (.ref a) H'
abbrev sOrder : Stmt := top 68
abbrev nOrder : List Str := ["_law_pool_here", "_law_size", "_law_left", "_law_order_here", "_law_count"]
theorem scOrder : FnScope nOrder ["_law_pool_here", "_law_size"] (defScope sOrder) := ⟨rfl, rfl, rfl, by decide +kernel, rfl, by decide +kernel, by decide +kernel⟩
theorem ok_order (B : Bl mg) (C : Cal P w K mg base "_law_draw" ["_law_pool_here", "_law_size"] 1 spDraw) (F : FnP K "_law_order" sOrder f fd) : FnOk P w K mg base CX0 2 f fd ["_law_pool_here", "_law_size"] spOrder := by
  refine F.ok scOrder (fun vs H Q E h => ?_) (fun cdv A outer s H vs Q E hr h => ?_)
  · obtain ⟨G, p, q, n, rfl, _⟩ := h
    rfl
  · obtain ⟨G, p, q, n, rfl, hP, hn2, hn8, k⟩ := h
    refine ⟨_, pss_cons (ps_set (i := 2) scOrder.nd rfl (Or.inl rfl) (pe_listRg rfl (by rfl) B.list (prg_2 (by rfl) B.range pe_int (pv 1))))
      (pss_cons (ps_set (i := 3) scOrder.nd rfl (Or.inl rfl) (pe_lst (pa_cons pe_int pa_nil)))
      (pss_cons (ps_for (passes_of rfl) rfl (pi_range1 (by rfl) B.range (pa_cons (pe_op op_sub (pv 1) pe_int) pa_nil)) (pg_name (i := 4) scOrder.nd rfl (Or.inl rfl))
        (pss_one (ps_expr (pe_bm PySem.F.plainAttrs_list PySem.F.slot_list_append PySem.F.type_list_append mt_append (pv 3) (pa_cons
          (pe_bm PySem.F.plainAttrs_list PySem.F.slot_list_pop PySem.F.type_list_pop mt_popAt (pv 2) (pa_cons (pe_cal C hr (by rfl) (pa_cons (pv 0) (pa_cons (pe_callB call_len_seq (by rfl) B.len PySem.boot_len (pa_cons (pv 2) pa_nil)) pa_nil))) pa_nil)) pa_nil)))))
      (pss_one (ps_ret (pv 3))))), ?_⟩
    refine ⟨.int (n : Int), rfl, 1, (n : Int), rfl, rfl, RgOk.of_le (by decide) (by omega) (by decide) (by omega), fun a1 ha1 => ?_⟩
    refine ⟨by show 1 ≤ sizeLine; decide, fun a2 ha2 => ?_⟩
    have n12 : a1 ≠ a2 := fun z => by rw [← z, upd_same] at ha2; cases ha2
    have ha2' : H a2 = none := by rw [upd_ne (Ne.symm n12)] at ha2; exact ha2
    have ga1 := fresh_back hP.ex ha1
    have ga2 := fresh_back hP.ex ha2'
    have p1 := hP.np ha1
    have q1 := hP.nq ha1
    have p2 := hP.np ha2'
    have q2 := hP.nq ha2'
    have e0 : rgV 1 (n : Int) = ((List.range (n - 1)).map fun (i : Nat) => (1 : Int) + (i : Int)).map V.int := by
      unfold rgV
      rw [show ((n : Int) - 1).toNat = n - 1 by omega, List.map_map]
      rfl
    change tSeq _ _ _ [some (.ref p), some (.int (n : Int)), some (.ref a1), some (.ref a2), none] _
    refine q_forR1 (ea_cons (ev_op (ev_var rfl) ev_c rv_I0) ea_nil) (n := (n : Int) - 1) (by omega) (fun i σ' H' => ∃ (ls os : List Int) (o : Option V), σ' = [some (.ref p), some (.int (n : Int)), some (.ref a1), some (.ref a2), o] ∧ Pl G H' p q ∧ Off p q H H' ∧ H' a1 = some (.lst (ls.map V.int)) ∧ H' a2 = some (.lst (os.map V.int)) ∧ ls.length + i = n - 1 ∧ os.length = i + 1 ∧ (os ++ ls).Nodup ∧ os[0]? = some 0 ∧ ∀ x ∈ os ++ ls, 0 ≤ x ∧ x < n) ?_ ?_ ?_
    · intro H1 e1
      refine ⟨_, [0], none, rfl, ((hP.ext (Ex.new ha1)).ext (Ex.new ha2)).ext e1, Off.ex (((Ex.new ha1).trans (Ex.new ha2)).trans e1), e1 _ _ (by rw [upd_ne n12, upd_same, e0]), e1 _ _ upd_same, by simp, rfl, ?_, rfl, fun x hx => ?_⟩
      · refine List.nodup_cons.mpr ⟨fun z => ?_, ?_⟩
        · obtain ⟨i, hi, e⟩ := List.mem_map.mp (show (0 : Int) ∈ (List.range (n - 1)).map fun (i : Nat) => (1 : Int) + (i : Int) from z)
          omega
        · show ((List.range (n - 1)).map fun (i : Nat) => (1 : Int) + (i : Int)).Nodup
          unfold List.Nodup
          rw [List.pairwise_map]
          exact (List.nodup_range (n := n - 1)).imp (fun h e => h (by omega))
      · rcases List.mem_cons.mp (show x ∈ (0 : Int) :: (List.range (n - 1)).map fun (i : Nat) => (1 : Int) + (i : Int) from hx) with z | z
        · rw [z]; omega
        · obtain ⟨i, hi, rfl⟩ := List.mem_map.mp z
          have := List.mem_range.mp hi
          omega
    · rintro i σ' H1 hi ⟨ls, os, o, rfl, hP1, hO, h1, h2, hl, hol, b1, b2, b3⟩
      have hlp : 0 < ls.length := by omega
      refine ⟨.ref a2, rfl, .inl ⟨rfl, _, sq_of h2⟩, .ref a1, rfl, .inl ⟨rfl, _, sq_of h1⟩, .ref p, rfl, .ref a1, rfl, a1, _, rfl, .inl (sq_of h1), ?_⟩
      refine ⟨Hd H1 p q, p, q, ((ls.map V.int).length : Int), rfl, hP1.hd, by rw [List.length_map]; omega, by rw [List.length_map]; omega, fun H2 j hP0 hj0 hj1 => ?_⟩
      have hP2 := hP1.back hP0
      have hO2 := hP0.off
      rw [List.length_map] at hj1
      obtain ⟨m, rfl⟩ : ∃ m : Nat, j = (m : Int) := ⟨j.toNat, by omega⟩
      have hm : m < ls.length := by omega
      have h1' := hO2 _ _ p1 q1 h1
      have h2' := hO2 _ _ p2 q2 h2
      refine ⟨a1, _, (m : Int), m, .int ls[m], rfl, rfl, h1', by omega, by omega, by rw [List.length_map]; exact seqIx hm, by rw [List.getElem?_map, List.getElem?_eq_getElem hm]; rfl, ?_⟩
      refine ⟨a2, _, .int ls[m], rfl, rfl, by rw [upd_ne (Ne.symm n12)]; exact h2', by rw [List.length_map, sizeLine_eq]; omega, ?_⟩
      have hpm : ((os ++ [ls[m]]) ++ ls.eraseIdx m).Perm (os ++ ls) := by
        rw [List.append_assoc]
        exact (erase_perm ls m hm).append_left os
      refine ⟨ls.eraseIdx m, os ++ [ls[m]], _, rfl, (hP2.mut ga1 p1 q1).mut ga2 p2 q2, fun b u hb1 hb2 hb => ?_, by rw [upd_ne n12, upd_same, eraseIdx_mp], by rw [upd_same, List.map_append]; rfl, by rw [List.length_eraseIdx_of_lt hm]; omega, by simp; omega, hpm.nodup_iff.mpr b1, ?_, fun x hx => b3 x (hpm.mem_iff.mp hx)⟩
      · have nb1 : b ≠ a1 := ne_of_none hb ha1
        have nb2 : b ≠ a2 := ne_of_none hb ha2'
        rw [upd_ne nb2, upd_ne nb1]
        exact hO2 _ _ hb1 hb2 (hO _ _ hb1 hb2 hb)
      · rw [List.getElem?_append_left (by omega)]
        exact b2
    · rintro σ' H1 ⟨ls, os, o, rfl, hP1, hO, h1, h2, hl, hol, b1, b2, b3⟩
      have hls : ls = [] := List.length_eq_zero_iff.mp (by omega)
      subst hls
      rw [List.append_nil] at b1 b3
      exact ⟨.ref a2, rfl, k H1 a2 os hP1 hO ha2' h2 ⟨by omega, b1, b2, b3⟩⟩
end
end Wk

set_option Elab.async false
set_option linter.all false
set_option maxRecDepth 100000
set_option maxHeartbeats 2000000
namespace Wk
open PySem PySem.Spec PyProof.Rows L2 Evl
theorem GW.empty {rows : List (List Wy)} (h : ∀ row ∈ rows, row = []) : GW rows := by
  have key : ∀ (i : Nat) (row : List Wy), rows[i]? = some row → row = [] := fun i row e => h row (List.mem_of_getElem? e)
  refine ⟨fun row e => key 0 row e, fun i row e => by rw [key i row e]; exact List.nodup_nil, fun i row e w hw => ?_, fun i row e w hw => ?_⟩
  · rw [key i row e] at hw; cases hw
  · rw [key i row e] at hw; cases hw
/-! how many takings -/
def tks : List (List Wy) → Nat
  | [] => 1
  | r :: rs => (r.length + 1) * tks rs
theorem tks_pos : ∀ rows : List (List Wy), 1 ≤ tks rows
  | [] => Nat.le_refl 1
  | r :: rs => Nat.mul_pos (Nat.succ_pos _) (tks_pos rs)
theorem tks_set : ∀ {rows : List (List Wy)} {i : Nat} {row row' : List Wy}, rows[i]? = some row → tks (rows.set i row') * (row.length + 1) = tks rows * (row'.length + 1)
  | [], _, _, _, h => by simp at h
  | r :: rs, 0, row, row', h => by
    have e : r = row := by simpa using h
    subst e
    show (row'.length + 1) * tks rs * (r.length + 1) = (r.length + 1) * tks rs * (row'.length + 1)
    rw [Nat.mul_comm (row'.length + 1), Nat.mul_assoc, Nat.mul_comm (row'.length + 1), ← Nat.mul_assoc, Nat.mul_comm (tks rs)]
  | r :: rs, i + 1, row, row', h => by
    have h' : rs[i]? = some row := by simpa using h
    show (r.length + 1) * tks (rs.set i row') * (row.length + 1) = (r.length + 1) * tks rs * (row'.length + 1)
    rw [Nat.mul_assoc, tks_set h', ← Nat.mul_assoc]
theorem tks_set_le {rows : List (List Wy)} {i : Nat} {row' : List Wy} (hi : i < rows.length) : tks (rows.set i row') ≤ tks rows * (row'.length + 1) := by
  have h := tks_set (row' := row') (List.getElem?_eq_getElem hi)
  have h1 : tks (rows.set i row') * 1 ≤ tks (rows.set i row') * (rows[i].length + 1) := Nat.mul_le_mul_left _ (by omega)
  omega
theorem tks_empty : ∀ {rows : List (List Wy)}, (∀ row ∈ rows, row = []) → tks rows = 1
  | [], _ => rfl
  | r :: rs, h => by
    have e := h r List.mem_cons_self
    subst e
    show (0 + 1) * tks rs = 1
    rw [tks_empty fun x hx => h x (List.mem_cons_of_mem _ hx)]
theorem tks_append : ∀ (a b : List (List Wy)), tks (a ++ b) = tks a * tks b
  | [], b => by show tks b = 1 * tks b; rw [Nat.one_mul]
  | r :: a, b => by
    show (r.length + 1) * tks (a ++ b) = (r.length + 1) * tks a * tks b
    rw [tks_append a b, Nat.mul_assoc]
theorem tks_take {rows : List (List Wy)} {i : Nat} {row : List Wy} (h : rows[i]? = some row) : tks (rows.take (i + 1)) = tks (rows.take i) * (row.length + 1) := by
  rw [take_snoc h, tks_append]
  show _ * ((row.length + 1) * 1) = _
  rw [Nat.mul_one]
def tkM (n : Nat) : Nat := if n ≤ 5 then 81 else 128
/-- a ring that is being planted -/
structure RingI (n many : Nat) (os : List Int) (i : Nat) (rows : List (List Wy)) : Prop where
  len : rows.length = n
  shape : ∀ (j : Nat) (row : List Wy), rows[j]? = some row → row = [] ∨ ∃ (k : Nat) (x y : Int), 1 ≤ k ∧ k ≤ many ∧ os[k]? = some x ∧ os[k % many + 1]? = some y ∧ x = (j : Int) ∧ row = [[x, y, 0], [x, 0]]
  done : ∀ (k : Nat) (x : Int), 1 ≤ k → k ≤ i → os[k]? = some x → ∃ row, rows[x.toNat]? = some row ∧ [x, 0] ∈ row
  tk : tks rows ≤ 3 ^ i
theorem ring_start {n many : Nat} {os : List Int} {rows : List (List Wy)} (hl : rows.length = n) (h : ∀ row ∈ rows, row = []) : RingI n many os 0 rows :=
  ⟨hl, fun j row e => .inl (h row (List.mem_of_getElem? e)), fun k x h1 h2 => by omega, by rw [tks_empty h]; decide⟩
theorem ring_turn {n many : Nat} {os : List Int} {i : Nat} {rows : List (List Wy)} (ho : OsOk n os) (h : RingI n many os i rows) (hi : i + 1 ≤ many) {x y : Int} (hx : os[i + 1]? = some x) (hy : os[(i + 1) % many + 1]? = some y) : RingI n many os (i + 1) (rows.set x.toNat [[x, y, 0], [x, 0]]) := by
  have rx := ho.rg x (List.mem_of_getElem? hx)
  have hxl : x.toNat < rows.length := by rw [h.len]; omega
  refine ⟨by rw [List.length_set]; exact h.len, fun j row e => ?_, fun k z h1 h2 hz => ?_, by
    have z := tks_set_le (row' := [[x, y, 0], [x, 0]]) hxl
    have z2 := h.tk
    have e3 : ([[x, y, 0], [x, 0]] : List Wy).length + 1 = 3 := rfl
    rw [e3] at z
    rw [Nat.pow_succ]
    omega⟩
  · by_cases c : x.toNat = j
    · subst c
      rw [List.getElem?_set_self hxl] at e
      exact .inr ⟨i + 1, x, y, by omega, hi, hx, hy, by omega, (Option.some.inj e).symm⟩
    · rw [List.getElem?_set_ne c] at e
      exact h.shape j row e
  · by_cases c : k = i + 1
    · subst c
      rw [hx] at hz
      cases hz
      exact ⟨_, List.getElem?_set_self hxl, by simp⟩
    · obtain ⟨row, e1, e2⟩ := h.done k z h1 (by omega) hz
      have rz := ho.rg z (List.mem_of_getElem? hz)
      have ne : x.toNat ≠ z.toNat := fun q => c (ho.ne hz (by rw [hx]; congr 1; omega))
      exact ⟨row, by rw [List.getElem?_set_ne ne]; exact e1, e2⟩
theorem ring_end {n many : Nat} {os : List Int} {rows : List (List Wy)} (ho : OsOk n os) (h2 : 2 ≤ many) (hn : many + 1 ≤ n) (h : RingI n many os many rows) : GW rows ∧ ∀ row ∈ rows, row.length ≤ 2 := by
  have idx : ∀ k, 1 ≤ k → k ≤ many → 1 ≤ k % many + 1 ∧ k % many + 1 ≤ many ∧ k % many + 1 ≠ k := fun k k1 k2 => by
    by_cases c : k = many
    · subst c
      rw [Nat.mod_self]
      omega
    · rw [Nat.mod_eq_of_lt (by omega)]
      omega
  have nz : ∀ (k : Nat) (x : Int), 1 ≤ k → os[k]? = some x → x ≠ 0 := fun k x k1 hx z => by
    rw [z] at hx
    have := ho.ne hx ho.hd
    omega
  refine ⟨⟨fun row e => ?_, fun i row e => ?_, fun i row e w hw => ?_, fun i row e w hw => ?_⟩, fun row hr => ?_⟩
  · rcases h.shape 0 row e with z | ⟨k, x, y, k1, k2, hx, hy, e1, e2⟩
    · exact z
    · exact absurd e1 (nz k x k1 hx)
  · rcases h.shape i row e with z | ⟨k, x, y, k1, k2, hx, hy, e1, e2⟩
    · rw [z]; exact List.nodup_nil
    · rw [e2]
      simp
  · rcases h.shape i row e with z | ⟨k, x, y, k1, k2, hx, hy, e1, e2⟩
    · rw [z] at hw; cases hw
    · obtain ⟨m1, m2, m3⟩ := idx k k1 k2
      have x0 := nz k x k1 hx
      have y0 := nz _ y m1 hy
      have xy : x ≠ y := fun z => m3 (ho.ne hy (by rw [hx, z]))
      have rx := ho.rg x (List.mem_of_getElem? hx)
      have ry := ho.rg y (List.mem_of_getElem? hy)
      rw [h.len]
      rw [e2] at hw
      rcases List.mem_cons.mp hw with z | z
      · rw [z]
        refine ⟨by simp, by simp, by simp [e1], rfl, by simp [xy, x0, y0], fun u hu => ?_⟩
        simp only [List.mem_cons, List.not_mem_nil, or_false] at hu
        rcases hu with rfl | rfl | rfl <;> omega
      · rw [List.mem_singleton.mp z]
        refine ⟨by simp, by simp, by simp [e1], rfl, by simp [x0], fun u hu => ?_⟩
        simp only [List.mem_cons, List.not_mem_nil, or_false] at hu
        rcases hu with rfl | rfl <;> omega
  · rcases h.shape i row e with z | ⟨k, x, y, k1, k2, hx, hy, e1, e2⟩
    · rw [z] at hw; cases hw
    · obtain ⟨m1, m2, m3⟩ := idx k k1 k2
      have ry := ho.rg y (List.mem_of_getElem? hy)
      rw [e2] at hw
      rcases List.mem_cons.mp hw with z | z
      · rw [z]
        obtain ⟨row', r1, r2⟩ := h.done _ y m1 m2 hy
        refine .inr ⟨y.toNat, row', ?_, r1, r2⟩
        show some y = some ((y.toNat : Nat) : Int)
        congr 1
        omega
      · rw [List.mem_singleton.mp z]
        exact .inl rfl
  · obtain ⟨i, hi⟩ := List.mem_iff_getElem?.mp hr
    rcases h.shape i row hi with z | ⟨k, x, y, k1, k2, hx, hy, e1, e2⟩
    · rw [z]; simp
    · rw [e2]; simp
/-- a chain that is being planted -/
def chn (os : List Int) (k : Nat) : Wy := (os.take (k + 1)).reverse
structure ChI (n : Nat) (os : List Int) (i : Nat) (rows : List (List Wy)) : Prop where
  len : rows.length = n
  shape : ∀ (j : Nat) (row : List Wy), rows[j]? = some row → row = [] ∨ ∃ (k : Nat) (x : Int), 1 ≤ k ∧ k ≤ i ∧ os[k]? = some x ∧ x = (j : Int) ∧ row = [chn os k]
  done : ∀ (k : Nat) (x : Int), 1 ≤ k → k ≤ i → os[k]? = some x → rows[x.toNat]? = some [chn os k]
  tk : tks rows ≤ 2 ^ i
theorem ch_start {n : Nat} {os : List Int} {rows : List (List Wy)} (hl : rows.length = n) (h : ∀ row ∈ rows, row = []) : ChI n os 0 rows :=
  ⟨hl, fun j row e => .inl (h row (List.mem_of_getElem? e)), fun k x h1 h2 => by omega, by rw [tks_empty h]; decide⟩
theorem ch_turn {n : Nat} {os : List Int} {i : Nat} {rows : List (List Wy)} (ho : OsOk n os) (h : ChI n os i rows) {x : Int} (hx : os[i + 1]? = some x) : ChI n os (i + 1) (rows.set x.toNat [chn os (i + 1)]) := by
  have rx := ho.rg x (List.mem_of_getElem? hx)
  have hxl : x.toNat < rows.length := by rw [h.len]; omega
  refine ⟨by rw [List.length_set]; exact h.len, fun j row e => ?_, fun k z h1 h2 hz => ?_, by
    have z := tks_set_le (row' := [chn os (i + 1)]) hxl
    have z2 := h.tk
    have e3 : ([chn os (i + 1)] : List Wy).length + 1 = 2 := rfl
    rw [e3] at z
    rw [Nat.pow_succ]
    omega⟩
  · by_cases c : x.toNat = j
    · subst c
      rw [List.getElem?_set_self hxl] at e
      exact .inr ⟨i + 1, x, by omega, by omega, hx, by omega, (Option.some.inj e).symm⟩
    · rw [List.getElem?_set_ne c] at e
      rcases h.shape j row e with z | ⟨k, y, k1, k2, r⟩
      · exact .inl z
      · exact .inr ⟨k, y, k1, by omega, r⟩
  · by_cases c : k = i + 1
    · subst c
      rw [hx] at hz
      cases hz
      exact List.getElem?_set_self hxl
    · have e1 := h.done k z h1 (by omega) hz
      have rz := ho.rg z (List.mem_of_getElem? hz)
      have ne : x.toNat ≠ z.toNat := fun q => c (ho.ne hz (by rw [hx]; congr 1; omega))
      rw [List.getElem?_set_ne ne]
      exact e1
theorem chn_len {os : List Int} {k : Nat} (h : k < os.length) : (chn os k).length = k + 1 := by
  unfold chn
  rw [List.length_reverse, List.length_take]
  omega
theorem chn_get {os : List Int} {k i : Nat} (h : k < os.length) (hi : i ≤ k) : (chn os k)[i]? = os[k - i]? := by
  unfold chn
  rw [List.getElem?_reverse (by rw [List.length_take]; omega), List.length_take, Nat.min_eq_left (by omega), List.getElem?_take, if_pos (by omega)]
  congr 1
theorem chn_drop {os : List Int} {k : Nat} (h : k + 1 < os.length) : (chn os (k + 1)).drop 1 = chn os k := by
  have e : os.take (k + 1 + 1) = os.take (k + 1) ++ [os[k + 1]] := by
    rw [List.take_add_one, List.getElem?_eq_getElem h]
    rfl
  unfold chn
  rw [e, List.reverse_append]
  rfl
theorem ch_end {n : Nat} {os : List Int} {i : Nat} {rows : List (List Wy)} (ho : OsOk n os) (h8 : n ≤ 8) (h : ChI n os i rows) : GW rows ∧ ∀ row ∈ rows, row.length ≤ 2 := by
  have nz : ∀ (k : Nat) (x : Int), 1 ≤ k → os[k]? = some x → x ≠ 0 := fun k x k1 hx z => by
    rw [z] at hx
    have := ho.ne hx ho.hd
    omega
  have hol := ho.len
  refine ⟨⟨fun row e => ?_, fun i row e => ?_, fun i row e w hw => ?_, fun i row e w hw => ?_⟩, fun row hr => ?_⟩
  · rcases h.shape 0 row e with z | ⟨k, x, k1, k2, hx, e1, e2⟩
    · exact z
    · exact absurd e1 (nz k x k1 hx)
  · rcases h.shape i row e with z | ⟨k, x, k1, k2, hx, e1, e2⟩
    · rw [z]; exact List.nodup_nil
    · rw [e2]
      simp
  · rcases h.shape i row e with z | ⟨k, x, k1, k2, hx, e1, e2⟩
    · rw [z] at hw; cases hw
    · have hk := (List.getElem?_eq_some_iff.mp hx).1
      rw [h.len]
      rw [e2] at hw
      rw [List.mem_singleton.mp hw]
      refine ⟨by rw [chn_len hk]; omega, by rw [chn_len hk]; omega, by rw [chn_get hk (Nat.zero_le k), Nat.sub_zero, hx, e1], ?_, ?_, fun u hu => ?_⟩
      · rw [List.getLast?_eq_getElem?, chn_len hk, chn_get hk (by omega), show k - (k + 1 - 1) = 0 by omega]
        exact ho.hd
      · unfold chn List.Nodup
        rw [List.pairwise_reverse]
        exact ((List.take_sublist (k + 1) os).nodup ho.nd).imp (fun h e => h e.symm)
      · unfold chn at hu
        exact ho.rg u (List.mem_of_mem_take (List.mem_reverse.mp hu))
  · rcases h.shape i row e with z | ⟨k, x, k1, k2, hx, e1, e2⟩
    · rw [z] at hw; cases hw
    · have hk := (List.getElem?_eq_some_iff.mp hx).1
      rw [e2] at hw
      rw [List.mem_singleton.mp hw]
      obtain ⟨k', rfl⟩ : ∃ k', k = k' + 1 := ⟨k - 1, by omega⟩
      by_cases c : k' = 0
      · subst c
        left
        rw [chn_drop hk]
        cases os with
        | nil => simp at hk
        | cons a l =>
          have := ho.hd
          simp at this
          simp [chn, this]
      · right
        have hk' : k' < os.length := by omega
        have hy : os[k']? = some os[k'] := List.getElem?_eq_getElem hk'
        have ry := ho.rg _ (List.mem_of_getElem? hy)
        refine ⟨(os[k']).toNat, [chn os k'], ?_, h.done k' _ (by omega) (by omega) hy, by rw [chn_drop hk]; exact List.mem_singleton.mpr rfl⟩
        rw [chn_get hk (by omega), show k' + 1 - 1 = k' by omega, hy]
        congr 1
        omega
  · obtain ⟨j, hj⟩ := List.mem_iff_getElem?.mp hr
    rcases h.shape j row hj with z | ⟨k, x, k1, k2, hx, e1, e2⟩
    · rw [z]; simp
    · rw [e2]; simp
theorem chn_range {os : List Int} {i : Nat} (h : 1 + i < os.length) : (List.range (1 + (i : Int) + 1).toNat).map (fun s => os.getD (1 + i - s) 0) = chn os (i + 1) := by
  apply List.ext_getElem?
  intro j
  have e : (1 + (i : Int) + 1).toNat = i + 2 := by omega
  rw [e, List.getElem?_map]
  by_cases c : j < i + 2
  · rw [List.getElem?_range c, chn_get (by omega) (by omega)]
    have hl : 1 + i - j < os.length := by omega
    show some (os.getD (1 + i - j) 0) = os[i + 1 - j]?
    rw [List.getD_eq_getElem?_getD, show i + 1 - j = 1 + i - j by omega, List.getElem?_eq_getElem hl]
    rfl
  · rw [List.getElem?_eq_none (by simp; omega), List.getElem?_eq_none (by rw [chn_len (by omega)]; omega)]
    rfl
theorem tk_ring {rows : List (List Wy)} {n many : Nat} (h : tks rows ≤ 3 ^ many) (h4 : many ≤ 4) : tks rows ≤ tkM n := by
  have : (3 : Nat) ^ many ≤ 3 ^ 4 := Nat.pow_le_pow_right (by decide) h4
  have e : (3 : Nat) ^ 4 = 81 := by decide
  unfold tkM
  split <;> omega
theorem tk_ch {rows : List (List Wy)} {n i : Nat} (h8 : n ≤ 8) (hi : i + 1 ≤ n) (h : tks rows ≤ 2 ^ i) : tks rows ≤ tkM n := by
  unfold tkM
  split
  · have : (2 : Nat) ^ i ≤ 2 ^ 4 := Nat.pow_le_pow_right (by decide) (by omega)
    have e : (2 : Nat) ^ 4 = 16 := by decide
    omega
  · have : (2 : Nat) ^ i ≤ 2 ^ 7 := Nat.pow_le_pow_right (by decide) (by omega)
    have e : (2 : Nat) ^ 7 = 128 := by decide
    omega
section
variable {P : Program} {w : World} {K : PySem.W.Frag} {mg : Str → Option Value} {base : Heap} {f : Addr} {fd : FuncData}
/-! _law_planted -/
def spPlanted : Sp := fun vs H Q _ => ∃ (G : Hp) (p q : Addr) (n : Nat), vs = [.ref p, .int (n : Int)] ∧ Pl G H p q ∧ 2 ≤ n ∧ n ≤ 8 ∧ ∀ G' H' R rs rows, Ex G G' → Pl G' H' p q → Rz G' H' p q R rs rows → rows.length = n → GW rows → (∀ row ∈ rows, row.length ≤ 2) → tks rows ≤ tkM n → Q (.ref R) H'
abbrev sPlanted : Stmt := top 69
abbrev nPlanted : List Str := ["_law_pool_here", "_law_size", "_law_lists_here", "_law_kind", "_law_order_here", "_law_many", "_law_k", "_law_router", "_law_step"]
theorem scPlanted : FnScope nPlanted ["_law_pool_here", "_law_size"] (defScope sPlanted) := ⟨rfl, rfl, rfl, by decide +kernel, rfl, by decide +kernel, by decide +kernel⟩
theorem ok_planted (B : Bl mg) (C : Cal P w K mg base "_law_draw" ["_law_pool_here", "_law_size"] 1 spDraw) (C2 : Cal P w K mg base "_law_order" ["_law_pool_here", "_law_size"] 2 spOrder) (F : FnP K "_law_planted" sPlanted f fd) : FnOk P w K mg base CX0 3 f fd ["_law_pool_here", "_law_size"] spPlanted := by
  refine F.ok scPlanted (fun vs H Q E h => ?_) (fun cdv A outer s H vs Q E hr h => ?_)
  · obtain ⟨G, p, q, n, rfl, _⟩ := h
    rfl
  · obtain ⟨G, p, q, n, rfl, hP, hn2, hn8, k⟩ := h
    have hr1 : Room 1 _ := hr.mono (by decide)
    refine ⟨_, pss_cons (ps_setLc (i := 2) (own := [("_law_router", 7)]) (g := gName 7) (tt := tYes) rfl scPlanted.nd rfl rfl (sw_true rfl rfl rfl (by decide +kernel)) (pi_range1 (by rfl) B.range (pa_cons (pv 1) pa_nil)) (blkOk_by (N := nPlanted) (sc := defScope sPlanted) (by decide +kernel))
          (fun _ _ _ _ _ => pg_name (i := 7) scPlanted.nd rfl (Or.inl rfl)) (fun _ _ _ _ _ => pts_nil) (fun _ _ _ _ _ => pe_lst pa_nil))
      (pss_cons (ps_set (i := 3) scPlanted.nd rfl (Or.inl rfl) (pe_cal C hr1 (by rfl) (pa_cons (pv 0) (pa_cons pe_int pa_nil))))
      (pss_cons (ps_set (i := 4) scPlanted.nd rfl (Or.inr rfl) (pe_cal C2 hr (by rfl) (pa_cons (pv 0) (pa_cons (pv 1) pa_nil))))
      (pss_cut (ps_if (PW.pt (pw_and (pt_cmpR op_lt (pv 3) pe_int (nomark _)) (pw_and1 (pt_cmpR op_gt (pv 1) pe_int (nomark _)))))
          (pss_cons (ps_set (i := 5) scPlanted.nd rfl (Or.inl rfl) (pe_op op_add pe_int (pe_cal C hr1 (by rfl) (pa_cons (pv 0) (pa_cons (pe_callB (call_min2 rfl) (by rfl) B.min boot_min (pa_cons pe_int (pa_cons (pe_op op_sub (pv 1) pe_int) pa_nil))) pa_nil)))))
            (pss_one (ps_for (passes_of rfl) rfl (pi_range2 (by rfl) B.range (pa_cons pe_int (pa_cons (pe_op op_add (pv 5) pe_int) pa_nil))) (pg_name (i := 6) scPlanted.nd rfl (Or.inr rfl))
              (pss_one (ps_asg (pe_lst (pa_cons (pe_tup (pa_cons (pe_ix ix_list (pv 4) (pv 6) (fun _ _ => rfl)) (pa_cons (pe_ix ix_list (pv 4) (pe_op op_add (pe_op op_mod (pv 6) (pv 5)) pe_int) (fun _ _ => rfl)) (pa_cons pe_int pa_nil)))) (pa_cons (pe_tup (pa_cons (pe_ix ix_list (pv 4) (pv 6) (fun _ _ => rfl)) (pa_cons pe_int pa_nil))) pa_nil)))
                (pg_sub (pv 2) (pe_ix ix_list (pv 4) (pv 6) (fun _ _ => rfl)) set_list)))))) pss_nil)
      (pss_cut (ps_if (pt_cmpR op_eq (pv 3) pe_int (nomark _))
          (pss_one (ps_for (passes_of rfl) rfl (pi_range2 (by rfl) B.range (pa_cons pe_int (pa_cons (pv 1) pa_nil))) (pg_name (i := 6) scPlanted.nd rfl (Or.inr rfl))
            (pss_one (ps_asg (pe_lst (pa_cons (pe_callTy call_tuple_of (by rfl) B.tuple PyProof.Rows.boot_tuple (pa_cons (pe_lc (own := [("_law_step", 8)]) (g := gName 8) (tt := tYes) rfl scPlanted.nd (pi_range1 (by rfl) B.range (pa_cons (pe_op op_add (pv 6) pe_int) pa_nil)) (blkOk_by (N := nPlanted) (sc := defScope sPlanted) (by decide +kernel))
                (fun _ _ _ _ _ => pg_name (i := 8) scPlanted.nd rfl (Or.inl rfl)) (fun _ _ _ _ _ => pts_nil) (fun _ _ _ _ _ => pe_ix (ix_listK (K := K) rfl) (pv 4) (pe_op op_sub (pv 6) (pv 8)) (fun _ _ => rfl))) pa_nil)) pa_nil))
              (pg_sub (pv 2) (pe_ix ix_list (pv 4) (pv 6) (fun _ _ => rfl)) set_list))))) pss_nil)
      (pss_one (ps_ret (pv 2))))))), ?_⟩
    refine ⟨.int (n : Int), rfl, (n : Int), rfl, by omega, by omega, fun R hR => lc_range (lo := 0) (n := (n : Int).toNat) (fun i H' => ∃ rs : List Addr, Ex H H' ∧ H' R = some (.lst (rs.map V.ref)) ∧ rs.length = i ∧ R ∉ rs ∧ rs.Nodup ∧ ∀ r ∈ rs, H r = none ∧ H' r = some (.lst [])) ⟨[], Ex.new hR, upd_same, rfl, by simp, List.nodup_nil, by simp⟩ ?_ ?_⟩
    · rintro i H' hi ⟨rs, e, hRl, hl, hnin, hnd, hrow⟩
      refine ⟨rfl, Nat.zero_le _, fun b hb => ?_⟩
      have nRb : R ≠ b := ne_of_none hRl hb
      have hbn : b ∉ rs := fun z => by
        have := (hrow b z).2
        rw [hb] at this
        cases this
      refine ⟨_, by rw [upd_ne nRb]; exact hRl, by rw [List.length_map, sizeLine_eq]; omega, rs ++ [b], fun c o hc => ?_, by rw [upd_same, List.map_append]; rfl, by simp [hl], fun z => ?_, nd_snoc hnd hbn, fun r hr => ?_⟩
      · have h1 := e _ _ hc
        rw [upd_ne (ne_of_none hc hR), upd_ne (ne_of_none h1 hb)]
        exact h1
      · rcases List.mem_append.mp z with z | z
        · exact hnin z
        · exact nRb (List.mem_singleton.mp z)
      · rcases List.mem_append.mp hr with z | z
        · obtain ⟨r1, r2⟩ := hrow r z
          have nr : r ≠ R := fun c => hnin (by rw [← c]; exact z)
          exact ⟨r1, by rw [upd_ne nr, upd_ne (ne_of_none r2 hb)]; exact r2⟩
        · rw [List.mem_singleton.mp z]
          exact ⟨fresh_back e hb, by rw [upd_ne (Ne.symm nRb), upd_same]⟩
    rintro H1 ⟨rs, e1, hRl, hrl, hnin, hnd, hrow⟩
    have hrl' : rs.length = n := by omega
    have hP1 := hP.ext e1
    have hW1 : Rz G H1 p q R rs (List.replicate n []) := ⟨hRl, fresh_back hP.ex hR, hP.np hR, hP.nq hR, hnin, hnd, by rw [hrl', List.length_replicate], fun i r row hr hw => by
      have hm := hrow r (List.mem_of_getElem? hr)
      have er : row = [] := (List.mem_replicate.mp (List.mem_of_getElem? hw)).2
      subst er
      exact ⟨fresh_back hP.ex hm.1, hP.np hm.1, hP.nq hm.1, [], hm.2, .nil⟩⟩
    have hE0 : ∀ row ∈ List.replicate n ([] : List Wy), row = [] := fun row hm => (List.mem_replicate.mp hm).2
    refine ⟨.ref p, rfl, Hd H1 p q, p, q, 5, rfl, hP1.hd, by decide, by decide, fun H2 kd hP0 hk0 hk1 => ?_⟩
    have hP2 := hP1.back hP0
    have hW2 := hW1.off hP0.off
    refine ⟨.ref p, rfl, .int (n : Int), rfl, Hd H2 p q, p, q, n, rfl, hP2.hd, hn2, hn8, fun H3 a os hP00 hO3 ha h3 ho => ?_⟩
    have hP3 := hP2.back hP00
    have hW3 := hW2.off hP00.off
    have nap := hP2.np ha
    have naq := hP2.nq ha
    have gaN := fresh_back hP2.ex ha
    -- the order stays from now on
    have hP4 : Pl (upd G a (.lst (os.map V.int))) H3 p q := hP3.hold h3 nap naq
    have eG : Ex G (upd G a (.lst (os.map V.int))) := Ex.new gaN
    have hW4 : Rz (upd G a (.lst (os.map V.int))) H3 p q R rs (List.replicate n []) := hW3.grow eG (by rw [upd_ne (ne_of_none hW2.at_ ha)]; exact hW2.gR) (fun r hr => by
      obtain ⟨g, _, _, vs, h1⟩ := hW2.mem hr
      rw [upd_ne (ne_of_none h1 ha)]
      exact g)
    generalize hG1 : upd G a (.lst (os.map V.int)) = G1 at *
    have hGa : G1 a = some (.lst (os.map V.int)) := by rw [← hG1]; exact upd_same
    have hol := ho.len
    clear hP00 hP0 hO3 hW3 hP3 hW2 hP2 hW1 hP1
    refine ⟨fun σ' H' => ∃ (G' : Hp) (rs' : List Addr) (rows : List (List Wy)) (o5 o6 : Option V), σ' = [some (.ref p), some (.int (n : Int)), some (.ref R), some (.int kd), some (.ref a), o5, o6, none, none] ∧ Ex G1 G' ∧ Pl G' H' p q ∧ Rz G' H' p q R rs' rows ∧ rows.length = n ∧ ((kd < 2 ∧ (GW rows ∧ ∀ row ∈ rows, row.length ≤ 2) ∧ tks rows ≤ tkM n) ∨ ∀ row ∈ rows, row = []), ?_, ?_⟩
    · change tIfS _ _ _ _ [some (.ref p), some (.int (n : Int)), some (.ref R), some (.int kd), some (.ref a), none, none, none, none] H3
      refine s_when (b := decide (kd < 2) && decide ((n : Int) > 2)) (et_and (et_test (ev_op (ev_var rfl) ev_c rv_I0)) fun _ => et_test (ev_op (ev_var rfl) ev_c rv_I0)) (fun hb H4 e4 => ?_) (fun hb H4 e4 => ⟨G1, rs, _, none, none, rfl, Ex.refl _, hP4.ext e4, hW4.ext e4, by simp, .inr hE0⟩)
      have hn3 : 2 < n ∧ kd < 2 := by simp at hb; omega
      have hP5 := hP4.ext e4
      have hW5 := hW4.ext e4
      refine ⟨.ref p, rfl, .int (n : Int), rfl, (n : Int), 2, rfl, rfl, 3, (n : Int) - 2, rfl, Hd H4 p q, p, q, _, rfl, hP5.hd, ?_, ?_, fun H5 y hP0 hy0 hy1 => ⟨2, y, rfl, rfl, ?_⟩⟩
      · split <;> omega
      · split <;> omega
      have hy2 : 2 + y + 1 ≤ n := by split at hy1 <;> omega
      have hy4 : 2 + y ≤ 4 := by split at hy1 <;> omega
      have hP6 := hP5.back hP0
      have hW6 := hW5.off hP0.off
      refine g_name ?_
      obtain ⟨many, hmany⟩ : ∃ m : Nat, (2 : Int) + y = (m : Int) := ⟨(2 + y).toNat, by omega⟩
      refine s_forR2 (ea_cons ev_c (ea_cons (ev_op (ev_var rfl) ev_c rv_I0) ea_nil)) (by omega) (fun i σ' H' => ∃ (G' : Hp) (rs' : List Addr) (rows : List (List Wy)) (o6 : Option V), σ' = [some (.ref p), some (.int (n : Int)), some (.ref R), some (.int kd), some (.ref a), some (.int (2 + y)), o6, none, none] ∧ Ex G1 G' ∧ Pl G' H' p q ∧ Rz G' H' p q R rs' rows ∧ RingI n many os i rows) (fun H6 e6 => ⟨G1, rs, _, none, rfl, Ex.refl _, hP6.ext e6, hW6.ext e6, ring_start (by simp) hE0⟩) ?_ (fun σ' H' ⟨G', rs', rows, o6, e, h1, h2, h3, h4⟩ => by
        rw [show (2 + y + 1 - 1).toNat = many by omega] at h4
        exact ⟨G', rs', rows, _, o6, e, h1, h2, h3, h4.len, .inl ⟨hn3.2, ring_end ho (by omega) (by omega) h4, tk_ring h4.tk (by omega)⟩⟩)
      rintro i σ' H6 hi ⟨G', rs', rows, o6, rfl, eG', hP7, hW7, hI⟩
      change tAsg _ _ _ [some (.ref p), some (.int (n : Int)), some (.ref R), some (.int kd), some (.ref a), some (.int (2 + y)), some (.int (1 + (i : Int))), none, none] H6
      have hA : H6 a = some (.lst (os.map V.int)) := hP7.ex _ _ (eG' _ _ hGa)
      have hk1' : 1 + i < os.length := by omega
      have at1 : atI (os.map V.int) (1 + (i : Int)) = some (.int os[1 + i]) := by
        have q := at_ints hk1'
        rw [show ((1 + i : Nat) : Int) = 1 + (i : Int) by omega] at q
        exact q
      have hmn : (i + 1) % many < many := Nat.mod_lt _ (by omega)
      have hjl : (i + 1) % many + 1 < os.length := by omega
      have hj : (1 + (i : Int)) % (2 + y) + 1 = (((i + 1) % many + 1 : Nat) : Int) := by
        rw [hmany, show (1 : Int) + (i : Int) = ((i + 1 : Nat) : Int) by omega, ← Int.natCast_emod]
        omega
      have at2 : atI (os.map V.int) ((1 + (i : Int)) % (2 + y) + 1) = some (.int os[(i + 1) % many + 1]) := by rw [hj]; exact at_ints hjl
      have ho1 : os[i + 1]? = some os[1 + i] := by rw [show i + 1 = 1 + i by omega]; exact List.getElem?_eq_getElem hk1'
      have ho2 : os[(i + 1) % many + 1]? = some os[(i + 1) % many + 1] := List.getElem?_eq_getElem hjl
      have hx := ho.rg os[1 + i] (List.getElem_mem hk1')
      have hIt := ring_turn ho hI (by omega) ho1 ho2
      generalize os[1 + i] = x1 at *
      generalize os[(i + 1) % many + 1] = x2 at *
      refine ⟨.ref a, rfl, .int (1 + (i : Int)), rfl, a, _, _, .int x1, rfl, rfl, sq_of hA, at1, .ref a, rfl, .int (1 + (i : Int)), rfl, .int (2 + y), rfl, _, _, rfl, rfl, (show (0 : Int) < 2 + y by omega), _, 1, rfl, rfl, a, _, _, .int x2, rfl, rfl, sq_of hA, at2, by show 3 ≤ sizeLine; decide, fun t1 ht1 => ?_⟩
      have n1 : a ≠ t1 := ne_of_none hA ht1
      refine ⟨.ref a, rfl, .int (1 + (i : Int)), rfl, a, _, _, .int x1, rfl, rfl, sq_of (by rw [upd_ne n1]; exact hA), at1, by show 2 ≤ sizeLine; decide, fun t2 ht2 => ⟨by show 2 ≤ sizeLine; decide, fun b hb => ?_⟩⟩
      have gt1 := fresh_back hP7.ex ht1
      have hP8 := hP7.new (o := .tup [.int x1, .int x2, .int 0]) ht1
      have hW8 := hW7.new (o := .tup [.int x1, .int x2, .int 0]) ht1 gt1
      have gt2 := fresh_back hP8.ex ht2
      have hP9 := hP8.new (o := .tup [.int x1, .int 0]) ht2
      have hW9 := hW8.new (o := .tup [.int x1, .int 0]) ht2 gt2
      have hA9 := hP9.ex _ _ ((Ex.new gt2) _ _ ((Ex.new gt1) _ _ (eG' _ _ hGa)))
      have n12 : t1 ≠ t2 := fun z => by rw [← z, upd_same] at ht2; cases ht2
      have hdq : DqA (upd (upd G' t1 (.tup [.int x1, .int x2, .int 0])) t2 (.tup [.int x1, .int 0])) [.ref t1, .ref t2] ([[x1, x2, 0], [x1, 0]].map wd) :=
        .cons (.tup (by rw [upd_ne n12, upd_same]; rfl) (DqA.ints [x1, x2, 0])) (.cons (.tup upd_same (DqA.ints [x1, 0])) .nil)
      have hrn := hI.len
      obtain ⟨f1, f2⟩ := Rz.put (i := x1.toNat) hP9 hW9 (by omega) hb hdq
      have eb := Ex.new (o := .lst [V.ref t1, V.ref t2]) hb
      refine ⟨.ref R, rfl, .ref a, rfl, .int (1 + (i : Int)), rfl, a, _, _, .int x1, rfl, rfl, sq_of (eb _ _ hA9), at1, R, _, x1, x1.toNat, rfl, rfl, eb _ _ hW9.at_, by rw [List.length_map, hW7.len, hrn]; exact ixNat hx.1 hx.2, ?_⟩
      exact ⟨_, rs'.set x1.toNat b, _, _, rfl, (eG'.trans (Ex.new gt1)).trans (Ex.new gt2), f1, f2, hIt⟩
    · rintro σ' H4 ⟨G', rs', rows, o5, o6, rfl, eG', hP5, hW5, hrl5, hC⟩
      refine ⟨fun σ' H' => ∃ (G' : Hp) (rs' : List Addr) (rows : List (List Wy)) (o5 o6 : Option V), σ' = [some (.ref p), some (.int (n : Int)), some (.ref R), some (.int kd), some (.ref a), o5, o6, none, none] ∧ Ex G1 G' ∧ Pl G' H' p q ∧ Rz G' H' p q R rs' rows ∧ rows.length = n ∧ (GW rows ∧ ∀ row ∈ rows, row.length ≤ 2) ∧ tks rows ≤ tkM n, ?_, ?_⟩
      · refine s_when (b := decide (V.int kd = V.int 2)) (et_test (ev_op (ev_var rfl) ev_c (rv_eq rfl))) (fun hb H5 e5 => ?_) (fun hb H5 e5 => ⟨G', rs', rows, o5, o6, rfl, eG', hP5.ext e5, hW5.ext e5, hrl5, ?_⟩)
        rotate_left
        · rcases hC with z | z
          · exact z.2
          · exact ⟨⟨GW.empty z, fun row hm => by rw [z row hm]; simp⟩, by rw [tks_empty z]; unfold tkM; split <;> decide⟩
        have hE : ∀ row ∈ rows, row = [] := by
          have : kd = 2 := by have := of_decide_eq_true hb; injection this
          rcases hC with z | z
          · omega
          · exact z
        refine s_forR2 (ea_cons ev_c (ea_cons (ev_var rfl) ea_nil)) (by omega) (fun i σ' H' => ∃ (G' : Hp) (rs' : List Addr) (rows : List (List Wy)) (o5 o6 : Option V), σ' = [some (.ref p), some (.int (n : Int)), some (.ref R), some (.int kd), some (.ref a), o5, o6, none, none] ∧ Ex G1 G' ∧ Pl G' H' p q ∧ Rz G' H' p q R rs' rows ∧ ChI n os i rows) (fun H6 e6 => ⟨G', rs', rows, o5, o6, rfl, eG', (hP5.ext e5).ext e6, (hW5.ext e5).ext e6, ch_start hrl5 hE⟩) ?_ (fun σ' H' ⟨G', rs', rows, o5, o6, e, h1, h2, h3, h4⟩ => ⟨G', rs', rows, o5, o6, e, h1, h2, h3, h4.len, ch_end ho hn8 h4, tk_ch hn8 (by omega) h4.tk⟩)
        clear hP5 hW5 hrl5 eG' hC hE
        rintro i σ' H6 hi ⟨G', rs', rows, o5, o6, rfl, eG', hP7, hW7, hI⟩
        change tAsg _ _ _ [some (.ref p), some (.int (n : Int)), some (.ref R), some (.int kd), some (.ref a), o5, some (.int (1 + (i : Int))), none, none] H6
        have hA : H6 a = some (.lst (os.map V.int)) := hP7.ex _ _ (eG' _ _ hGa)
        have hk1' : 1 + i < os.length := by omega
        have at1 : atI (os.map V.int) (1 + (i : Int)) = some (.int os[1 + i]) := by
          have q := at_ints hk1'
          rw [show ((1 + i : Nat) : Int) = 1 + (i : Int) by omega] at q
          exact q
        have ho1 : os[i + 1]? = some os[1 + i] := by rw [show i + 1 = 1 + i by omega]; exact List.getElem?_eq_getElem hk1'
        have hx := ho.rg os[1 + i] (List.getElem_mem hk1')
        have hIt := ch_turn ho hI ho1
        generalize os[1 + i] = x1 at *
        have hlc := el_lcR1 (j := 8) (vs := [8]) (σ := [some (.ref p), some (.int (n : Int)), some (.ref R), some (.int kd), some (.ref a), o5, some (.int (1 + (i : Int))), none, none]) (H := H6) (t := tYes) (te := tOp (rIxL K) (tVar 4) (tOp (rI0 fun i j => .int (i - j)) (tVar 6) (tVar 8))) (ta := tCons (tOp (rI0 fun i j => .int (i + j)) (tVar 6) (tC (.int 1))) tNil) (n := 1 + (i : Int) + 1)
          (fun _ => true) (fun s => .int (os.getD (1 + i - s) 0)) (ea_cons (ev_op (ev_var rfl) ev_c rv_I0) ea_nil) (by omega) (fun x => rfl) (fun _ _ _ _ => et_yes) (fun s H7 e7 hs _ => by
            have hsl : 1 + i - s < os.length := by omega
            have q := at_ints hsl
            rw [show ((1 + i - s : Nat) : Int) = 1 + (i : Int) - (s : Int) by omega] at q
            rw [show os.getD (1 + i - s) 0 = os[1 + i - s] by rw [List.getD_eq_getElem?_getD, List.getElem?_eq_getElem hsl]; rfl]
            exact ev_op (ev_var rfl) (ev_op (ev_var rfl) (ev_var rfl) rv_I0) (rv_ixL (sq_of (e7 _ _ hA)) q))
        rw [given_all] at hlc
        have hlc2 : (List.range (1 + (i : Int) + 1).toNat).map (fun s => V.int (os.getD (1 + i - s) 0)) = (chn os (i + 1)).map V.int := by
          rw [← chn_range hk1', List.map_map]
          rfl
        rw [hlc2] at hlc
        refine asg_lst1 (cb1 (hlc H6 (Ex.refl H6) _ fun d1 H7 hd1 e7 hd7 => ?_))
        refine ⟨d1, _, rfl, .inl ⟨sq_of hd7, fun t1 ht1 => ⟨by show 1 ≤ sizeLine; decide, fun b hb => ?_⟩⟩⟩
        have hP8 := hP7.ext e7
        have hW8 := hW7.ext e7
        have gt1 := fresh_back hP8.ex ht1
        have hP9 := hP8.new (o := .tup ((chn os (i + 1)).map V.int)) ht1
        have hW9 := hW8.new (o := .tup ((chn os (i + 1)).map V.int)) ht1 gt1
        have hA9 := hP9.ex _ _ ((Ex.new gt1) _ _ (eG' _ _ hGa))
        have hdq : DqA (upd G' t1 (.tup ((chn os (i + 1)).map V.int))) [.ref t1] ([chn os (i + 1)].map wd) := .cons (.tup upd_same (DqA.ints (chn os (i + 1)))) .nil
        have hrn := hI.len
        obtain ⟨f1, f2⟩ := Rz.put (i := x1.toNat) hP9 hW9 (by omega) hb hdq
        have eb := Ex.new (o := .lst [V.ref t1]) hb
        refine ⟨.ref R, rfl, .ref a, rfl, .int (1 + (i : Int)), rfl, a, _, _, .int x1, rfl, rfl, sq_of (eb _ _ hA9), at1, R, _, x1, x1.toNat, rfl, rfl, eb _ _ hW9.at_, by rw [List.length_map, hW7.len, hrn]; exact ixNat hx.1 hx.2, ?_⟩
        exact ⟨_, rs'.set x1.toNat b, _, _, _, rfl, eG'.trans (Ex.new gt1), f1, f2, hIt⟩
      · rintro σ' H5 ⟨G', rs', rows, o5, o6, rfl, eG', hP6, hW6, hrl6, ⟨hG, h2⟩, htk⟩
        exact ⟨.ref R, rfl, k G' H5 R rs' rows (eG.trans eG') hP6 hW6 hrl6 hG h2 htk⟩
end
end Wk

set_option Elab.async false
set_option linter.all false
set_option maxRecDepth 100000
set_option maxHeartbeats 2000000
namespace Wk
open PySem PySem.Spec PyProof.Rows L2 Evl
theorem lay_wds (ws : List Wy) : PyData.canLayAll0 (ws.map wd) = true := layAll.mpr fun d hd => by
  obtain ⟨w, _, rfl⟩ := List.mem_map.mp hd
  simp [wd, PyData.canLay0, lay_ints]
theorem dep_wds (ws : List Wy) : PyData.depthAll (ws.map wd) ≤ 1 := depAll.mpr fun d hd => by
  obtain ⟨w, _, rfl⟩ := List.mem_map.mp hd
  simp [wd, PyData.depth, depth_ints]
theorem shaped_wds (ws : List Wy) : SeqAt.shaped (.list (ws.map wd)) = true := by
  unfold SeqAt.shaped
  have h1 := lay_wds ws
  have h2 := dep_wds ws
  have : decide ((PyData.list (ws.map wd)).depth ≤ 64) = true := decide_eq_true (by simp only [PyData.depth]; omega)
  rw [this]
  simp [PyData.canLay0, h1]
theorem any_wd (ws : List Wy) (x : Wy) : ((ws.map wd).any fun z => PyData.eqv z (wd x)) = decide (x ∈ ws) := by
  induction ws with
  | nil => rfl
  | cons a l ih =>
    rw [List.map_cons, List.any_cons, ih, eqv_wd]
    by_cases h : a = x
    · subst h; simp
    · rw [decide_eq_false h, Bool.false_or, decide_eq_decide]
      constructor
      · exact fun z => List.mem_cons_of_mem _ z
      · intro z
        rcases List.mem_cons.mp z with e | e
        · exact absurd e.symm h
        · exact e
theorem DqA.wds_inv {G : Hp} : ∀ {ws : List Wy} {vs : List V} {i : Nat} {v : V}, DqA G vs (ws.map wd) → vs[i]? = some v → ∃ w, ws[i]? = some w ∧ Dq G v (wd w) := fun {ws vs i v} h e => by
  obtain ⟨d, e1, e2⟩ := h.get e
  rw [List.getElem?_map] at e1
  cases hw : ws[i]? with
  | none => rw [hw] at e1; cases e1
  | some w =>
    rw [hw] at e1
    cases e1
    exact ⟨w, rfl, e2⟩
theorem wd_ref {G : Hp} {v : V} {w : Wy} (h : Dq G v (wd w)) : ∃ a, v = .ref a ∧ G a = some (.tup (w.map V.int)) := by
  unfold wd at h
  cases h with
  | tup h1 h2 => exact ⟨_, rfl, by rw [h1, h2.int_inv]⟩
theorem wd_of {G : Hp} {a : Addr} {w : Wy} (h : G a = some (.tup (w.map V.int))) : Dq G (.ref a) (wd w) := .tup h (DqA.ints w)
theorem tk_cap {a b l l' : Nat} {cap : Int} (h : a * (l + 1) = b * (l' + 1)) (hl : l' = l + 1) (hc : (b : Int) / ((l : Int) + 1) * ((l : Int) + 2) ≤ cap) : (a : Int) ≤ cap := by
  subst hl
  have h2 : (a : Int) * ((l : Int) + 1) = (b : Int) * ((l : Int) + 2) := by
    have z : ((a * (l + 1) : Nat) : Int) = ((b * (l + 1 + 1) : Nat) : Int) := by rw [h]
    rw [Int.natCast_mul, Int.natCast_mul] at z
    exact z
  generalize (a : Int) = A at *
  generalize (b : Int) = B at *
  generalize hL : (l : Int) = L at *
  have hL0 : 0 ≤ L := by omega
  have e1 : A * (L + 1) = A * L + A := by rw [Int.mul_add, Int.mul_one]
  have e2 : B * (L + 2) = B * L + B * 2 := by rw [Int.mul_add]
  have e3 : (A - B) * (L + 1) = A * L - B * L + (A - B) := by rw [Int.mul_add, Int.mul_one, Int.sub_mul]
  have e4 : (A - B) * (L + 2) = A * L - B * L + (A - B) * 2 := by rw [Int.mul_add, Int.sub_mul]
  have hB : B = (A - B) * (L + 1) := by omega
  have hd : B / (L + 1) = A - B := by
    conv => lhs; rw [hB]
    exact Int.mul_ediv_cancel _ (by omega)
  rw [hd, e4] at hc
  omega
/-- what may stand behind a new router -/
def Bs (rows : List (List Wy)) (b : Wy) : Prop := b = [0] ∨ ∃ (j : Nat) (row' : List Wy), rows[j]? = some row' ∧ b ∈ row'
section
variable {P : Program} {w : World} {K : PySem.W.Frag} {mg : Str → Option Value} {base : Heap} {f : Addr} {fd : FuncData}
/-! _law_add -/
def spAdd : Sp := fun vs H Q _ => ∃ (G : Hp) (p q R : Addr) (rs : List Addr) (rows : List (List Wy)) (L : Nat) (cap : Int), vs = [.ref p, .ref R, .int (L : Int), .int cap] ∧ Pl G H p q ∧ Rz G H p q R rs rows ∧ 2 ≤ rows.length ∧ rows.length ≤ 8 ∧ L ≤ 6 ∧ GW rows ∧ (∀ row ∈ rows, row.length ≤ L) ∧
  ∀ G' H' rows', Ex G G' → Pl G' H' p q → Rz G' H' p q R rs rows' → rows'.length = rows.length → GW rows' → (∀ row ∈ rows', row.length ≤ L) → ((tks rows : Int) ≤ cap → (tks rows' : Int) ≤ cap) → Q .non H'
abbrev sAdd : Stmt := top 70
abbrev nAdd : List Str := ["_law_pool_here", "_law_lists_here", "_law_limit", "_law_cap", "_law_bases", "_law_takings", "_law_row", "_law_router", "_law_base", "_law_place", "_law_way"]
theorem scAdd : FnScope nAdd ["_law_pool_here", "_law_lists_here", "_law_limit", "_law_cap"] (defScope sAdd) := ⟨rfl, rfl, rfl, by decide +kernel, rfl, by decide +kernel, by decide +kernel⟩
theorem ok_add (B : Bl mg) (C : Cal P w K mg base "_law_draw" ["_law_pool_here", "_law_size"] 1 spDraw) (F : FnP K "_law_add" sAdd f fd) : FnOk P w K mg base CX0 2 f fd ["_law_pool_here", "_law_lists_here", "_law_limit", "_law_cap"] spAdd := by
  refine F.ok scAdd (fun vs H Q E h => ?_) (fun cdv A outer s H vs Q E hr h => ?_)
  · obtain ⟨G, p, q, R, rs, rows, L, cap, rfl, _⟩ := h
    rfl
  · obtain ⟨G, p, q, R, rs, rows, L, cap, rfl, hP, hW, hn2, hn8, hL, hG, hrl, k⟩ := h
    have hu : (A.deeper (envOfC "_law_add" (defScope sAdd) s.heap.objs.size f cdv)).units + 65 < cLine := by have := hr.un; omega
    refine ⟨_, pss_cons (ps_set (i := 4) scAdd.nd rfl (Or.inl rfl) (pe_lst (pa_cons (pe_tup (pa_cons pe_int pa_nil)) pa_nil)))
      (pss_cons (ps_set (i := 5) scAdd.nd rfl (Or.inl rfl) pe_int)
      (pss_cons (ps_for (passes_of rfl) rfl (pi_list (pv 1)) (pg_name (i := 6) scAdd.nd rfl (Or.inl rfl))
        (pss_cons (ps_set (i := 4) scAdd.nd rfl (Or.inl rfl) (pe_op op_cat (pv 4) (pv 6)))
          (pss_one (ps_set (i := 5) scAdd.nd rfl (Or.inl rfl) (pe_op op_mul (pv 5) (pe_op op_add (pe_callB call_len_seq (by rfl) B.len PySem.boot_len (pa_cons (pv 6) pa_nil)) pe_int))))))
      (pss_cons (ps_set (i := 7) scAdd.nd rfl (Or.inl rfl) (pe_op op_add pe_int (pe_cal C hr (by rfl) (pa_cons (pv 0) (pa_cons (pe_op op_sub (pe_callB call_len_seq (by rfl) B.len PySem.boot_len (pa_cons (pv 1) pa_nil)) pe_int) pa_nil)))))
      (pss_cons (ps_set (i := 8) scAdd.nd rfl (Or.inl rfl) (pe_ix ix_list (pv 4) (pe_cal C hr (by rfl) (pa_cons (pv 0) (pa_cons (pe_callB call_len_seq (by rfl) B.len PySem.boot_len (pa_cons (pv 4) pa_nil)) pa_nil))) (fun _ _ => rfl)))
      (pss_cons (ps_set (i := 6) scAdd.nd rfl (Or.inl rfl) (pe_ix ix_list (pv 1) (pv 7) (fun _ _ => rfl)))
      (pss_cons (ps_set (i := 9) scAdd.nd rfl (Or.inl rfl) (pe_cal C hr (by rfl) (pa_cons (pv 0) (pa_cons (pe_op op_add (pe_callB call_len_seq (by rfl) B.len PySem.boot_len (pa_cons (pv 6) pa_nil)) pe_int) pa_nil))))
      (pss_cons (ps_if (PW.pt (pw_or (pt_cmpR op_in_seq (pv 7) (pv 8) rfl) (pw_or (pt_cmpR op_gt (pe_callB call_len_seq (by rfl) B.len PySem.boot_len (pa_cons (pv 8) pa_nil)) pe_int (nomark _)) (pw_or1 (pt_cmpR op_ge (pe_callB call_len_seq (by rfl) B.len PySem.boot_len (pa_cons (pv 6) pa_nil)) (pv 2) (nomark _)))))) (pss_one ps_retN) pss_nil)
      (pss_cons (ps_set (i := 10) scAdd.nd rfl (Or.inl rfl) (pe_op op_catA (pe_tup (pa_cons (pv 7) pa_nil)) (pv 8)))
      (pss_one (ps_if (PW.pt (pw_and (pt_cmpR (op_notInD hu) (pv 10) (pv 6) rfl) (pw_and1 (pt_cmpR op_le (pe_op op_mul (pe_op op_fdiv (pv 5) (pe_op op_add (pe_callB call_len_seq (by rfl) B.len PySem.boot_len (pa_cons (pv 6) pa_nil)) pe_int)) (pe_op op_add (pe_callB call_len_seq (by rfl) B.len PySem.boot_len (pa_cons (pv 6) pa_nil)) pe_int)) (pv 3) (nomark _)))))
          (pss_one (ps_expr (pe_bm PySem.F.plainAttrs_list PySem.F.slot_list_insert PySem.F.type_list_insert mt_insert (pv 6) (pa_cons (pv 9) (pa_cons (pv 10) pa_nil))))) pss_nil)))))))))), ?_⟩
    refine ⟨by show 1 ≤ sizeLine; decide, fun t0 ht0 => ⟨by show 1 ≤ sizeLine; decide, fun b0 hb0 => ?_⟩⟩
    have gt0 := fresh_back hP.ex ht0
    have hP1 := hP.new (o := .tup [.int 0]) ht0
    have hW1 := hW.new (o := .tup [.int 0]) ht0 gt0
    have eG : Ex G (upd G t0 (.tup [.int 0])) := Ex.new gt0
    have eb := Ex.new (o := .lst [V.ref t0]) hb0
    have hd0 : DqA (upd G t0 (.tup [.int 0])) [.ref t0] ([[0]].map wd) := .cons (.tup upd_same (DqA.ints [0])) .nil
    generalize upd G t0 (.tup [.int 0]) = G1 at *
    have hP2 := hP1.ext eb
    have hW2 := hW1.ext eb
    refine g_name (q_c ?_)
    refine q_forL (K := K) (ev_var rfl) (sq_of hW2.at_) (fun i σ' H' => ∃ (b : Addr) (bs : List V) (ws : List Wy) (tk : Int) (o : Option V), σ' = [some (.ref p), some (.ref R), some (.int (L : Int)), some (.int cap), some (.ref b), some (.int tk), o, none, none, none, none] ∧ Pl G1 H' p q ∧ Rz G1 H' p q R rs rows ∧ H' b = some (.lst bs) ∧ b ≠ p ∧ b ≠ q ∧ DqA G1 bs (ws.map wd) ∧ (∀ b ∈ ws, Bs rows b) ∧ 1 ≤ ws.length ∧ ws.length ≤ 1 + 6 * i ∧ tk = (tks (rows.take i) : Int))
      (fun H3 e3 => ⟨b0, _, [[0]], 1, none, rfl, hP2.ext e3, hW2.ext e3, e3 _ _ upd_same, hP1.np hb0, hP1.nq hb0, hd0, fun d hd => .inl (List.mem_singleton.mp hd), by simp, by simp, rfl⟩) (fun i σ' H' _ p => by
        obtain ⟨_, _, _, _, _, _, _, h, _⟩ := p
        exact sq_of h.at_) ?_ ?_
    · rintro i x σ' H3 hx ⟨b, bs, ws, tk, o, rfl, hP3, hW3, hb, nbp, nbq, hd, hdi, hd1, hdl, htk⟩
      obtain ⟨r, hr1, rfl⟩ : ∃ r, rs[i]? = some r ∧ x = V.ref r := by
        rw [List.getElem?_map] at hx
        cases hq : rs[i]? with
        | none => rw [hq] at hx; cases hx
        | some r => rw [hq] at hx; exact ⟨r, rfl, (Option.some.inj hx).symm⟩
      have hil : i < rs.length := (List.getElem?_eq_some_iff.mp hr1).1
      have hil2 : i < rows.length := by rw [← hW3.len]; exact hil
      have hrw : rows[i]? = some rows[i] := List.getElem?_eq_getElem hil2
      obtain ⟨gr, rp, rq, vs, h1, h2⟩ := hW3.row i r _ hr1 hrw
      have hl2 := hrl _ (List.getElem_mem hil2)
      generalize rows[i] = row at *
      have lb := hd.length
      have lv := h2.length
      rw [List.length_map] at lb lv
      refine g_name ?_
      refine ⟨.ref b, rfl, .ref r, rfl, b, r, bs, vs, rfl, rfl, hb, h1, by rw [sizeLine_eq]; omega, fun b2 hb2 => ?_⟩
      have e2 := Ex.new (o := .lst (bs ++ vs)) hb2
      refine ⟨.int tk, rfl, .ref r, rfl, r, vs, rfl, .inl (sq_of (e2 _ _ h1)), _, 1, rfl, rfl, tk, _, rfl, rfl, .inr ⟨by omega, by omega⟩, ?_⟩
      exact ⟨b2, _, ws ++ row, _, _, rfl, hP3.ext e2, hW3.ext e2, upd_same, hP3.np hb2, hP3.nq hb2, by rw [List.map_append]; exact hd.append h2, fun d hx => (List.mem_append.mp hx).elim (hdi d) (fun z => .inr ⟨i, row, hrw, z⟩), by simp; omega, by simp; omega, by rw [tks_take hrw, htk, lv]; push_cast; rfl⟩
    · rintro σ' H3 ⟨b, bs, ws, tk, o, rfl, hP3, hW3, hb, nbp, nbq, hd, hdi, hd1, hdl, htk⟩
      have hrn : rs.length = rows.length := hW3.len
      rw [List.length_map, hrn, List.take_length] at htk
      rw [List.length_map] at hdl
      have lb := hd.length
      rw [List.length_map] at lb
      refine ⟨.ref p, rfl, .ref R, rfl, R, _, rfl, .inl (sq_of hW3.at_), _, 1, rfl, rfl, Hd H3 p q, p, q, _, rfl, hP3.hd, by rw [List.length_map]; omega, by rw [List.length_map]; omega, fun H4 y hP0 hy0 hy1 => ⟨1, y, rfl, rfl, ?_⟩⟩
      rw [List.length_map] at hy1
      have hP4 := hP3.back hP0
      have hW4 := hW3.off hP0.off
      have hb4 := hP0.off _ _ nbp nbq hb
      refine g_name ?_
      refine ⟨.ref b, rfl, .ref p, rfl, .ref b, rfl, b, bs, rfl, .inl (sq_of hb4), Hd H4 p q, p, q, _, rfl, hP4.hd, by omega, by omega, fun H5 z hP00 hz0 hz1 => ?_⟩
      have hP5 := hP4.back hP00
      have hW5 := hW4.off hP00.off
      have hb5 := hP00.off _ _ nbp nbq hb4
      obtain ⟨zn, rfl⟩ : ∃ m : Nat, z = (m : Int) := ⟨z.toNat, by omega⟩
      have hzl : zn < bs.length := by omega
      have hbz : bs[zn]? = some bs[zn] := List.getElem?_eq_getElem hzl
      obtain ⟨ns, eds, hdz⟩ := hd.wds_inv hbz
      have hns := hdi ns (List.mem_of_getElem? eds)
      generalize bs[zn] = bv at *
      obtain ⟨ba, rfl, hbt⟩ := wd_ref hdz
      refine ⟨b, bs, (zn : Int), .ref ba, rfl, rfl, sq_of hb5, atI_nat hbz, ?_⟩
      refine g_name ?_
      obtain ⟨rn, hrn'⟩ : ∃ m : Nat, (1 : Int) + y = (m : Int) := ⟨(1 + y).toNat, by omega⟩
      have hrl' : rn < rs.length := by omega
      have hrr : (rs.map V.ref)[rn]? = some (.ref rs[rn]) := by rw [List.getElem?_map, List.getElem?_eq_getElem hrl']; rfl
      have hrs : rs[rn]? = some rs[rn] := List.getElem?_eq_getElem hrl'
      have hrl2 : rn < rows.length := by omega
      have hrw : rows[rn]? = some rows[rn] := List.getElem?_eq_getElem hrl2
      generalize rs[rn] = r at *
      refine ⟨.ref R, rfl, .int (1 + y), rfl, R, _, _, .ref r, rfl, rfl, sq_of hW5.at_, by rw [hrn']; exact atI_nat hrr, ?_⟩
      refine g_name ?_
      obtain ⟨gr, rp, rq, vs, h1, h2⟩ := hW5.row rn r _ hrs hrw
      have hl2 := hrl _ (List.getElem_mem hrl2)
      generalize rows[rn] = row at *
      have lv := h2.length
      rw [List.length_map] at lv
      refine ⟨.ref p, rfl, .ref r, rfl, r, vs, rfl, .inl (sq_of h1), _, 1, rfl, rfl, Hd H5 p q, p, q, _, rfl, hP5.hd, by omega, by omega, fun H6 pl hP000 hpl0 hpl1 => ?_⟩
      have hP6 := hP5.back hP000
      have hW6 := hW5.off hP000.off
      have h16 := hP000.off _ _ rp rq h1
      refine g_name ?_
      change tSeq _ _ _ [some (.ref p), some (.ref R), some (.int (L : Int)), some (.int cap), some (.ref b), some (.int tk), some (.ref r), some (.int (1 + y)), some (.ref ba), some (.int pl), none] H6
      have hB : ∀ {H7 : Hp}, Ex H6 H7 → H7 ba = some (.tup (ns.map V.int)) := fun {H7} e => e _ _ (hP6.ex _ _ hbt)
      have hlb : Ev (tCB (rLenS K) (tCons (tVar 8) tNil)) [some (.ref p), some (.ref R), some (.int (L : Int)), some (.int cap), some (.ref b), some (.int tk), some (.ref r), some (.int (1 + y)), some (.ref ba), some (.int pl), none] H6 (.int ((ns.map V.int).length : Int)) := ev_lenT (ev_var rfl) (st_of (hB (Ex.refl H6)))
      have hlr : Ev (tCB (rLenS K) (tCons (tVar 6) tNil)) [some (.ref p), some (.ref R), some (.int (L : Int)), some (.int cap), some (.ref b), some (.int tk), some (.ref r), some (.int (1 + y)), some (.ref ba), some (.int pl), none] H6 (.int (vs.length : Int)) := ev_len (ev_var rfl) (sq_of h16)
      refine q_when (b := inV (.int (1 + y)) (ns.map V.int) || (decide (((ns.map V.int).length : Int) > 7) || decide ((vs.length : Int) ≥ (L : Int)))) (et_or (et_test (ev_op (ev_var rfl) (ev_var rfl) (rv_isT (st_of (hB (Ex.refl H6))) rfl (flat_ints ns)))) fun _ => et_or (et_test (ev_op hlb ev_c rv_I0)) fun _ => et_test (ev_op hlr (ev_var rfl) rv_I0)) (fun hb7 H7 e7 => k G1 H7 rows eG (hP6.ext e7) (hW6.ext e7) rfl hG hrl id) (fun hb7 H7 e7 => ?_)
      rw [inV_ints] at hb7
      simp only [Bool.or_eq_false_iff, decide_eq_false_iff_not, List.length_map] at hb7
      obtain ⟨hb70, hb71, hb72⟩ := hb7
      have hP7 := hP6.ext e7
      have hW7 := hW6.ext e7
      have h17 := e7 _ _ h16
      have hns7 : ns.length ≤ 7 := by omega
      have hvl : vs.length < L := by omega
      have hns1 : 1 ≤ ns.length := by
        rcases hns with z | ⟨j, row', z1, z2⟩
        · rw [z]; simp
        · have := (hG.ok j row' z1 ns z2).l2; omega
      refine ⟨.int (1 + y), rfl, by show 1 ≤ sizeLine; decide, fun t1 ht1 => ?_⟩
      have gt1 := fresh_back hP7.ex ht1
      have e8 := Ex.new (o := .tup [V.int (1 + y)]) ht1
      refine ⟨.ref ba, rfl, t1, ba, _, _, rfl, rfl, st_of upd_same, st_of (hB (e7.trans e8)), (by rw [List.length_map, sizeLine_eq]; show 1 + ns.length ≤ 16777216; omega), (fun z => by cases z), fun _ z => ?_, fun _ _ t2 ht2 => ?_⟩
      · rw [List.map_eq_nil_iff] at z
        rw [z] at hns1
        simp at hns1
      have hP8 := hP7.ext e8
      have hW8 := hW7.ext e8
      have gt2 := fresh_back hP8.ex ht2
      have hP9 := hP8.new (o := .tup ([V.int (1 + y)] ++ ns.map V.int)) ht2
      have hW9 := hW8.new (o := .tup ([V.int (1 + y)] ++ ns.map V.int)) ht2 gt2
      have e9 := Ex.new (o := .tup ([V.int (1 + y)] ++ ns.map V.int)) ht2
      have hw9 : Dq (upd G1 t2 (.tup ([V.int (1 + y)] ++ ns.map V.int))) (.ref t2) (wd ((1 + y) :: ns)) := .tup upd_same (DqA.ints ((1 + y) :: ns))
      have eG2 : Ex G1 (upd G1 t2 (.tup ([V.int (1 + y)] ++ ns.map V.int))) := Ex.new gt2
      have h19 := e9 _ _ (e8 _ _ h17)
      refine g_name ?_
      generalize upd G1 t2 (.tup ([V.int (1 + y)] ++ ns.map V.int)) = G2 at *
      generalize upd (upd H7 t1 (.tup [V.int (1 + y)])) t2 (.tup ([V.int (1 + y)] ++ ns.map V.int)) = H9 at *
      have h2' := h2.mono eG2
      have hlr9 : Ev (tCB (rLenS K) (tCons (tVar 6) tNil)) [some (.ref p), some (.ref R), some (.int (L : Int)), some (.int cap), some (.ref b), some (.int tk), some (.ref r), some (.int (1 + y)), some (.ref ba), some (.int pl), some (.ref t2)] H9 (.int (vs.length : Int)) := ev_len (ev_var rfl) (sq_of h19)
      have hbb : EvT (tTest (tOp (rNotInD K) (tVar 10) (tVar 6))) [some (.ref p), some (.ref R), some (.int (L : Int)), some (.int cap), some (.ref b), some (.int tk), some (.ref r), some (.int (1 + y)), some (.ref ba), some (.int pl), some (.ref t2)] H9 (!decide ((1 + y) :: ns ∈ row)) := by
        rw [← any_wd]
        refine et_test (ev_op (ev_var rfl) (ev_var rfl) fun H10 e10 Q2 q => ⟨wd ((1 + y) :: ns), row.map wd, Dq.dp (SeqAt.canLay_of_shaped (shaped_ints _)) (hw9.mono (hP9.ex.trans e10)), .lst (sq_of (e10 _ _ h19)) (DqA.dp (lay_wds row) (h2'.mono (hP9.ex.trans e10))), shaped_ints _, shaped_wds row, q H10 (Ex.refl H10)⟩)
      refine s_when (b := !decide ((1 + y) :: ns ∈ row) && decide (tk / ((vs.length : Int) + 1) * ((vs.length : Int) + 2) ≤ cap)) (et_and hbb fun _ => et_test (ev_op (ev_op (ev_op (ev_var rfl) (ev_op hlr9 ev_c rv_I0) (rv_I ⟨by omega, by omega⟩)) (ev_op hlr9 ev_c rv_I0) (rv_I (.inr ⟨by omega, by omega⟩))) (ev_var rfl) rv_I0)) (fun hb10 H10 e10 => ?_) (fun hb10 H10 e10 => k G2 H10 rows (eG.trans eG2) (hP9.ext e10) (hW9.ext e10) rfl hG hrl id)
      have h110 := e10 _ _ h19
      have hP10 := hP9.ext e10
      have hW10 := hW9.ext e10
      have hnin : (1 + y) :: ns ∉ row := by
        simp only [Bool.and_eq_true, Bool.not_eq_true', decide_eq_false_iff_not] at hb10
        exact hb10.1
      refine ⟨.ref r, rfl, .inl ⟨rfl, _, sq_of h110⟩, .int pl, rfl, .ref t2, rfl, r, vs, pl, .ref t2, rfl, rfl, h110, by rw [sizeLine_eq]; omega, hpl0, by omega, ?_⟩
      rw [hrn'] at hw9 hnin hb70
      have hdn : DqA G2 (vs.take pl.toNat ++ [.ref t2] ++ vs.drop pl.toNat) ((row.take pl.toNat ++ [(rn : Int) :: ns] ++ row.drop pl.toNat).map wd) := by
        rw [List.map_append, List.map_append, List.map_take, List.map_drop]
        exact ((h2'.take _).append (.cons hw9 .nil)).append (h2'.drop _)
      refine k G2 _ (rows.set rn (row.take pl.toNat ++ [(rn : Int) :: ns] ++ row.drop pl.toNat)) (eG.trans eG2) (hP10.mut (hW10.row rn r _ hrs hrw).1 rp rq) (hW10.mut hrs hdn) (List.length_set ..) (gw_add hG hrw (by omega) hns hb70 hns7 hnin _) (fun row2 hm => ?_) fun _ => ?_
      rotate_left
      · have z := tks_set (row' := row.take pl.toNat ++ [(rn : Int) :: ns] ++ row.drop pl.toNat) hrw
        have hc := (Bool.and_eq_true_iff.mp hb10).2
        exact tk_cap z (by simp; omega) (by rw [← lv, ← htk]; exact of_decide_eq_true hc)
      rcases List.mem_or_eq_of_mem_set hm with z | z
      · exact hrl row2 z
      · rw [z]
        simp
        omega
/-! _law_lists -/
def spLists : Sp := fun vs H Q _ => ∃ (G : Hp) (p q : Addr) (M L : Nat) (cap : Int), vs = [.ref p, .int (M : Int), .int (L : Int), .int cap] ∧ Pl G H p q ∧ 2 ≤ M ∧ M ≤ 8 ∧ 2 ≤ L ∧ L ≤ 6 ∧ (∀ n, n ≤ M → (tkM n : Int) ≤ cap) ∧ ∀ G' H' v rows, Ex G G' → Pl G' H' p q → Dq G' v (pd rows) → 2 ≤ rows.length → rows.length ≤ M → GW rows → (∀ row ∈ rows, row.length ≤ L) → (tks rows : Int) ≤ cap → Q v H'
abbrev sLists : Stmt := top 71
abbrev nLists : List Str := ["_law_pool_here", "_law_most", "_law_limit", "_law_cap", "_law_size", "_law_lists_here", "_law_count", "_law_row"]
theorem scLists : FnScope nLists ["_law_pool_here", "_law_most", "_law_limit", "_law_cap"] (defScope sLists) := ⟨rfl, rfl, rfl, by decide +kernel, rfl, by decide +kernel, by decide +kernel⟩
/-- tuple(row) for each row: the new tuples stay -/
structure Tupz (G0 H : Hp) (p q R : Addr) (rs : List Addr) (rows : List (List Wy)) (D : Addr) (i : Nat) : Prop where
  ex : ∃ (G : Hp) (ts : List V), Ex G0 G ∧ Pl G H p q ∧ Rz G H p q R rs rows ∧ H D = some (.lst ts) ∧ G D = none ∧ D ≠ p ∧ D ≠ q ∧ DqA G ts ((rows.take i).map rd)
theorem tupz_start {G H : Hp} {p q R D : Addr} {rs : List Addr} {rows : List (List Wy)} (hP : Pl G H p q) (hW : Rz G H p q R rs rows) (hD : H D = none) : Tupz G (upd H D (.lst [])) p q R rs rows D 0 :=
  ⟨G, [], Ex.refl _, hP.ext (Ex.new hD), hW.ext (Ex.new hD), upd_same, fresh_back hP.ex hD, hP.np hD, hP.nq hD, .nil⟩
theorem tupz_turn {K : PySem.W.Frag} {G0 H : Hp} {p q R D r : Addr} {rs : List Addr} {rows : List (List Wy)} {i : Nat} (hi : i < 1000) (h : Tupz G0 H p q R rs rows D i) (hr : rs[i]? = some r) (hDr : D ∉ rs) (hDR : D ≠ R) :
    ∃ pa ys, [V.ref r] = [.ref pa] ∧ ((SqL K H pa ys ∧ ∀ l, H l = none → ∃ acc, (upd H l (.tup ys)) D = some (.lst acc) ∧ acc.length < sizeLine ∧ Tupz G0 (upd (upd H l (.tup ys)) D (.lst (acc ++ [.ref l]))) p q R rs rows D (i + 1)) ∨
      (SqT K H pa ys ∧ ∃ acc, H D = some (.lst acc) ∧ acc.length < sizeLine ∧ Tupz G0 (upd H D (.lst (acc ++ [.ref pa]))) p q R rs rows D (i + 1))) := by
  obtain ⟨G, ts, eG, hP, hW, hD, gD, Dp, Dq', hts⟩ := h.ex
  have hil : i < rs.length := (List.getElem?_eq_some_iff.mp hr).1
  have hil2 : i < rows.length := by rw [← hW.len]; exact hil
  have hrw : rows[i]? = some rows[i] := List.getElem?_eq_getElem hil2
  obtain ⟨gr, rp, rq, vs, h1, h2⟩ := hW.row i r _ hr hrw
  refine ⟨r, vs, rfl, .inl ⟨sq_of h1, fun l hl' => ?_⟩⟩
  have gl := fresh_back hP.ex hl'
  have nDl : D ≠ l := ne_of_none hD hl'
  have hP1 := hP.new (o := .tup vs) hl'
  have hW1 := hW.new (o := .tup vs) hl' gl
  have tl := hts.length
  rw [List.length_map, List.length_take] at tl
  refine ⟨ts, by rw [upd_ne nDl]; exact hD, by rw [sizeLine_eq]; omega, upd G l (.tup vs), ts ++ [.ref l], eG.trans (Ex.new gl), hP1.mut (by rw [upd_ne nDl]; exact gD) Dp Dq', ?_, upd_same, by rw [upd_ne nDl]; exact gD, Dp, Dq', ?_⟩
  · refine ⟨by rw [upd_ne (Ne.symm hDR)]; exact hW1.at_, hW1.gR, hW1.Rp, hW1.Rq, hW1.nin, hW1.nd, hW1.len, fun k r' row' hr' hw' => ?_⟩
    obtain ⟨g', rp', rq', vs', h1', h2'⟩ := hW1.row k r' row' hr' hw'
    have nr : r' ≠ D := fun z => hDr (by rw [← z]; exact List.mem_of_getElem? hr')
    exact ⟨g', rp', rq', vs', by rw [upd_ne nr]; exact h1', h2'⟩
  · rw [take_snoc hrw, List.map_append]
    exact (hts.mono (Ex.new gl)).append (.cons (.tup upd_same (h2.mono (Ex.new gl))) .nil)
theorem ok_lists (B : Bl mg) (C : Cal P w K mg base "_law_draw" ["_law_pool_here", "_law_size"] 1 spDraw) (C2 : Cal P w K mg base "_law_planted" ["_law_pool_here", "_law_size"] 3 spPlanted) (C3 : Cal P w K mg base "_law_add" ["_law_pool_here", "_law_lists_here", "_law_limit", "_law_cap"] 2 spAdd) (F : FnP K "_law_lists" sLists f fd) : FnOk P w K mg base CX0 5 f fd ["_law_pool_here", "_law_most", "_law_limit", "_law_cap"] spLists := by
  refine F.ok scLists (fun vs H Q E h => ?_) (fun cdv A outer s H vs Q E hr h => ?_)
  · obtain ⟨G, p, q, M, L, cap, rfl, _⟩ := h
    rfl
  · obtain ⟨G, p, q, M, L, cap, rfl, hP, hM2, hM8, hL2, hL6, hcap, k⟩ := h
    have hr1 : Room 1 _ := hr.mono (by decide)
    have hr2 : Room 2 _ := hr.mono (by decide)
    refine ⟨_, pss_cons (ps_set (i := 4) scLists.nd rfl (Or.inl rfl) (pe_op op_add pe_int (pe_cal C hr1 (by rfl) (pa_cons (pv 0) (pa_cons (pe_op op_sub (pv 1) pe_int) pa_nil)))))
      (pss_cons (ps_set (i := 5) scLists.nd rfl (Or.inl rfl) (pe_cal C2 hr (by rfl) (pa_cons (pv 0) (pa_cons (pv 4) pa_nil))))
      (pss_cons (ps_for (passes_of rfl) rfl (pi_range1 (by rfl) B.range (pa_cons (pe_cal C hr1 (by rfl) (pa_cons (pv 0) (pa_cons pe_int pa_nil))) pa_nil)) (pg_name (i := 6) scLists.nd rfl (Or.inl rfl))
        (pss_one (ps_expr (pe_cal C3 hr2 (by rfl) (pa_cons (pv 0) (pa_cons (pv 5) (pa_cons (pv 2) (pa_cons (pv 3) pa_nil))))))))
      (pss_one (ps_ret (pe_callTy call_tuple_of (by rfl) B.tuple PyProof.Rows.boot_tuple (pa_cons (pe_lc (own := [("_law_row", 7)]) (g := gName 7) (tt := tYes) rfl scLists.nd (pi_list (pv 5)) (blkOk_by (N := nLists) (sc := defScope sLists) (by decide +kernel))
          (fun _ _ _ _ _ => pg_name (i := 7) scLists.nd rfl (Or.inl rfl)) (fun _ _ _ _ _ => pts_nil) (fun _ _ _ _ _ => pe_callTy (call_tupleK (K := K) rfl) (by rfl) B.tuple PyProof.Rows.boot_tuple (pa_cons (pv 7) pa_nil))) pa_nil)))))), ?_⟩
    refine ⟨.ref p, rfl, .int (M : Int), rfl, (M : Int), 1, rfl, rfl, Hd H p q, p, q, _, rfl, hP.hd, by omega, by omega, fun H1 y hP0 hy0 hy1 => ⟨2, y, rfl, rfl, ?_⟩⟩
    have hP1 := hP.back hP0
    obtain ⟨n, hn⟩ : ∃ n : Nat, (2 : Int) + y = (n : Int) := ⟨(2 + y).toNat, by omega⟩
    refine g_name ?_
    refine ⟨.ref p, rfl, .int (2 + y), rfl, G, p, q, n, by rw [hn]; rfl, hP1, by omega, by omega, fun G1 H2 R rs rows eG hP2 hW2 hrl hG hr2' htk => ?_⟩
    refine g_name ?_
    refine ⟨.ref p, rfl, Hd H2 p q, p, q, 16, rfl, hP2.hd, by decide, by decide, fun H3 cnt hP00 hc0 hc1 => ⟨cnt, rfl, by omega, by omega, for_range (lo := 0) (n := cnt.toNat) (fun i σ' H' => ∃ (G' : Hp) (rows : List (List Wy)) (o : Option V), σ' = [some (.ref p), some (.int (M : Int)), some (.int (L : Int)), some (.int cap), some (.int (2 + y)), some (.ref R), o, none] ∧ Ex G G' ∧ Pl G' H' p q ∧ Rz G' H' p q R rs rows ∧ rows.length = n ∧ GW rows ∧ (∀ row ∈ rows, row.length ≤ L) ∧ (tks rows : Int) ≤ cap) ⟨G1, rows, none, rfl, eG, hP2.back hP00, hW2.off hP00.off, hrl, hG, fun row hm => Nat.le_trans (hr2' row hm) hL2, Int.le_trans (Int.ofNat_le.mpr htk) (hcap n (by omega))⟩ ?_ ?_⟩⟩
    · rintro i σ' H4 hi ⟨G', rows', o, rfl, eG', hP4, hW4, hl4, hG4, hr4, ht4⟩
      exact ⟨.ref p, rfl, .ref R, rfl, .int (L : Int), rfl, .int cap, rfl, G', p, q, R, rs, rows', L, cap, rfl, hP4, hW4, by omega, by omega, hL6, hG4, hr4, fun G2 H5 rows2 eG2 hP5 hW5 hl5 hG5 hr5 ht5 => ⟨G2, rows2, _, rfl, eG'.trans eG2, hP5, hW5, by omega, hG5, hr5, ht5 ht4⟩⟩
    · clear hW2 hG hr2'
      rintro σ' H4 ⟨G', rows', o, rfl, eG', hP4, hW4, hl4, hG4, hr4, ht4⟩
      dsimp only
      refine ret_cb ?_
      refine ⟨.ref R, rfl, R, rfl, ⟨_, sq_of hW4.at_⟩, fun D hD => lc_list (K := K) (xs := rs.map V.ref) (fun i H' => Tupz G' H' p q R rs rows' D i) (tupz_start hP4 hW4 hD) (fun i H' _ h => ?_) ?_ ?_⟩
      · obtain ⟨G5, ts, _, _, hW, _⟩ := h.ex
        exact sq_of hW.at_
      · rintro i x H5 hx h
        obtain ⟨r, hr1, rfl⟩ : ∃ r, rs[i]? = some r ∧ x = V.ref r := by
          rw [List.getElem?_map] at hx
          cases hq : rs[i]? with
          | none => rw [hq] at hx; cases hx
          | some r => rw [hq] at hx; exact ⟨r, rfl, (Option.some.inj hx).symm⟩
        have hil := (List.getElem?_eq_some_iff.mp hr1).1
        have hln := hW4.len
        refine ⟨rfl, .ref r, rfl, ?_⟩
        exact tupz_turn (K := K) (by omega) h hr1 (fun z => by
          obtain ⟨_, _, _, _, h1⟩ := hW4.mem z
          rw [hD] at h1
          cases h1) (Ne.symm (ne_of_none hW4.at_ hD))
      · intro H5 h
        obtain ⟨G5, ts, eG5, hP5, hW5, hD5, gD5, Dp5, Dq5, hts⟩ := h.ex
        rw [List.length_map, hW4.len, List.take_length] at hts
        refine ⟨D, ts, rfl, .inl ⟨sq_of hD5, fun t ht => ?_⟩⟩
        have gt := fresh_back hP5.ex ht
        exact k (upd G5 t (.tup ts)) _ (.ref t) rows' ((eG'.trans eG5).trans (Ex.new gt)) (hP5.new ht) (.tup upd_same (hts.mono (Ex.new gt))) (by omega) (by omega) hG4 hr4 ht4
end
end Wk

set_option Elab.async false
set_option linter.all false
set_option maxRecDepth 100000
set_option maxHeartbeats 2000000
namespace Wk
open PySem PySem.Spec PyProof.Rows L2 Evl
mutual
theorem Dp.up {K : PySem.W.Frag} {G H : Hp} (e : Ex G H) : ∀ {d : PyData} {v : V}, Dp K G v d → Dp K H v d
  | .none, _, .non => .non
  | .bool _, _, .bl b => .bl b
  | .int _, _, .int i => .int i
  | .str _, _, .str x => .str x
  | .list _, _, .lst h a => .lst (ex_l e h) (DpAll.up e a)
  | .tuple _, _, .tup h a => .tup (ex_t e h) (DpAll.up e a)
theorem DpAll.up {K : PySem.W.Frag} {G H : Hp} (e : Ex G H) : ∀ {ds : List PyData} {vs : List V}, DpAll K G vs ds → DpAll K H vs ds
  | [], _, .nil => .nil
  | _ :: _, _, .cons h t => .cons (Dp.up e h) (DpAll.up e t)
end
theorem dpa_len {K : PySem.W.Frag} {G : Hp} : ∀ {ds : List PyData} {vs : List V}, DpAll K G vs ds → vs.length = ds.length
  | [], _, .nil => rfl
  | _ :: _, _, .cons _ t => congrArg Nat.succ (dpa_len t)
theorem dpa_at {K : PySem.W.Frag} {G : Hp} : ∀ {ds : List PyData} {vs : List V} {i : Nat} {d : PyData}, DpAll K G vs ds → ds[i]? = some d → ∃ v, vs[i]? = some v ∧ Dp K G v d
  | [], _, i, d, .nil, e => by simp at e
  | x :: _, v :: _, 0, d, .cons h t, e => ⟨v, rfl, by simp at e; subst e; exact h⟩
  | _ :: _, _ :: _, i + 1, d, .cons h t, e => by
    obtain ⟨v, e1, e2⟩ := dpa_at t (i := i) (by simpa using e)
    exact ⟨v, by simpa using e1, e2⟩
theorem dpa_app {K : PySem.W.Frag} {G : Hp} : ∀ {ds es : List PyData} {vs us : List V}, DpAll K G vs ds → DpAll K G us es → DpAll K G (vs ++ us) (ds ++ es)
  | [], _, _, _, .nil, h => h
  | _ :: _, _, _, _, .cons h t, u => .cons h (dpa_app t u)
theorem dpa_ints {K : PySem.W.Frag} {G : Hp} : ∀ {ns : List Int} {vs : List V}, DpAll K G vs (ns.map PyData.int) → vs = ns.map V.int
  | [], _, .nil => rfl
  | _ :: _, _, .cons (.int n) t => by rw [dpa_ints t]; rfl
theorem dp_wd {K : PySem.W.Frag} {G : Hp} {v : V} {w : Wy} (h : Dp K G v (wd w)) : ∃ a, v = .ref a ∧ SqT K G a (w.map V.int) := by
  unfold wd at h
  cases h with
  | tup h1 h2 =>
    rw [dpa_ints h2] at h1
    exact ⟨_, rfl, h1⟩
theorem dp_of_wd {K : PySem.W.Frag} {G : Hp} {a : Addr} {w : Wy} (h : SqT K G a (w.map V.int)) : Dp K G (.ref a) (wd w) := .tup h (DqA.dp (lay_ints w) (DqA.ints w))
section
variable {K : PySem.W.Frag} {σ : L2.St} {H : Hp} {te tl : TE}
/-- [e for i, x in enumerate(t)] -/
theorem el_lcEnT {a : Addr} {xs : List V} {i j : Nat} {vs : List Nat} (v : Nat → V) (h : Ev tl σ H (.ref a)) (hx : SqT K H a xs) (hz : xs.length ≤ 40000) (hw : ∀ x y, wipe (((wipe σ vs).set i (some x)).set j (some y)) vs = wipe σ vs)
    (he : ∀ (k : Nat) (x : V) H1, Ex H H1 → xs[k]? = some x → Ev te (((wipe σ vs).set i (some (.int (k : Nat)))).set j (some x)) H1 (v k)) :
    EvL (tLc (iEnumT K (tCons tl tNil)) (gTup K 2 (gCons (gName i) (gCons (gName j) gNil))) tYes te vs) σ H (given xs.length (fun _ => true) v) := fun H0 e Q q => h H0 e _ fun H1 e1 => ⟨a, xs, rfl, ex_t (e.trans e1) hx, fun Dl hD =>
  lc_it (walk_enumT (K := K) (a := a) (xs := xs)) (Cw H1 (fun _ => true) v Dl) ⟨hD, Ex.new hD, upd_same⟩ (fun i H' _ p => ex_t ((e.trans e1).trans p.2.1) hx)
    (fun k z H' H2 hk p y => by
      obtain ⟨T, u, y, rfl, hT, rfl, hu, hy⟩ := y
      cases hu
      have eT : Ex H' (upd H' T (.tup [.int (k : Nat), y])) := Ex.new hT
      refine ⟨T, _, rfl, st_of upd_same, rfl, g_two ⟨hw _ _, ?_⟩⟩
      exact cw_turn ⟨p.1, p.2.1.trans eT, eT _ _ p.2.2⟩ (by omega) et_yes (fun _ => he k y H1 (e.trans e1) hy))
    (fun H' p => q Dl H' (fresh_back e1 p.1) (e1.trans p.2.1) p.2.2)⟩
theorem ev_allEnT {a : Addr} {xs : List V} {i j : Nat} {vs : List Nat} (g : Nat → Bool) (h : Ev tl σ H (.ref a)) (hx : SqT K H a xs) (hz : xs.length ≤ 40000) (hw : ∀ x y, wipe (((wipe σ vs).set i (some x)).set j (some y)) vs = wipe σ vs)
    (he : ∀ (k : Nat) (x : V) H1, Ex H H1 → xs[k]? = some x → Ev te (((wipe σ vs).set i (some (.int (k : Nat)))).set j (some x)) H1 (.bl (g k))) :
    Ev (tCB (rAll K) (tCons (tLc (iEnumT K (tCons tl tNil)) (gTup K 2 (gCons (gName i) (gCons (gName j) gNil))) tYes te vs) tNil)) σ H (.bl (((List.range xs.length).map g).all id)) :=
  ev_allL (by
    have q := el_lcEnT (K := K) (te := te) (fun k => .bl (g k)) h hx hz hw he
    rw [given_all] at q
    rw [List.map_map]
    exact q)
/-- a tuple that is read: an old one, a new one, one of the module's -/
def EvQ (K : PySem.W.Frag) (te : TE) (σ : L2.St) (H : Hp) (xs : List V) : Prop := ∀ H1, Ex H H1 → ∀ Q : VK, (∀ p H2, Ex H1 H2 → SqT K H2 p xs → Q (.ref p) H2) → te σ H1 Q
theorem eq_sl {a : Addr} {xs : List V} {tl th : TO} {lo hi : Option Int} (h : Ev te σ H (.ref a)) (h1 : EvO tl σ H lo) (h2 : EvO th σ H hi) (hs : SqT K H a xs) : EvQ K (tSl (rSlA K) te tl th) σ H (cutV xs lo hi) := fun H1 e Q q =>
  h H1 e _ fun H2 e2 => h1 H2 (e.trans e2) _ fun H3 e3 => h2 H3 ((e.trans e2).trans e3) _ fun H4 e4 => by
    have hs4 := ex_t (((e.trans e2).trans e3).trans e4) hs
    refine ⟨a, xs, rfl, hs4, fun hw => ?_, fun hw p hp => q p _ (((e2.trans e3).trans e4).trans (Ex.new hp)) (st_of upd_same)⟩
    have ec : cutV xs lo hi = xs := by
      unfold cutV
      rw [hw.1, hw.2]
      simp
    rw [ec] at q
    exact q a H4 ((e2.trans e3).trans e4) hs4
theorem ev_opQ {ta tb : TE} {r : R2} {x z : V} {xs : List V} (ha : Ev ta σ H x) (hb : EvQ K tb σ H xs) (hr : ∀ p H1, SqT K H1 p xs → Ex H H1 → RV r x (.ref p) H1 z) : Ev (tOp r ta tb) σ H z := fun H1 e Q q =>
  ha H1 e _ fun H2 e2 => hb H2 (e.trans e2) _ fun p H3 e3 hp => hr p H3 hp ((e.trans e2).trans e3) H3 (Ex.refl H3) Q fun H4 e4 => q H4 ((e2.trans e3).trans e4)
/-- for x in a tuple that is told on the way -/
theorem q_forCT {g : TG} {tu tz : TS} {D : Ends} (C : Addr → List V → Hp → Prop) (h : ∀ Q : VK, (∀ l xs H1, C l xs H1 → Q (.ref l) H1) → tl σ H Q)
    (hC : ∀ l xs H1, C l xs H1 → SqT K H1 l xs ∧ ∃ Pv : Nat → L2.St → Hp → Prop, Pv 0 σ H1 ∧ (∀ i σ' H', i ≤ xs.length → Pv i σ' H' → SqT K H' l xs) ∧ (∀ i x σ' H', xs[i]? = some x → Pv i σ' H' → g x σ' H' fun σ2 H2 => tu { D with nx := Pv (i + 1), ct := Pv (i + 1), bk := tz D } σ2 H2) ∧ (∀ σ' H', Pv xs.length σ' H' → tz D σ' H')) : tSeq (tFor (iTup K tl) g tu) tz D σ H :=
  h _ fun l xs H1 c => by
    obtain ⟨hs, Pv, h0, hl, ht, hd⟩ := hC l xs H1 c
    exact ⟨l, rfl, ⟨xs, hs⟩, for_tup Pv h0 hl ht hd⟩
end
/-! wishes in the heap -/
structure WO (CW : Addr) (H : Hp) (v : V) (rows : List (List Wy)) : Prop where
  ex : ∃ w dx lv, v = .ref w ∧ H w = some (.ins CW dx (wf (rows.length : Int) lv)) ∧ Dq H lv (pd rows)
  g : GW rows
  n2 : 2 ≤ rows.length
  n8 : rows.length ≤ 8
  r6 : ∀ row ∈ rows, row.length ≤ 6
theorem WO.up {CW : Addr} {H H' : Hp} {v : V} {rows : List (List Wy)} (h : WO CW H v rows) (e : Ex H H') : WO CW H' v rows := by
  obtain ⟨w, dx, lv, h1, h2, h3⟩ := h.ex
  exact ⟨⟨w, dx, lv, h1, e _ _ h2, h3.mono e⟩, h.g, h.n2, h.n8, h.r6⟩
theorem ev_wsize {K : PySem.W.Frag} {mg : Str → Option Value} {CW : Addr} {σ : L2.St} {H : Hp} {te : TE} {v : V} {rows : List (List Wy)} (T : WTx K mg CW) (h : Ev te σ H v) (hw : WO CW H v rows) : Ev (tFld K te "size") σ H (.int (rows.length : Int)) := fun H1 e Q q =>
  h H1 e _ fun H2 e2 => by
    obtain ⟨w, dx, lv, rfl, h2, h3⟩ := (hw.up (e.trans e2)).ex
    exact ⟨w, CW, dx, _, _, rfl, h2, T.cl, T.nS, wf_size _ _, q H2 e2⟩
/-- wishes.ways(router) -/
theorem t_ways {CW CN : Addr} {W : L2.St → XK} {σ : L2.St} {H : Hp} {ta ti : TE} {v : V} {rows : List (List Wy)} {i : Nat} {row : List Wy} {Q : VK} (ha : Ev ta σ H v) (hw : WO CW H v rows) (hi : Ev ti σ H (.int (i : Int))) (hr : rows[i]? = some row) (k : ∀ u H', Ex H H' → Dq H' u (rd row) → Q u H') :
    tMeAt CW "ways" (spWays CW CN) W ta (tCons ti tNil) σ H Q := ha H (Ex.refl H) _ fun H1 e1 => by
  obtain ⟨w, dx, lv, rfl, h2, h3⟩ := (hw.up e1).ex
  refine ⟨w, dx, _, rfl, h2, wf_no _ _ (by decide +kernel) (by decide +kernel), hi H1 e1 _ fun H2 e2 => ?_⟩
  have hil := (List.getElem?_eq_some_iff.mp hr).1
  have hR : isR (((rows.map rd).length : Nat) : Int) (.int (i : Int)) = true := by
    rw [List.length_map]
    show (true && (decide (0 ≤ (i : Int)) && decide ((i : Int) ≤ (rows.length : Int) - 1))) = true
    rw [decide_eq_true (show 0 ≤ (i : Int) by omega), decide_eq_true (show (i : Int) ≤ (rows.length : Int) - 1 by omega)]
    rfl
  refine ⟨w, dx, lv, .int (i : Int), .int (i : Int), rows.map rd, rfl, by rw [List.length_map]; exact e2 _ _ h2, h3.mono e2, .int _, fun _ u d H3 hd hu e3 => ?_, fun z => ?_⟩
  · have ed : d = rd row := by
      rw [show (valI (.int (i : Int))).toNat = i by simp [valI], List.getElem?_map, hr] at hd
      exact (Option.some.inj hd).symm
    subst ed
    exact k u H3 ((e1.trans e2).trans e3) (hu.mono e3)
  · rw [hR] at z
    cases z
/-! data or wishes -/
def Tg (CW : Addr) (H : Hp) (v : V) : Option PyData → Prop
  | some d => Dq H v d
  | none => ∃ a dx fs, v = .ref a ∧ H a = some (.ins CW dx fs)
theorem Tg.up {CW : Addr} {H H' : Hp} {v : V} {o : Option PyData} (h : Tg CW H v o) (e : Ex H H') : Tg CW H' v o := by
  cases o with
  | some d => exact Dq.mono e h
  | none =>
    obtain ⟨a, dx, fs, h1, h2⟩ := h
    exact ⟨a, dx, fs, h1, e _ _ h2⟩
/-- what isinstance asks of the class -/
structure ITx (K : PySem.W.Frag) (CW : Addr) : Prop where
  cl : Cls K CW
  ha : PySem.W.findIn K (.ref CW) "__class__" = some (some (.builtin "object.__class__"))
  hn : PySem.W.specialIn K (.builtin "object.__class__") "__get__" = some (some (.builtin "getset_descriptor.__get__"))
  ht : PySem.W.takesIn K (.builtin "object.__class__") = some true
  hm : PySem.W.mroIn K CW (.type "object") = some true
  kt : PySem.W.kitOne K (.ref CW) (.type "tuple") = some false
def tgT : Option PyData → Bool
  | some d => isTu d
  | none => false
theorem ev_isiT {K : PySem.W.Frag} {CW : Addr} {σ : L2.St} {H : Hp} {ta : TE} {v : V} {o : Option PyData} (T : ITx K CW) (h : Ev ta σ H v) (hv : Tg CW H v o) : Ev (tCB (rIsi K) (tCons ta (tCons (tC (.ty "tuple")) tNil))) σ H (.bl (tgT o)) := by
  cases o with
  | some d => exact ev_isi h hv (kit_tup d)
  | none =>
    obtain ⟨a, dx, fs, rfl, h2⟩ := hv
    exact fun H1 e Q q => h H1 e _ fun H2 e2 => ⟨.ref a, .ty "tuple", .ref CW, .type "tuple", false, rfl, .ty "tuple", .base (.ins ((e.trans e2) _ _ h2) T.cl T.ha T.hn T.ht T.hm), T.kt, q H2 e2⟩
/-! takings, as plain rows -/
def od : Option Wy → PyData
  | none => .none
  | some w => wd w
def chW (rows : List (List Wy)) (i : Nat) : List Wy := if i = 0 then [[0]] else rows.getD i [] ++ [[]]
structure TkO (rows : List (List Wy)) (t : List (Option Wy)) : Prop where
  len : t.length = rows.length
  ok : ∀ (i : Nat) (x : Wy), t[i]? = some (some x) → x ∈ chW rows i
def hit (t : List (Option Wy)) (w : Wy) : Bool := decide (t.getD (w.getD 1 0).toNat none = some (w.drop 1))
def csL (t : List (Option Wy)) (own : Wy) : List Wy → Bool
  | [] => false
  | w :: ws => if w = own then false else if hit t w = true then true else csL t own ws
def csB (rows : List (List Wy)) (t : List (Option Wy)) (i : Nat) : Bool := match t.getD i none with
  | none => false
  | some own => if own ≠ [] ∧ t.getD (own.getD 1 0).toNat none ≠ none ∧ hit t own = false then true else csL t own (rows.getD i [])
theorem csL_drop {t : List (Option Wy)} {own : Wy} : ∀ {ws : List Wy} {i : Nat} {w : Wy}, ws[i]? = some w → csL t own (ws.drop i) = if w = own then false else if hit t w = true then true else csL t own (ws.drop (i + 1))
  | [], i, w, h => by simp at h
  | x :: ws, 0, w, h => by
    simp at h
    subst h
    rfl
  | x :: ws, i + 1, w, h => by
    simp only [List.drop_succ_cons]
    exact csL_drop (by simpa using h)
theorem ways_in {rows : List (List Wy)} (hG : GW rows) {i : Nat} {row : List Wy} {w : Wy} (hr : rows[i]? = some row) (hw : w ∈ row) : ∃ j : Nat, w[1]? = some (j : Int) ∧ w.getD 1 0 = (j : Int) ∧ j < rows.length ∧ w ≠ [] := by
  have ok := hG.ok i row hr w hw
  have h1 : w[1]? = some (w[1]'(by have := ok.l2; omega)) := List.getElem?_eq_getElem _
  have rg := ok.rg _ (List.mem_of_getElem? h1)
  generalize w[1]'(by have := ok.l2; omega) = x at *
  refine ⟨x.toNat, by rw [h1]; congr 1; omega, by rw [List.getD_eq_getElem?_getD, h1]; show x = _; omega, by omega, fun z => ?_⟩
  have := ok.l2
  rw [z] at this
  simp at this
theorem shaped_wd (w : Wy) : SeqAt.shaped (wd w) = true := shaped_ints w
theorem shaped_od (o : Option Wy) : SeqAt.shaped (od o) = true := by
  cases o with
  | none => rfl
  | some w => exact shaped_wd w
theorem eqv_od (o : Option Wy) (w : Wy) : PyData.eqv (od o) (wd w) = decide (o = some w) := by
  cases o with
  | none => simp [od, wd, PyData.eqv]
  | some u =>
    show PyData.eqv (wd u) (wd w) = _
    rw [eqv_wd]
    simp
end Wk

set_option Elab.async false
set_option linter.all false
set_option maxRecDepth 100000
set_option maxHeartbeats 4000000
namespace Wk
open PySem PySem.Spec PyProof.Rows L2 Evl
/-! facts of own errors -/
def exB (K : PySem.W.Frag) (C : Addr) : Bool := (match K.lookup C with
  | some o => (match o.cls, o.data, o.slots.toList with
    | .type t, .cls cd, [_, _, _, _, some (.builtin n), _] => decide (t = "type") && (decide (n = "ValueError.__new__") && (cd.hasDict && (!cd.hasDel && (match cd.mro with
      | .ref c :: bm => decide (c = C) && PySem.HandSPX.refsVE bm
      | _ => false))))
    | _, _, _ => false)
  | none => false) && (He.eqO (PySem.W.findIn K (.ref C) "__setattr__") (some (some (.builtin "object.__setattr__"))) && (decide (PySem.W.subIn K (.ref C) (.type "BaseException") = some true) && (decide (PySem.W.typeIn K (.ref C) = some (.type "type")) && (PySem.W.keepIn K (.ref C) && xfB K C))))
theorem exB_ok {K : PySem.W.Frag} {C : Addr} (h : exB K C = true) : OexC K C ∧ XfC K C := by
  unfold exB at h
  obtain ⟨h1, h⟩ := He.ba h
  obtain ⟨h2, h⟩ := He.ba h
  obtain ⟨h3, h⟩ := He.ba h
  obtain ⟨h4, h⟩ := He.ba h
  obtain ⟨h5, h6⟩ := He.ba h
  refine ⟨⟨?_, He.eqO_ok h2, of_decide_eq_true h3, of_decide_eq_true h4, h5⟩, xfB_ok h6⟩
  cases hl : K.lookup C with
  | none =>
    rw [hl] at h1
    cases h1
  | some o =>
    rw [hl] at h1
    obtain ⟨oc, od, dt, ⟨sl⟩⟩ := o
    dsimp only at h1
    split at h1
    · rename_i t cd k0 k1 k2 k3 n k5
      obtain ⟨z1, h1⟩ := He.ba h1
      obtain ⟨z2, h1⟩ := He.ba h1
      obtain ⟨z3, h1⟩ := He.ba h1
      obtain ⟨z4, h1⟩ := He.ba h1
      split at h1
      · rename_i c bm hm
        obtain ⟨z5, z6⟩ := He.ba h1
        obtain ⟨x1, x2, x3, x4, x5, x6, x7, x8, x9, x10, x11⟩ := cd
        dsimp only at z3 z4 hm
        have y1 := of_decide_eq_true z1
        have y2 := of_decide_eq_true z2
        have y5 := of_decide_eq_true z5
        have y4 : x11 = false := by simpa using z4
        subst y1 y2 y5 y4 z3 hm
        exact ⟨x1, x5, x4, x2, bm, x7, x8, x9, x10, od, k0, k1, k2, k3, k5, rfl, z6⟩
      · cases h1
    · cases h1
/-! what isinstance asks of an own class -/
def insB (K : PySem.W.Frag) (C : Addr) : Bool := He.eqO (PySem.W.findIn K (.ref C) "__class__") (some (some (.builtin "object.__class__"))) && (He.eqO (PySem.W.specialIn K (.builtin "object.__class__") "__get__") (some (some (.builtin "getset_descriptor.__get__"))) && (decide (PySem.W.takesIn K (.builtin "object.__class__") = some true) &&
  (decide (PySem.W.mroIn K C (.type "object") = some true) && decide (PySem.W.kitOne K (.ref C) (.type "tuple") = some false))))
theorem insB_ok {K : PySem.W.Frag} {C : Addr} (cl : Cls K C) (h : insB K C = true) : ITx K C := by
  obtain ⟨h1, h⟩ := He.ba h
  obtain ⟨h2, h⟩ := He.ba h
  obtain ⟨h3, h⟩ := He.ba h
  obtain ⟨h4, h5⟩ := He.ba h
  exact ⟨cl, He.eqO_ok h1, He.eqO_ok h2, of_decide_eq_true h3, of_decide_eq_true h4, of_decide_eq_true h5⟩
/-! the head's facts with more of them -/
abbrev AlX : Type := He.AlD × Bool
def obsX (n : Nat) (fa : List He.Fa) (fn : List He.DefD) (eb : PySem.W.Frag → Bool) (g : Addr → Option Obj) : AlX := (He.obsDG n fa fn g, eb (He.frG g (He.asD g n)))
def hookX (n : Nat) (fa : List He.Fa) (fn : List He.DefD) (eb : PySem.W.Frag → Bool) : PySem.W.Hook where
  α := AlX
  obs := fun s => obsX n fa fn eb s.heap.get?
  val := fun _ => (He.valD fn, true)
  says := fun _ h => ∃ K : PySem.W.Frag, K.In h ∧ He.SaysD fa fn K ∧ eb K = true
  of := fun _ _ e => ⟨_, He.frG_in, congrArg Prod.fst e, congrArg Prod.snd e⟩
  keeps := fun _ _ _ ⟨K, hK, c⟩ k => ⟨K, PySem.W.Frag.In.keeps hK k, c⟩
theorem obsX_eq {n : Nat} {fa : List He.Fa} {fn : List He.DefD} {eb : PySem.W.Frag → Bool} {g : Addr → Option Obj} {s : Shared} (h : ∀ a, g a = s.heap.get? a) : obsX n fa fn eb g = (hookX n fa fn eb).obs s := by
  have e : g = s.heap.get? := funext h
  rw [e]
  rfl
theorem calOf {P : Program} {w : World} {K : PySem.W.Frag} {mg : Str → Option Value} {base : Heap} {x q : Str} {params : Arguments} {body : List Stmt} {scope : Scope} {f : Addr} {fd : FuncData} {ps : List Str} {k : Nat} {sp : Sp} (F : FunD K x q params body scope [] [] f fd) (o : FnOk P w K mg base CX0 k f fd ps sp) (g : mg x = some (.ref f)) (b : Binds K fd ps []) : Cal P w K mg base x ps k sp := ⟨⟨f, fd, o, g, F.kp, b⟩⟩
def dG (x : Str) (i : Nat) : He.DefD := ⟨(x, none), x, x, defArgs (top i), defBody (top i), defScope (top i), [], []⟩
def dM (c m q : Str) (i j : Nat) : He.DefD := ⟨(c, some m), m, q, defArgs (inClass (top i) j), defBody (inClass (top i) j), defScope (inClass (top i) j), [], []⟩
end Wk

set_option Elab.async false
set_option linter.all false
set_option maxRecDepth 100000
set_option maxHeartbeats 0
namespace Wk
open PySem PySem.Spec PyProof.Rows L2 Evl
def fn : List He.DefD := ([dG "is_integer" 11, dG "is_between" 12, dG "is_row" 13, dG "is_tuple_of" 14, dG "is_integer_tuple" 15, dG "is_router" 16, dG "refuse_no_router" 17, dG "is_size" 18, dG "is_way" 19, dG "replaced" 20, dG "choices" 25, dG "is_taking" 26, dG "is_choice" 27, dG "refuse_more_takings" 28, dG "no_items" 29, dG "cannot_stay" 30, dG "first_that_cannot_stay" 31, dG "heard_ways" 34, dG "offered" 35, dG "first_stand" 36, dG "is_stand_of" 37, dG "is_heard" 38, dG "is_step_of" 39, dG "changed" 40, dG "most_wished" 41, dG "after" 42, dG "due_steps" 43, dG "first_due" 44, dG "begin" 47, dG "is_stand" 48] : List He.DefD) ++ ([dG "done" 49, dG "due" 50, dG "is_outcome" 54, dG "outcomes" 55, dG "followed_up" 56, dG "refuse_wrong_lists" 61, dG "is_way_list" 62, dG "has_let_rest" 63, dG "let_ways" 64, dG "_law_pool" 66, dG "_law_draw" 67, dG "_law_order" 68, dG "_law_planted" 69, dG "_law_add" 70, dG "_law_lists" 71, dG "_law_same" 72, dG "_law_lines" 73, dG "_law_steps" 75, dG "_law_begin" 76, dG "_law_moved" 77, dG "_law_drawn_order" 78, dG "_law_looked" 79, dG "_law_at_rest" 80, dG "law" 81, dM "Wishes" "__init__" "Wishes.__init__" 60 0, dM "Wishes" "ways" "Wishes.ways" 60 2, dM "Wishes" "lines" "Wishes.lines" 60 3, dM "NoRouter" "__init__" "NoRouter.__init__" 3 0, dM "BadWishes" "__init__" "BadWishes.__init__" 4 0, dM "Works" "__init__" "Works.__init__" 33 0] : List He.DefD) ++ ([dM "TooMany" "__init__" "TooMany.__init__" 5 0, dM "Talk" "__init__" "Talk.__init__" 51 0, dM "Talk" "do" "Talk.do" 51 1, dM "Talk" "run" "Talk.run" 51 2, dM "Talk" "back" "Talk.back" 51 3, dM "Talk" "trying" "Talk.trying" 51 4, dM "Talk" "ahead" "Talk.ahead" 51 5, dM "Talk" "to_rest" "Talk.to_rest" 51 6, dM "Talk" "_go" "Talk._go" 51 7, dM "Trial" "__init__" "Trial.__init__" 22 0, dM "Trial" "__enter__" "Trial.__enter__" 22 1, dM "Trial" "__exit__" "Trial.__exit__" 22 2] : List He.DefD)
def fa : List He.Fa := ([.glo "is_integer", .glo "is_between", .glo "is_row", .glo "is_tuple_of", .glo "is_integer_tuple", .glo "is_router", .glo "refuse_no_router", .glo "is_size", .glo "is_way", .glo "replaced", .glo "choices", .glo "is_taking", .glo "is_choice", .glo "refuse_more_takings", .glo "no_items", .glo "cannot_stay", .glo "first_that_cannot_stay", .glo "heard_ways", .glo "offered", .glo "first_stand", .glo "is_stand_of", .glo "is_heard", .glo "is_step_of", .glo "changed", .glo "most_wished", .glo "after", .glo "due_steps", .glo "first_due", .glo "begin", .glo "is_stand"] : List He.Fa) ++ ([.glo "done", .glo "due", .glo "is_outcome", .glo "outcomes", .glo "followed_up", .glo "refuse_wrong_lists", .glo "is_way_list", .glo "has_let_rest", .glo "let_ways", .glo "_law_pool", .glo "_law_draw", .glo "_law_order", .glo "_law_planted", .glo "_law_add", .glo "_law_lists", .glo "_law_same", .glo "_law_lines", .glo "_law_steps", .glo "_law_begin", .glo "_law_moved", .glo "_law_drawn_order", .glo "_law_looked", .glo "_law_at_rest", .glo "law", .free "isinstance", .free "len", .free "tuple", .free "list", .free "int", .free "bool"] : List He.Fa) ++ ([.free "str", .free "all", .free "set", .free "enumerate", .free "range", .free "abs", .free "min", .free "repr", .int "MOST_ROUTERS" 8, .int "MOST_WAYS" 6, .int "LEAST_ROUTERS" 2, .int "MOST_TAKINGS" 20000, .int "MOST_STEPS_TO_REST" 10000, .glo "Wishes", .cls "Wishes", .mkr "Wishes", .meth "Wishes" "ways", .meth "Wishes" "lines", .noat "Wishes" "size", .noat "Wishes" "_lists", .glo "BadWishes", .glo "NoRouter", .exm "BadWishes" "BadWishes" true, .exm "NoRouter" "NoRouter" true, .noat "NoRouter" "router", .noat "BadWishes" "router", .meth "NoRouter" "__init__", .meth "BadWishes" "__init__", .glo "GOAL_WAY", .free "zip"] : List He.Fa) ++ ([.free "sorted", .glo "Works", .cls "Works", .mkr "Works", .noat "Works" "wishes", .noat "Works" "places", .noat "Works" "heard", .noat "Works" "offers", .noat "Works" "steps", .glo "TooMany", .exm "TooMany" "TooMany" true, .noat "TooMany" "most", .meth "TooMany" "__init__", .glo "Talk", .cls "Talk", .mkr "Talk", .noat "Talk" "_works", .noat "Talk" "stand", .noat "Talk" "many", .noat "Talk" "past", .meth "Talk" "do", .meth "Talk" "run", .meth "Talk" "back", .meth "Talk" "trying", .meth "Talk" "ahead", .meth "Talk" "to_rest", .meth "Talk" "_go", .glo "Trial", .cls "Trial", .mkr "Trial"] : List He.Fa) ++ ([.noat "Trial" "held", .noat "Trial" "stand", .noat "Trial" "many", .noat "Trial" "past", .meth "Trial" "__enter__", .meth "Trial" "__exit__"] : List He.Fa)
def eb (K : PySem.W.Frag) : Bool := exB K (He.ga K "NoRouter") && (exB K (He.ga K "BadWishes") && (exB K (He.ga K "TooMany") && (insB K (He.ga K "Wishes") && He.tupB K "GOAL_WAY" [.int 0])))
abbrev R : PySem.W.OpenRow := PySem.W.OpenLaw.row PySem.Challenge.rw_wishreels_k12_whole_talk_by_drawn_orders
abbrev hk : PySem.W.Hook := hookX 4 fa fn eb
def ob (s : PySem.W.SharedT) : AlX := obsX 4 fa fn eb (HandSHeadRun.getT s)
theorem ob_eq (s : PySem.W.SharedT) : ob s = hk.obs s.abs := obsX_eq (HandSHeadRun.getT_eq s)
def loose0 : List Str := ["_wall", "__name__", "WishError", "NoRouter", "BadWishes", "TooMany", "BadStand", "BadStep", "BadNumber", "MOST_ROUTERS", "is_integer", "is_between", "is_row", "is_tuple_of", "is_integer_tuple", "is_router", "refuse_no_router", "is_size", "is_way", "replaced", "Trial", "GOAL_WAY", "choices", "is_taking", "is_choice", "refuse_more_takings", "no_items", "cannot_stay", "first_that_cannot_stay", "Works"]
def loose1 : List Str := ["heard_ways", "offered", "first_stand", "is_stand_of", "is_heard", "is_step_of", "changed", "most_wished", "after", "due_steps", "first_due", "MOST_STEPS_TO_REST", "begin", "is_stand", "done", "due", "Talk", "MOST_TAKINGS", "is_outcome", "outcomes", "followed_up", "LEAST_ROUTERS", "MOST_WAYS", "Wishes", "refuse_wrong_lists", "is_way_list", "has_let_rest", "let_ways", "_law_pool", "_law_draw"]
def loose2 : List Str := ["_law_order", "_law_planted", "_law_add", "_law_lists", "_law_same", "_law_lines", "_law_rests", "_law_steps", "_law_begin", "_law_moved", "_law_drawn_order", "_law_looked", "_law_at_rest"]
def loose : List Str := loose0 ++ loose1 ++ loose2
theorem run (w : World) : HandSHeadRun.RunEq R (PySem.W.view R.prog [81]) hk ob 8000 loose w := by
  intro os
  kernel_rfl
end Wk


set_option Elab.async false
set_option linter.all false
set_option maxRecDepth 100000
set_option maxHeartbeats 2000000
namespace Wk
open L2 PySem PySem.Spec PyProof.Rows
section
variable {X : Cx}
/-- one entry more by a comprehension, in a dict of either kind of keys -/
theorem put_dp {ps : List (Addr × Obj)} {σ : L2.St} {H Hn : Hp} {s : Shared} {D : Addr} {y z : V} {u r : Value}
    {E : Value → Shared → Prop} {Q : Unit → Shared → Prop} (hu : X.A.units < cLine) (I : Inv X ps σ H s)
    (g : DPut H D y z Hn) (ry : L2.RelV y u) (rz : L2.RelV z r) (h : ∀ s', Inv X ps σ Hn s' → Q () s') :
    wpAny (model X.prog X.w) X.A (dictSet D u r) Q E s := by
  rcases g with ⟨kvs, k, e, rfl, l, rfl⟩ | ⟨kvs, k, b, e, rfl, eb, l, rfl⟩
  · exact d_dictSet I e l ry rz h
  · obtain rfl : u = Value.ref b := ry
    obtain ⟨z1, nd, xs, rel, dd⟩ := dt_of I.hok e
    have l1 := length_putK kvs k z
    refine wpAny_dictSet_heap (hsz := by rw [← Paired.length rel]; exact z1) hu (key_of I.hok eb) dd
      fun h1 d1 sb => h _ ?_
    obtain ⟨q, es, ep, hq, a1, a2, a3, _, a4⟩ := d1
    refine d_write I (by rw [e]; trivial) sb ⟨q, hq⟩ ⟨by omega, nd, _, (rel.put k eb rz).keeps ?_, q, es, ep, hq, a1, a2, a3, a4⟩
    intro c ys ec
    exact (upd_ne (ne_of ec e (by intro z; cases z))).trans ec
end
/-- what one item does: the target, the tests, then key, value and the entry -/
def dqStep (g : TG) (tt : TT) (tk tv : TE) (vs : List Nat) (D : Addr) (Nx : Hp → Prop) (σ : L2.St) (x : V) (H : Hp) : Prop :=
  g x (wipe σ vs) H fun σa Ha => wipe σa vs = wipe σ vs ∧ tt σa Ha fun b Hb =>
    if b = true then tk σa Hb fun y Hc => tv σa Hc fun z Hd => ∃ Hn, DPut Hd D y z Hn ∧ Nx Hn
    else Nx Hb
/-- the walk of such a comprehension by a measure -/
def dqWalk (J : It) (step : (Hp → Prop) → V → Hp → Prop) (Qs : Hp → Prop) (W : Nat → Nat → Hp → Prop) : Prop :=
  ∀ i m H, W i m H → (J.stop i H ∧ Qs H) ∨
    (J.go i H ∧ ∃ Nx : Hp → Prop, (∀ Ha, Nx Ha → ∃ k, k < m ∧ W (i + 1) k Ha) ∧ ∀ x Ha, J.yld i H x Ha → step Nx x Ha)
theorem dq_loop {Y : Cx} {σ : L2.St} {vs : List Nat} {R : Result → Shared → Prop} {J : It} {fp : List Addr} {it D : Addr}
    {tn : Nat → Heap → Prop} {kx vx tg iter : Expr} {ifs : List Expr} {scope : Scope} {pos : Pos} {g : TG} {tt : TT} {tk tv : TE}
    {W : Nat → Nat → Hp → Prop} {Qs : Hp → Prop} (hc : Y.calm = true) (hx : Y.xe = fun _ _ => False) (hu : Y.A.units < cLine)
    (T : Turn Y.prog Y.w Y.K tg J fp it tn) (pg : PG Y tg g) (pt : PTs Y ifs tt) (pk : PE Y kx tk) (pv : PE Y vx tv)
    (own : ∀ {σ' : L2.St} {H' : Hp} {s' : Shared}, Inv Y [] σ' H' s' → (∀ b ∈ fp, H' b = none) → ∀ b ∈ fp, FpOk Y [] H' b)
    (walk : dqWalk J (fun Nx x H => dqStep g tt tk tv vs D Nx σ x H) Qs W)
    (last : ∀ H s, Inv Y [] (wipe σ vs) H s → Qs H → R (.ok .next) s)
    {m : Nat} {H : Hp} {s : Shared} (I : Inv Y [] (wipe σ vs) H s) (st : tn 0 s.heap) (nf : ∀ b ∈ fp, H b = none) (w : W 0 m H) :
    codeAny (model Y.prog Y.w) Y.A
      (.compLoop (.DictComp kx vx [⟨tg, iter, ifs, 0⟩] scope pos) 0 (.ref it) (.ref D) Y.env) R s := by
  refine compLoop_anyD (fun k s1 => ∃ i H1, Inv Y [] (wipe σ vs) H1 s1 ∧ tn i s1.heap ∧ (∀ b ∈ fp, H1 b = none) ∧ W i k H1)
    (fun k s1 hk => ?_) m ⟨0, H, I, st, nf, w⟩
  obtain ⟨i, H1, I1, st1, nf1, w1⟩ := hk
  cases walk i k H1 w1 with
  | inl e =>
    refine thnF (T.done Y rfl rfl rfl hc i [] s1 _ H1 (fun _ _ => False) I1 (own I1 nf1) st1 e.1) ?_
    rintro _ s2 ⟨rfl, I2⟩
    exact last H1 s2 I2 e.2
  | inr e =>
    obtain ⟨go, Nx, less, step⟩ := e
    refine thnF (T.item Y rfl rfl rfl hc i [] s1 _ H1 (fun _ _ => False) I1 (own I1 nf1) st1 go) ?_
    rintro _ s2 ⟨u, rfl, it2⟩
    refine thnF it2 ?_
    rintro _ s3 ⟨x, H3, I3, rx, yx, st3, nf3⟩
    have pin := I3.pinned (own I3 nf3) (T.obj _ _ st3)
    have t1 := pg.run _ s3 _ H3 x u _ pin rx (step x H3 yx)
    rw [hx] at t1
    refine thnF t1 ?_
    rintro _ s4 ⟨σ4, H4, I4, ew, q4⟩
    have back : ∀ {s9 : Shared} {H9 : Hp}, Inv Y ([] ++ pinsAt fp s3.heap) σ4 H9 s9 → Nx H9 →
        ∃ j, j < k ∧ ∃ i' H', Inv Y [] (wipe σ vs) H' s9 ∧ tn i' s9.heap ∧ (∀ b ∈ fp, H' b = none) ∧ W i' j H' := by
      intro s9 H9 I9 nx
      obtain ⟨j, lt, wj⟩ := less H9 nx
      have same : ∀ b ∈ fp, ∀ o, s3.heap.get? b = some o → s9.heap.get? b = some o ∧ H9 b = none := by
        intro b hb o eo
        have a := I9.pin (b, o) (List.mem_append_right _ (List.mem_append_right _ (mem_pinsAt hb eo)))
        exact ⟨a.1, a.2.1⟩
      refine ⟨j, lt, i + 1, H9, ?_, T.keep _ _ _ st3 fun b hb o eo => (same b hb o eo).1, ?_, wj⟩
      · refine (I9.unpinned (pins := [])).weak (by rw [← ew, wipe_length]) ?_
        intro n v en
        rw [← ew] at en
        exact (wipe_some en).1
      · intro b hb
        obtain ⟨o, eo, _⟩ := T.obj _ _ st3 b hb
        exact (same b hb o eo).2
    have t2 := pt.run _ s4 σ4 H4 _ I4 q4
    rw [hx] at t2
    refine thnF t2 ?_
    rintro b s5 ⟨H5, I5, q5⟩
    cases b with
    | false => exact back I5 q5
    | true =>
      have t3 := pk.run _ s5 σ4 H5 _ I5 q5
      rw [hx] at t3
      refine thnF t3 ?_
      rintro ky s6 ⟨y, H6, I6, ry, q6⟩
      have t4 := pv.run _ s6 σ4 H6 _ I6 q6
      rw [hx] at t4
      refine thnF t4 ?_
      rintro vy s7 ⟨z, H7, I7, rz, Hn, put, nx⟩
      exact put_dp hu I7 put ry rz fun s8 I8 => back I8 nx
/-- {k: v for .. in .. if ..}, keys tuples -/
def tDq (wi : TI) (g : TG) (tt : TT) (tk tv : TE) (vs : List Nat) : TE := fun σ H Q => wi σ H fun J H1 => ∀ D, H1 D = none →
  ∃ W : Nat → Nat → Hp → Prop, (∃ m, W 0 m (upd H1 D (.dT []))) ∧
    dqWalk J (fun Nx x Ha => dqStep g tt tk tv vs D Nx σ x Ha) (fun Ha => Q (.ref D) Ha) W
/-- the context of the block -/
abbrev Bq (X : Cx) (scope : Scope) (s : Shared) (H : Hp) (C : Addr) (cl : List (Str × Addr)) (fp : List Addr) : Cx :=
  X.blk s H scope (compEnvC scope cl C X.env) fp
theorem pe_dq {X : Cx} {kx vx tg iter : Expr} {ifs : List Expr} {scope : Scope} {own : List (Str × Nat)} {pos : Pos}
    {wi : TI} {g : TG} {tt : TT} {tk tv : TE} (hc : X.calm = true) (hu : X.A.units + 1 < cLine) (hN : X.N.Nodup)
    (hi : PI X tg iter wi) (ok : BlkOk X.N X.env.scope scope own) (hg : ∀ s H C cl fp, PG (Bq X scope s H C cl fp) tg g)
    (ht : ∀ s H C cl fp, PTs (Bq X scope s H C cl fp) ifs tt) (hk : ∀ s H C cl fp, PE (Bq X scope s H C cl fp) kx tk)
    (he : ∀ s H C cl fp, PE (Bq X scope s H C cl fp) vx tv) (hs : ∀ x, foldedSetIterable iter X.env x = pure x := by intro _; rfl) :
    PE X (.DictComp kx vx [⟨tg, iter, ifs, 0⟩] scope pos) (tDq wi g tt tk tv (own.map (·.2))) := by
  constructor
  intro ps s σ H Q I h
  rw [arm_eval_DictComp]
  have look : ∀ y ∈ scope.names, y.2 = .free → ∃ c, X.env.cells.lookup y.1 = some c := by
    intro y hy e
    exact I.ok.has _ (ok.free y hy e)
  refine wpAny_comprehension_free (use := none) rfl hs (closure_ok look) ok.kind (fun y hy e => (ok.uniq y hy).trans (by rw [e])) ?_
  refine thn (hi.run ps s σ H _ I h) ?_
  intro xv s1 h1
  refine thn h1 ?_
  rintro _ s2 ⟨it, fp, tn, J, H2, rfl, I2, T, st2, f2, q⟩
  refine wpAny_newObj_type ?_
  refine newEnv_comp ?_
  obtain ⟨D, hD⟩ : ∃ D, D = s2.heap.objs.size := ⟨_, rfl⟩
  rw [← hD]
  obtain ⟨W, ⟨m0, w0⟩, walk⟩ := q D (I2.hok.fresh (Nat.le_of_eq hD.symm))
  obtain ⟨s3, e3⟩ : ∃ s3 : Shared, s3 = { s2 with heap := s2.heap.push { cls := .type "dict", data := .dict #[] } } := ⟨_, rfl⟩
  have g3 : ∀ b o, s2.heap.get? b = some o → s3.heap.get? b = some o := by
    intro b o e
    rw [e3]
    exact Heap.get?_push_of_some _ (by exact e)
  have I3 : Inv X ps σ (upd H2 D (.dT [])) s3 := by
    rw [e3, hD]
    exact I2.laid (t' := s2.toks) (fun b o e => Heap.get?_push_of_some _ e) (Nat.le_refl _) (dt_empty s2.heap I2.big)
  rw [← e3]
  obtain ⟨H3, eH3⟩ : ∃ H3, H3 = upd H2 D (.dT []) := ⟨_, rfl⟩
  rw [← eH3] at I3 w0
  have f3 : ∀ b ∈ fp, FpOk X ps H3 b ∧ b < s3.heap.objs.size := by
    intro b hb
    obtain ⟨o, e, _⟩ := T.obj 0 _ st2 b hb
    refine ⟨⟨?_, (f2 b hb).2⟩, Heap.lt_size (g3 b o e)⟩
    rw [eH3, upd_ne (by rw [hD]; exact Nat.ne_of_lt (Heap.lt_size e))]
    exact (f2 b hb).1
  have st3 : tn 0 s3.heap := T.keep _ _ _ st2 fun b _ o e => g3 b o e
  have Ib := block_start I3 ok hN f3
  obtain ⟨C, hC⟩ : ∃ C, C = s3.heap.objs.size := ⟨_, rfl⟩
  rw [← hC] at Ib ⊢
  obtain ⟨cl, ecl⟩ : ∃ cl, cl = cellsFrom (C + 1) scope.names (cloFrom X.env.cells scope.names []) := ⟨_, rfl⟩
  rw [← ecl] at Ib ⊢
  have st4 : tn 0 (pushCells (s3.heap.push { cls := .type "dict", data := .dict #[] }) scope.names) := T.keep _ _ _ st3 fun b _ o e =>
    pushCells_keeps _ _ _ _ (Heap.get?_push_of_some _ e)
  have loop : codeAny (model X.prog X.w) X.A
      (.compLoop (.DictComp kx vx [⟨tg, iter, ifs, 0⟩] scope pos) 0 (.ref it) (.ref D) (compEnvC scope cl C X.env))
      (compPost (model X.prog X.w) X.A X.xe none (EP X ps σ Q) (.ref D) C)
      { s3 with heap := pushCells (s3.heap.push { cls := .type "dict", data := .dict #[] }) scope.names } := by
    refine dq_loop (Y := Bq X scope s3 H3 C cl fp) (σ := σ) hc rfl (Nat.lt_of_succ_lt hu) T (hg s3 H3 C cl fp)
      (ht s3 H3 C cl fp) (hk s3 H3 C cl fp) (he s3 H3 C cl fp) ?_ walk ?_ Ib st4 (fun b hb => (f3 b hb).1.1) w0
    · intro σ' H' s' I' nf b hb
      refine ⟨nf b hb, (I'.ok.exf b hb).1, I'.ok.exfs b hb, .inl hb, fun x c e => (I'.ok.exf b hb).2 x c e, ?_⟩
      intro p hp
      exact absurd (show p ∈ ([] : List (Addr × Obj)) ++ [] from hp) (by simp)
    · intro H6 s6 I6 q6
      have I7 : Inv X ps σ H6 s6 := by
        refine I3.call' (ch := fp) I6.os I6.base I6.hok I6.bare ?_
        intro b hb
        obtain ⟨_, n1, _, n2, n3, n4⟩ := (f3 b hb).1
        exact ⟨n2, n1, n3, n4⟩
      obtain ⟨m, hn, _⟩ := I6.loc
      refine ⟨m, hn, fun h' sb => ?_⟩
      obtain ⟨n0, n1, n2, n3, n4, n5⟩ := I3.fpOk (b := C) (Nat.le_of_eq hC.symm) (show H6 C = none from I6.free)
      refine ⟨.ref D, H6, ?_, rfl, q6⟩
      exact I7.turned (t' := s6.toks) (fun b o hb e => (sb.2 b hb).trans e) n0 n1 n3 n4 n5
  exact codeAny_compStart_dict loop (T.self _ 0 _ _ _ st4 loop)
end Wk

set_option Elab.async false
set_option linter.all false
set_option maxRecDepth 100000
set_option maxHeartbeats 2000000
namespace Wk
open L2 PySem PySem.Spec PyProof.Rows Evl
/-- the items that a comprehension has put, item j of the source by Y j -/
def Grown (Y : Nat → V → Hp → Prop) (H : Hp) : List Nat → List V → Prop
  | [], us => us = []
  | j :: js, us => ∃ u r, us = u :: r ∧ Y j u H ∧ Grown Y H js r
def UpY (Y : Nat → V → Hp → Prop) : Prop := ∀ i u H H', Ex H H' → Y i u H → Y i u H'
theorem Grown.up {Y : Nat → V → Hp → Prop} (hY : UpY Y) {H H' : Hp} (e : Ex H H') : ∀ {js : List Nat} {us : List V}, Grown Y H js us → Grown Y H' js us
  | [], _, h => h
  | j :: js, _, ⟨u, r, h1, h2, h3⟩ => ⟨u, r, h1, hY j u H H' e h2, Grown.up hY e h3⟩
theorem Grown.snoc {Y : Nat → V → Hp → Prop} {H : Hp} {j : Nat} {u : V} (h : Y j u H) : ∀ {js : List Nat} {us : List V}, Grown Y H js us → Grown Y H (js ++ [j]) (us ++ [u])
  | [], _, h0 => by
    rw [show _ = [] from h0]
    exact ⟨u, [], rfl, h, rfl⟩
  | k :: js, _, ⟨v, r, h1, h2, h3⟩ => by
    subst h1
    exact ⟨v, r ++ [u], rfl, h2, Grown.snoc h h3⟩
theorem Grown.len {Y : Nat → V → Hp → Prop} {H : Hp} : ∀ {js : List Nat} {us : List V}, Grown Y H js us → us.length = js.length
  | [], _, h0 => by
    rw [show _ = [] from h0]
    rfl
  | k :: js, _, ⟨v, r, h1, h2, h3⟩ => by
    subst h1
    simp [Grown.len h3]
def upTo (f : Nat → Bool) (i : Nat) : List Nat := (List.range i).filter f
theorem upTo_yes {f : Nat → Bool} {i : Nat} (h : f i = true) : upTo f (i + 1) = upTo f i ++ [i] := by
  unfold upTo
  rw [List.range_succ, List.filter_append]
  simp [h]
theorem upTo_no {f : Nat → Bool} {i : Nat} (h : f i = false) : upTo f (i + 1) = upTo f i := by
  unfold upTo
  rw [List.range_succ, List.filter_append]
  simp [h]
theorem upTo_len (f : Nat → Bool) (i : Nat) : (upTo f i).length ≤ i := by
  unfold upTo
  have h := List.length_filter_le f (List.range i)
  rw [List.length_range] at h
  exact h
/-- what is evaluated is told by Y, the heap may grow -/
def EvY (te : TE) (σ : L2.St) (H : Hp) (Y : V → Hp → Prop) : Prop := ∀ H1, Ex H H1 → ∀ Q : VK, (∀ u H2, Ex H1 H2 → Y u H2 → Q u H2) → te σ H1 Q
def off (D : Addr) (H : Hp) : Hp := fun a => if a = D then none else H a
theorem off_ex {D : Addr} {H H' : Hp} (e : Ex H H') : Ex (off D H) (off D H') := fun a o h => by
  unfold off at h ⊢
  by_cases z : a = D
  · rw [if_pos z] at h
    cases h
  · rw [if_neg z] at h ⊢
    exact e a o h
theorem off_in (D : Addr) (H : Hp) : Ex (off D H) H := fun a o h => by
  unfold off at h
  split at h
  · cases h
  · exact h
theorem off_upd {D : Addr} {H : Hp} {o : HO} : off D (upd H D o) = off D H := by
  funext a
  unfold off upd
  split <;> rfl
theorem off_at {D a : Addr} {H : Hp} (h : a ≠ D) : off D H a = H a := by
  unfold off
  rw [if_neg h]
/-- a word of an item that outlives new objects and does not speak of lists -/
structure GoodY (Y : Nat → V → Hp → Prop) : Prop where
  up : UpY Y
  off : ∀ i u H D l, H D = some (.lst l) → Y i u H → Y i u (Wk.off D H)
def Gw (Y : Nat → V → Hp → Prop) (H : Hp) (f : Nat → Bool) (D : Addr) (i : Nat) (H' : Hp) : Prop :=
  H D = none ∧ Ex H H' ∧ ∃ us, H' D = some (.lst us) ∧ Grown Y (off D H') (upTo f i) us
theorem gw_turn {Y : Nat → V → Hp → Prop} (hY : GoodY Y) {H H' : Hp} {f : Nat → Bool} {D : Addr} {i : Nat} {t : TT} {te : TE} {σ2 : L2.St} (p : Gw Y H f D i H') (hi : i < 50000)
    (ht : EvT t σ2 H' (f i)) (he : f i = true → EvY te σ2 H' (Y i)) :
    t σ2 H' fun b H3 => if b = true then te σ2 H3 fun y H4 => ∃ acc, H4 D = some (.lst acc) ∧ acc.length < sizeLine ∧ Gw Y H f D (i + 1) (upd H4 D (.lst (acc ++ [y])))
      else Gw Y H f D (i + 1) H3 := by
  obtain ⟨p1, p2, us, p3, p4⟩ := p
  refine ht H' (Ex.refl _) _ fun H3 e3 => ?_
  cases hf : f i with
  | false =>
    refine ⟨p1, p2.trans e3, us, e3 _ _ p3, ?_⟩
    rw [upTo_no hf]
    exact p4.up hY.up (off_ex e3)
  | true =>
    refine he hf H3 e3 _ fun u H4 e4 y => ?_
    have d4 := e4 _ _ (e3 _ _ p3)
    have l1 := p4.len
    have l2 := upTo_len f i
    refine ⟨us, d4, sz_lt (by omega), p1, Ex.mut ((p2.trans e3).trans e4) p1, us ++ [u], upd_same, ?_⟩
    rw [upTo_yes hf, off_upd]
    exact Grown.snoc (hY.off i u H4 D us d4 y) (p4.up hY.up (off_ex (e3.trans e4)))
/-- a list comprehension whose items may be new objects -/
theorem grow_lc {J : It} {n : Nat} {Gd : Hp → Prop} {Yx : Nat → V → Prop} {Y : Nat → V → Hp → Prop} {j : Nat} {vs : List Nat} {σ : L2.St} {H : Hp} {D : Addr} {Qd : Hp → Prop} {t : TT} {te : TE}
    (w : Walk J n Gd (fun i H x H' => H' = H ∧ Yx i x)) (hY : GoodY Y) (f : Nat → Bool) (hD : H D = none) (hn : n ≤ 40000) (hG : ∀ H', Ex H H' → Gd H') (hw : ∀ x, wipe ((wipe σ vs).set j (some x)) vs = wipe σ vs)
    (ht : ∀ i x H', Ex H H' → i < n → Yx i x → EvT t ((wipe σ vs).set j (some x)) H' (f i)) (he : ∀ i x H', Ex H H' → i < n → Yx i x → f i = true → EvY te ((wipe σ vs).set j (some x)) H' (Y i))
    (hq : ∀ us H', Ex H H' → H' D = some (.lst us) → Grown Y H' (upTo f n) us → Qd H') :
    ∃ W : Nat → Nat → Hp → Prop, (∃ m, W 0 m (upd H D (.lst []))) ∧ ∀ i m H, W i m H →
      (J.stop i H ∧ Qd H) ∨ (J.go i H ∧ ∃ Nx : Hp → Prop, (∀ H', Nx H' → ∃ m', m' < m ∧ W (i + 1) m' H') ∧ ∀ x H', J.yld i H x H' → gName j x (wipe σ vs) H' fun σ2 H2 => wipe σ2 vs = wipe σ vs ∧ t σ2 H2 fun b H3 =>
        if b = true then te σ2 H3 fun y H4 => ∃ acc, H4 D = some (.lst acc) ∧ acc.length < sizeLine ∧ Nx (upd H4 D (.lst (acc ++ [y]))) else Nx H3) := by
  refine lc_it w (Gw Y H f D) ⟨hD, Ex.new hD, [], upd_same, rfl⟩ (fun i H' _ p => hG H' p.2.1) (fun i x H' H2 hi p y => ?_) (fun H' p => ?_)
  · obtain ⟨rfl, yx⟩ := y
    exact ⟨hw x, gw_turn hY p (by omega) (ht i x _ p.2.1 hi yx) (fun hf => he i x _ p.2.1 hi yx hf)⟩
  · obtain ⟨_, e, us, d, g⟩ := p
    exact hq us H' e d (g.up hY.up (off_in D H'))
/-- the keys of a dict are the first i of k, each with True -/
def KHas (k : Nat → List L2.Key) (i : Nat) (kvs : List (List L2.Key × V)) : Prop :=
  ∀ q, (valV kvs q = some (V.bl true) ∧ ∃ j, j < i ∧ k j = q) ∨ (valV kvs q = none ∧ ∀ j, j < i → k j ≠ q)
/-- the keys that a comprehension has put -/
def Kw (k : Nat → List L2.Key) (H : Hp) (D : Addr) (i : Nat) (H' : Hp) : Prop :=
  H D = none ∧ Ex H H' ∧ ∃ kvs, H' D = some (.dT kvs) ∧ kvs.length ≤ i ∧ KHas k i kvs
/-- {x: True for x in ..}, of tuples of whole numbers or texts -/
theorem grow_dq {J : It} {n : Nat} {Gd : Hp → Prop} {Yx : Nat → V → Prop} {k : Nat → List L2.Key} {j : Nat} {vs : List Nat} {σ : L2.St} {H : Hp} {D : Addr} {Qd : Hp → Prop} {tk tv : TE}
    (w : Walk J n Gd (fun i H x H' => H' = H ∧ Yx i x)) (hD : H D = none) (hn : n ≤ 40000) (hG : ∀ H', Ex H H' → Gd H') (hw : ∀ x, wipe ((wipe σ vs).set j (some x)) vs = wipe σ vs)
    (hk : ∀ i x H', Ex H H' → i < n → Yx i x → EvY tk ((wipe σ vs).set j (some x)) H' (fun u H2 => ∃ b, u = .ref b ∧ H2 b = some (.tup ((k i).map kV))))
    (hv : ∀ i x H', Ex H H' → i < n → Yx i x → Ev tv ((wipe σ vs).set j (some x)) H' (.bl true))
    (hq : ∀ kvs H', Ex H H' → H' D = some (.dT kvs) → KHas k n kvs → Qd H') :
    ∃ W : Nat → Nat → Hp → Prop, (∃ m, W 0 m (upd H D (.dT []))) ∧ dqWalk J (fun Nx x Ha => dqStep (gName j) tYes tk tv vs D Nx σ x Ha) Qd W := by
  refine ⟨fun i m H' => m = n - i ∧ i ≤ n ∧ Kw k H D i H', ⟨n, by simp, Nat.zero_le _, hD, Ex.new hD, [], upd_same, Nat.le_refl _, fun q => .inr ⟨rfl, fun j hj => absurd hj (Nat.not_lt_zero _)⟩⟩, ?_⟩
  rintro i m H1 ⟨rfl, hi, p1, p2, kvs, p3, p4, p5⟩
  by_cases lt : i < n
  · refine .inr ⟨w.goes i H1 lt (hG H1 p2), Kw k H D (i + 1), fun Ha q => ⟨n - (i + 1), by omega, rfl, lt, q⟩, fun x Ha y => ?_⟩
    obtain ⟨rfl, yx⟩ := w.yields i H1 x Ha lt (hG H1 p2) y
    refine ⟨hw x, ?_⟩
    show tk _ _ _
    refine hk i x _ p2 lt yx _ (Ex.refl _) _ fun u H2 e2 hu => ?_
    obtain ⟨b, rfl, hb⟩ := hu
    refine hv i x _ p2 lt yx H2 e2 _ fun H3 e3 => ?_
    have d3 := e3 _ _ (e2 _ _ p3)
    refine ⟨_, DPut.t d3 (e3 _ _ hb) (sz_lt (by omega)), p1, Ex.mut ((p2.trans e2).trans e3) p1, _, upd_same, ?_, fun q => ?_⟩
    · have := length_putK kvs (k i) (V.bl true)
      omega
    · rw [valV_put]
      by_cases e : q = k i
      · rw [if_pos e]
        exact .inl ⟨rfl, i, Nat.lt_succ_self i, e.symm⟩
      · rw [if_neg e]
        rcases p5 q with ⟨z, j', h1, h2⟩ | ⟨z, h2⟩
        · exact .inl ⟨z, j', by omega, h2⟩
        · refine .inr ⟨z, fun j' hj => ?_⟩
          rcases Nat.lt_succ_iff_lt_or_eq.mp hj with h3 | h3
          · exact h2 j' h3
          · subst h3
            exact fun z2 => e z2.symm
  · have e : i = n := by omega
    subst e
    exact .inl ⟨w.stops H1 (hG H1 p2), hq kvs H1 p2 p3 p5⟩
end Wk

set_option Elab.async false
set_option linter.all false
set_option maxRecDepth 100000
set_option maxHeartbeats 2000000
namespace Wk
open L2 PySem PySem.Spec PyProof.Rows Evl
/-- a tuple of two, turned about by a slice of step -1 -/
theorem get_back {prog : Program} {w : World} {A : Around} {E : Value → Shared → Prop} {s : Shared} {t sl : Addr} {x y vs : Value} {Q : Value → Shared → Prop}
    (ht : IsTup s.heap t #[x, y]) (hs : s.heap.IsSliceOf sl .none .none vs) (ps : IsPart vs (some (-1)))
    (h : Q (.ref s.heap.objs.size) { s with heap := s.heap.push { cls := .type "tuple", data := .seq #[y, x] } }) :
    wpAny (model prog w) A (getItem (.ref t) (.ref sl)) Q E s := by
  obtain ⟨os, hos, hcs, hds⟩ := id hs
  have ts : s.TypeIs (.ref sl) "slice" := ⟨os, hos, hcs⟩
  unfold getItem
  try with_reducible refine wpAny_holding ?_
  have tt := ht.typeIs
  refine wpAny_bind (wpAny_sequenceKey tt (by decide) (wpAny_bind (wpAny_callSpecial?_slot (name := Str.ofString "__getitem__") tt PyProof.Rows.slot_tuple_getitem ?_)))
  refine wpAny_call_entry PyProof.Rows.slot_tuple_getitem tt entry_tuple_getitem ?_ (args_tuple_getitem _ _)
  show wpAny _ _ (Builtin.Tuple.tupleItemsOf (.ref t) >>= _) _ _ s
  refine wpAny_bind (tupleItemsOf_ ht (wpAny_bind (wpAny_typeOf ts ?_)))
  rw [if_pos (by decide)]
  refine wpAny_bind ?_
  unfold Builtin.Slice.sliceApplied Builtin.Slice.sliceFields
  refine wpAny_bind (wpAny_bind (wpAny_field hos hds (x := .none) rfl (wpAny_bind (wpAny_field hos hds (x := .none) rfl (wpAny_bind (wpAny_field hos hds (x := vs) rfl (wpAny_pure ?_)))))))
  refine wpAny_bind (HT.slicePart_ ps ?_)
  show wpAny _ _ (if ((-1 : Int) == 0) = true then _ else _) _ _ s
  rw [if_neg (by decide)]
  refine wpAny_bind (slicePart_none (wpAny_bind (slicePart_none (wpAny_bind (wpAny_pure ?_)))))
  have e1 : Builtin.Slice.sliceAdjust none none (-1) (2 : Int) = (1, -1) := by first | rfl | decide
  have e2 : Builtin.Slice.slicePlaces 1 (-1) (-1) = 2 := by first | rfl | decide
  show wpAny _ _ (match Builtin.Slice.sliceAdjust none none (-1) (2 : Int) with | (lo, hi) => pure (lo, (-1 : Int), Builtin.Slice.slicePlaces lo hi (-1))) _ _ s
  rw [e1]
  show wpAny _ _ (pure ((1 : Int), (-1 : Int), Builtin.Slice.slicePlaces 1 (-1) (-1))) _ _ s
  rw [e2]
  refine wpAny_pure ?_
  show wpAny _ _ (if ((1 : Int) == 0 && (-1 : Int) == 1 && (2 : Nat) == 2) = true then _ else _) _ _ s
  rw [if_neg (by decide)]
  have e3 : ((List.range 2).filterMap fun (k : Nat) => #[x, y][((1 : Int) + (k : Int) * (-1)).toNat]?).toArray = #[y, x] := by first | rfl | simp [List.range, List.range.loop]
  rw [e3]
  have z : sizeOk (.seq #[y, x]) := by show (2 : Nat) ≤ sizeLine; decide
  first
    | exact wpAny_bind (m := Builtin.Tuple.tupleExact _) (wpAny_newObj_type (wpAny_pure ⟨_, rfl, wpAny_pure h⟩) z)
    | exact wpAny_bind (wpAny_newObj_type (wpAny_pure ⟨_, rfl, wpAny_pure h⟩) z)
/-- t[::-1] of a tuple of two -/
def tBack (K : PySem.W.Frag) (te : TE) : TE := fun σ H Q => te σ H fun x H1 => ∃ a u v, x = .ref a ∧ SqT K H1 a [u, v] ∧
  ∀ p, H1 p = none → Q (.ref p) (upd H1 p (.tup [v, u]))
theorem pe_back {X : Cx} {e : Expr} {te : TE} {k : Nat} {p1 p2 p3 pos : Pos} (he : PE X e te) :
    PE X (.Subscript e (.Slice none none (some (.UnaryOp .USub (.Constant (.int 1) k p1) p2)) p3) pos) (tBack X.K te) := by
  constructor
  intro ps s σ H Q I h
  refine Subscript_ (thn (he.run ps s σ H _ I h) ?_)
  rintro v0 s1 ⟨_, H1, I1, rv, a, x, y, rfl, hx, q⟩
  obtain rfl : v0 = Value.ref a := rv
  have st : PO X (some (.UnaryOp .USub (.Constant (.int 1) k p1) p2)) (tPart (tUn (rU fun i => .int (-i)) (tC (.int 1)))) := po_some (pe_un un_neg pe_int)
  refine wpAny_Slice (thn (po_none.run ps s1 σ H1 (fun o H2 => o = none ∧ H2 = H1) I1 ⟨rfl, rfl⟩) ?_)
  rintro vl s2 ⟨_, _, I2, pl, rfl, rfl⟩
  refine thn (po_none.run ps s2 σ _ (fun o H3 => o = none ∧ H3 = _) I2 ⟨rfl, rfl⟩) ?_
  rintro vu s3 ⟨_, _, I3, pu, rfl, rfl⟩
  refine thn (st.run ps s3 σ _ (fun o H4 => o = some (-1) ∧ H4 = _) I3 ⟨1, rfl, -1, rfl, rfl, rfl⟩) ?_
  rintro vs s4 ⟨_, _, I4, pz, rfl, rfl⟩
  cases pl
  cases pu
  have I5 := I4.kept (h' := s4.heap.push { cls := .type "slice", data := .fields #[.none, .none, vs] }) (t' := s4.toks) fun b ob z => Heap.get?_push_of_some _ z
  obtain ⟨its, r, ht, hz⟩ := I5.tuple hx
  cases r with
  | cons r1 r' =>
    cases r' with
    | cons r2 r'' =>
      cases r''
      refine tail_any (ops := [.ref a, .ref s4.heap.objs.size]) ht.typeIs (PyProof.Rows.slot_tuple_getitem.lookup) ?_ (by with_unfolding_all rfl)
      refine get_back ht (Heap.IsSliceOf.new _ .none .none vs) pz ?_
      refine ⟨.ref _, _, I5.laid (t' := s4.toks) (o := .tup [y, x]) (fun b ob z => Heap.get?_push_of_some _ z) (Nat.le_refl _) ?_, rfl, q _ (I5.hok.fresh (Nat.le_refl _))⟩
      exact ⟨by show (2 : Nat) ≤ sizeLine; decide, _, .cons r2 (.cons r1 .nil), IsTup.new _ _⟩
end Wk

set_option Elab.async false
set_option linter.all false
set_option maxRecDepth 100000
set_option maxHeartbeats 2000000
namespace Wk
open L2 PySem PySem.Spec PyProof.Rows Evl
theorem sl_tupK {X : Cx} {K : PySem.W.Frag} (hK : X.K = K) : SlR X (rSlA K) := by
  subst hK
  exact sl_tupA
theorem ret_any {te : TE} {D : Ends} {σ : L2.St} {H : Hp} (h : te σ H D.rt) : tRet te D σ H := h
theorem ey_sl {K : PySem.W.Frag} {σ : L2.St} {H : Hp} {te : TE} {tl th : TO} {a : Addr} {xs : List V} {lo hi : Option Int} (h : Ev te σ H (.ref a)) (h1 : EvO tl σ H lo) (h2 : EvO th σ H hi)
    (ha : H a = some (.tup xs)) : EvY (tSl (rSlA K) te tl th) σ H (fun u H2 => ∃ b, u = .ref b ∧ H2 b = some (.tup (cutV xs lo hi))) := fun H1 e Q q =>
  h H1 e _ fun H2 e2 => h1 H2 (e.trans e2) _ fun H3 e3 => h2 H3 ((e.trans e2).trans e3) _ fun H4 e4 => by
    have e14 := (e2.trans e3).trans e4
    have ha4 := (e.trans e14) _ _ ha
    refine ⟨a, xs, rfl, st_of ha4, fun hw => ?_, fun hw p hp => q _ _ (e14.trans (Ex.new hp)) ⟨p, rfl, upd_same⟩⟩
    have ec : cutV xs lo hi = xs := by
      unfold cutV
      rw [hw.1, hw.2]
      simp
    exact q _ _ e14 ⟨a, rfl, by rw [ec]; exact ha4⟩
def TupY (z : Nat → List V) : Nat → V → Hp → Prop := fun i u H => ∃ b, u = .ref b ∧ H b = some (.tup (z i))
theorem tupY_good (z : Nat → List V) : GoodY (TupY z) := by
  refine ⟨fun i u H H' e h => ?_, fun i u H D l hD h => ?_⟩
  · obtain ⟨b, h1, h2⟩ := h
    exact ⟨b, h1, e _ _ h2⟩
  · obtain ⟨b, h1, h2⟩ := h
    refine ⟨b, h1, (off_at ?_).trans h2⟩
    intro hb
    rw [hb, hD] at h2
    cases h2
theorem grown_wds {ws : Nat → Wy} {H : Hp} : ∀ {js : List Nat} {us : List V}, Grown (TupY fun i => (ws i).map V.int) H js us → DqA H us ((js.map ws).map wd)
  | [], us, h => by
    rw [show us = [] from h]
    exact .nil
  | j :: js, us, ⟨u, r, h1, ⟨b, h2, h3⟩, h4⟩ => by
    subst h1 h2
    exact .cons (wd_of h3) (grown_wds h4)
theorem upTo_all (n : Nat) : upTo (fun _ => true) n = List.range n := by
  unfold upTo
  simp
/-- [e for i in range(n)], the items new tuples of whole numbers -/
theorem q_lcR {ta : TA} {te : TE} {j : Nat} {vs : List Nat} {n : Int} {σ : L2.St} {H : Hp} {Q : VK} {Y : Nat → V → Hp → Prop} (h : EvA ta σ H [.int n]) (hn0 : -1 ≤ n) (hn : n ≤ 40000) (hY : GoodY Y)
    (hw : ∀ x, wipe ((wipe σ vs).set j (some x)) vs = wipe σ vs) (he : ∀ (i : Nat) H', Ex H H' → (i : Int) < n → EvY te ((wipe σ vs).set j (some (.int (i : Int)))) H' (Y i))
    (k : ∀ l us H', Ex H H' → H l = none → H' l = some (.lst us) → Grown Y H' (List.range n.toNat) us → Q (.ref l) H') : tLc (iRng1 ta) (gName j) tYes te vs σ H Q :=
  h H (Ex.refl H) _ fun H1 e1 => ⟨n, rfl, by omega, by omega, fun D hD => grow_lc (Yx := fun i x => x = .int ((0 : Int) + (i : Int))) walk_range hY (fun _ => true) hD (by omega) (fun _ _ => True.intro) hw (fun i x H' e hi hx => et_yes)
    (fun i x H' e hi hx _ => by
      have z : x = .int (i : Int) := by rw [hx, Int.zero_add]
      rw [z]
      exact he i H' (e1.trans e) (by omega))
    (fun us H' e hd g => k D us H' (e1.trans e) (fresh_back e1 hD) hd (by rw [upTo_all] at g; exact g))⟩
end Wk

set_option Elab.async false
set_option linter.all false
set_option maxRecDepth 100000
set_option maxHeartbeats 2000000
namespace Wk
open PySem PySem.Spec PyProof.Rows L2 Evl
/-- wishes' methods and names, for one who calls them -/
structure WC (P : Program) (w : World) (K : PySem.W.Frag) (mg : Str → Option Value) (base : Heap) (CW CN : Addr) : Prop where
  tx : WTx K mg CW
  it : ITx K CW
  wy : ∃ (fM : Addr) (fd : FuncData), Meth K CW "ways" fM ∧ FnOk P w K mg base (L2.CX P w) 5 fM fd ["self", "router"] (spWays CW CN) ∧ Binds K fd ["self", "router"] []
def intsB (d : PyData) : Bool := isTu d && (itemsT d).all isI
theorem intsB_wd {d : PyData} (h : intsB d = true) : d = wd (rts d) := by
  unfold intsB at h
  obtain ⟨h1, h2⟩ := Bool.and_eq_true_iff.mp h
  cases d <;> first | (simp [isTu] at h1; done) | skip
  rename_i ds
  have h2' : ds.all isI = true := h2
  unfold wd rts itemsT
  congr 1
  clear h1 h2 h
  induction ds with
  | nil => rfl
  | cons x l ih =>
    have h3 : isI x = true ∧ l.all isI = true := by simpa using h2'
    show x :: l = .int (valI x) :: (l.map valI).map PyData.int
    rw [← ih h3.2, ← isI_eq h3.1]
def chB (rows : List (List Wy)) (i : Nat) (d : PyData) : Bool := intsB d && decide (rts d ∈ chW rows i)
def tgN (n : Int) : Option PyData → Bool
  | some d => isTu d && decide (V.int ((itemsT d).length : Int) = V.int n)
  | none => false
def tkB (rows : List (List Wy)) (o : Option PyData) : Bool := tgN (rows.length : Int) o && match o with
  | some d => ((List.range (itemsT d).length).map fun k => (((itemsT d)[k]?).map (chB rows k)).getD false).all id
  | none => true
section
variable {P : Program} {w : World} {K : PySem.W.Frag} {mg : Str → Option Value} {base : Heap} {f : Addr} {fd : FuncData} {CW CN : Addr}
/-! is_tuple_of, is_integer_tuple -/
abbrev spTupOf (CW : Addr) : Sp := spP fun H vs z => ∃ (n : Int) (v : V) (o : Option PyData), vs = [.int n, v] ∧ Tg CW H v o ∧ z = .bl (tgN n o)
abbrev sTupOf : Stmt := top 14
theorem scTupOf : FnScope ["many", "thing"] ["many", "thing"] (defScope sTupOf) := ⟨rfl, rfl, rfl, by decide +kernel, rfl, by decide +kernel, by decide +kernel⟩
theorem ok_tupOf (B : Bl mg) (T : ITx K CW) (F : FnP K "is_tuple_of" sTupOf f fd) : FnOk P w K mg base CX0 1 f fd ["many", "thing"] (spTupOf CW) := by
  refine F.ok scTupOf (fun vs H Q E h => ?_) (fun cdv A outer s H vs Q E hr h => ?_)
  · obtain ⟨z, ⟨n, v, o, rfl, _⟩, _⟩ := h
    rfl
  · obtain ⟨z, ⟨n, v, o, rfl, hv, rfl⟩, k⟩ := h
    refine ⟨_, pss_one (ps_ret (pe_and (pe_callB call_isi (by rfl) B.isi boot_isinstance (pa_cons (pv 1) (pa_cons (pe_bltn (v := .ty "tuple") (by rfl) B.tuple PyProof.Rows.boot_tuple rfl) pa_nil)))
      (pe_one (pe_cmpR op_eq (pe_callB call_len_seq (by rfl) B.len PySem.boot_len (pa_cons (pv 1) pa_nil)) (pv 0) (nomark _))))), ?_⟩
    have e : tgN n o = (tgT o && tgN n o) := by
      cases o with
      | none => rfl
      | some d =>
        show (isTu d && _) = (isTu d && (isTu d && _))
        cases isTu d <;> rfl
    rw [e] at k
    refine s_ret (ev_andV (ev_isiT T (ev_var rfl) hv) fun ht => ?_) k
    cases o with
    | none => cases ht
    | some d =>
      have ht' : isTu d = true := ht
      have hv' : Dq H v d := hv
      cases hv' <;> first | (simp [isTu] at ht'; done) | skip
      rename_i a xs ds h1 h2
      have q := ev_op (H := H) (σ := start ["many", "thing"] [.int n, .ref a]) (ev_lenT (K := K) (ta := tVar 1) (ev_var rfl) (st_of h1)) (ev_var (i := 0) rfl) (rv_eq (x := .int (xs.length : Int)) (y := .int n) rfl)
      rw [h2.length] at q
      exact q
abbrev spIntTup : Sp := spP fun H vs z => ∃ (v : V) (d : PyData), vs = [v] ∧ Dq H v d ∧ (itemsT d).length ≤ 1000 ∧ z = .bl (intsB d)
abbrev sIntTup : Stmt := top 15
theorem scIntTup : FnScope ["thing", "item"] ["thing"] (defScope sIntTup) := ⟨rfl, rfl, rfl, by decide +kernel, rfl, by decide +kernel, by decide +kernel⟩
theorem ok_intTup (B : Bl mg) (C : Cal P w K mg base "is_integer" ["thing"] 1 spIsInt) (F : FnP K "is_integer_tuple" sIntTup f fd) : FnOk P w K mg base CX0 2 f fd ["thing"] spIntTup := by
  refine F.ok scIntTup (fun vs H Q E h => ?_) (fun cdv A outer s H vs Q E hr h => ?_)
  · obtain ⟨z, ⟨v, d, rfl, _⟩, _⟩ := h
    rfl
  · obtain ⟨z, ⟨v, d, rfl, hv, hl, rfl⟩, k⟩ := h
    refine ⟨_, pss_one (ps_ret (pe_and (pe_callB call_isi (by rfl) B.isi boot_isinstance (pa_cons (pv 0) (pa_cons (pe_bltn (v := .ty "tuple") (by rfl) B.tuple PyProof.Rows.boot_tuple rfl) pa_nil)))
      (pe_one (pe_callB (cr_all rfl) (by rfl) B.all boot_all (pa_cons (pe_lc (own := [("item", 1)]) (g := gName 1) (tt := tYes) rfl scIntTup.nd (pi_tup (pv 0)) (blkOk_by (N := ["thing", "item"]) (sc := defScope sIntTup) (by decide +kernel))
          (fun _ _ _ _ _ => pg_name (i := 1) scIntTup.nd rfl (Or.inl rfl)) (fun _ _ _ _ _ => pts_nil) (fun _ _ _ _ _ => pe_cal C hr (by rfl) (pa_cons (pv 1) pa_nil))) pa_nil))))), ?_⟩
    refine s_ret (ev_andV (a := isTu d) (ev_isi (ev_var rfl) hv (kit_tup d)) fun ht => ?_) k
    cases hv <;> first | (simp [isTu] at ht; done) | skip
    rename_i a xs ds h1 h2
    have hxl := h2.length
    have hl' : ds.length ≤ 1000 := hl
    have q := ev_allT (K := K) (H := H) (j := 1) (vs := [1]) (σ := start ["thing", "item"] [.ref a]) (tl := tVar 0) (te := tCall spIsInt [] E0 (tCons (tVar 1) tNil)) (fun i => ((ds[i]?).map isI).getD false) (ev_var rfl) (st_of h1) (by omega) (fun x => rfl)
      (fun i x H2 e2 hx => by
        obtain ⟨dx, e3, e4⟩ := h2.get hx
        rw [e3]
        exact ev_call (ea_cons (ev_var rfl) ea_nil) (spP_v fun H3 e5 => ⟨x, dx, rfl, (e4.mono e2).mono e5, rfl⟩))
    rw [hxl, all_get] at q
    exact q
/-! choices, is_choice -/
def spChoices (K : PySem.W.Frag) (CW : Addr) : Sp := fun vs H Q _ => ∃ (v : V) (i : Nat) (rows : List (List Wy)), vs = [v, .int (i : Int)] ∧ WO CW H v rows ∧ i < rows.length ∧ ∀ H' l us, Ex H H' → H l = none → H' l = some (.lst us) → DpAll K H' us ((chW rows i).map wd) → Q (.ref l) H'
abbrev sChoices : Stmt := top 25
theorem scChoices : FnScope ["wishes", "router"] ["wishes", "router"] (defScope sChoices) := ⟨rfl, rfl, rfl, by decide +kernel, rfl, by decide +kernel, by decide +kernel⟩
theorem ok_choices (B : Bl mg) (W : WC P w K mg base CW CN) {ag : Addr} (hG : mg "GOAL_WAY" = some (.ref ag)) (hGt : ∀ H, SqT K H ag [.int 0]) (F : FnP K "choices" sChoices f fd) : FnOk P w K mg base CX0 6 f fd ["wishes", "router"] (spChoices K CW) := by
  obtain ⟨fM, fdM, me, FM, bM⟩ := W.wy
  refine F.ok scChoices (fun vs H Q E h => ?_) (fun cdv A outer s H vs Q E hr h => ?_)
  · obtain ⟨v, i, rows, rfl, _⟩ := h
    rfl
  · obtain ⟨v, i, rows, rfl, hw, hi, k⟩ := h
    refine ⟨_, pss_cons (ps_if (pt_cmpR op_eq (pv 1) pe_int (nomark _)) (pss_one (ps_ret (pe_lst (pa_cons (pe_glob (v := .ref ag) (by rfl) hG rfl) pa_nil)))) pss_nil)
      (pss_one (ps_ret (pe_op op_cat (pe_callTy (call_listK2 (K := K) rfl) (by rfl) B.list PyProof.Rows.boot_list (pa_cons (pe_meAt (pv 0) W.tx.cl me FM hr bM (fun σ => passAt takes0 σ) (pa_cons (pv 1) pa_nil)) pa_nil)) (pe_lst (pa_cons (pe_tup pa_nil) pa_nil))))), ?_⟩
    refine q_when (b := decide (V.int (i : Int) = V.int 0)) (et_test (ev_op (ev_var rfl) ev_c (rv_eq rfl))) (fun hb H1 e1 => ?_) (fun hb H1 e1 => ?_)
    · have i0 : i = 0 := by have := of_decide_eq_true hb; injection this; omega
      subst i0
      refine ⟨by show 1 ≤ sizeLine; decide, fun l hl => k _ l _ (e1.trans (Ex.new hl)) (fresh_back e1 hl) upd_same ?_⟩
      exact .cons (dp_of_wd (w := [0]) (hGt _)) .nil
    · have i0 : i ≠ 0 := fun z => by rw [z] at hb; simp at hb
      have hrw : rows[i]? = some rows[i] := List.getElem?_eq_getElem hi
      have hec : chW rows i = rows[i] ++ [[]] := by
        unfold chW
        rw [if_neg i0, List.getD_eq_getElem?_getD, hrw]
        rfl
      have hr6 := hw.r6 _ (List.getElem_mem hi)
      rw [hec] at k
      generalize rows[i] = row at *
      refine ret_op (cb1 (t_ways (σ := start ["wishes", "router"] [v, .int (i : Int)]) (ev_var rfl) (hw.up e1) (ev_var rfl) hrw fun u H2 e2 hu => ?_))
      unfold rd at hu
      cases hu with
      | tup h1 h2 =>
        rename_i a xs
        have hxl := h2.length
        rw [List.length_map] at hxl
        refine ⟨a, xs, rfl, .inr (st_of h1), fun l hl => ⟨by show 0 ≤ sizeLine; decide, fun t ht => ⟨by show 1 ≤ sizeLine; decide, fun b hb2 => ?_⟩⟩⟩
        have e3 := Ex.new (o := .lst xs) hl
        have e4 := Ex.new (o := .tup ([] : List V)) ht
        have e5 := Ex.new (o := .lst [V.ref t]) hb2
        refine ⟨l, b, xs, [.ref t], rfl, rfl, e5 _ _ (e4 _ _ upd_same), upd_same, by rw [sizeLine_eq]; show xs.length + 1 ≤ _; omega, fun c hc => ?_⟩
        have e6 := Ex.new (o := .lst (xs ++ [V.ref t])) hc
        have e36 := ((e3.trans e4).trans e5).trans e6
        refine k _ c _ ((e1.trans e2).trans e36) ?_ upd_same ?_
        · exact fresh_back ((e1.trans e2).trans ((e3.trans e4).trans e5)) hc
        · rw [List.map_append]
          refine dpa_app (DpAll.up e36 (DqA.dp (lay_wds row) h2)) (.cons (dp_of_wd (w := []) (st_of ?_)) .nil)
          exact (e5.trans e6) _ _ upd_same
abbrev spChoice (CW : Addr) : Sp := spP fun H vs z => ∃ (wv : V) (i : Nat) (v : V) (d : PyData) (rows : List (List Wy)), vs = [wv, .int (i : Int), v] ∧ WO CW H wv rows ∧ i < rows.length ∧ Dq H v d ∧ (itemsT d).length ≤ 1000 ∧ z = .bl (chB rows i d)
abbrev sChoice : Stmt := top 27
theorem scChoice : FnScope ["wishes", "router", "thing"] ["wishes", "router", "thing"] (defScope sChoice) := ⟨rfl, rfl, rfl, by decide +kernel, rfl, by decide +kernel, by decide +kernel⟩
theorem ok_choice (C : Cal P w K mg base "is_integer_tuple" ["thing"] 2 spIntTup) (C2 : Cal P w K mg base "choices" ["wishes", "router"] 6 (spChoices K CW)) (F : FnP K "is_choice" sChoice f fd) : FnOk P w K mg base CX0 7 f fd ["wishes", "router", "thing"] (spChoice CW) := by
  refine F.ok scChoice (fun vs H Q E h => ?_) (fun cdv A outer s H vs Q E hr h => ?_)
  · obtain ⟨z, ⟨wv, i, v, d, rows, rfl, _⟩, _⟩ := h
    rfl
  · obtain ⟨z, ⟨wv, i, v, d, rows, rfl, hw, hi, hv, hl, rfl⟩, k⟩ := h
    have hu : (A.deeper (envOfC "is_choice" (defScope sChoice) s.heap.objs.size f cdv)).units + 65 < cLine := by have := hr.un; omega
    refine ⟨_, pss_one (ps_ret (pe_and (pe_cal C hr (by rfl) (pa_cons (pv 2) pa_nil)) (pe_one (pe_cmpR (op_inD hu) (pv 2) (pe_cal C2 hr (by rfl) (pa_cons (pv 0) (pa_cons (pv 1) pa_nil))) rfl)))), ?_⟩
    refine s_ret (ev_andV (a := intsB d) (ev_call (ea_cons (ev_var rfl) ea_nil) (spP_v fun H1 e => ⟨v, d, rfl, hv.mono e, hl, rfl⟩)) fun hb => ?_) k
    have ed := intsB_wd hb
    intro H1 e1 Q2 q
    refine ⟨v, rfl, wv, rfl, .int (i : Int), rfl, wv, i, rows, rfl, hw.up e1, hi, fun H2 l us e2 _ hl2 hus => ?_⟩
    have hv2 := hv.mono (e1.trans e2)
    rw [ed] at hv2
    refine ⟨wd (rts d), (chW rows i).map wd, Dq.dp (SeqAt.canLay_of_shaped (shaped_wd _)) hv2, .lst (sq_of hl2) hus, shaped_wd _, shaped_wds _, ?_⟩
    rw [any_wd]
    exact q H2 e2
/-! is_taking -/
abbrev spTaking (CW : Addr) : Sp := spP fun H vs z => ∃ (wv v : V) (o : Option PyData) (rows : List (List Wy)), vs = [wv, v] ∧ WO CW H wv rows ∧ Tg CW H v o ∧ (∀ d, o = some d → ∀ x ∈ itemsT d, (itemsT x).length ≤ 1000) ∧ z = .bl (tkB rows o)
abbrev sTaking : Stmt := top 26
abbrev nTaking : List Str := ["wishes", "thing", "router", "item"]
theorem scTaking : FnScope nTaking ["wishes", "thing"] (defScope sTaking) := ⟨rfl, rfl, rfl, by decide +kernel, rfl, by decide +kernel, by decide +kernel⟩
theorem ok_taking (B : Bl mg) (W : WC P w K mg base CW CN) (C : Cal P w K mg base "is_tuple_of" ["many", "thing"] 1 (spTupOf CW)) (C2 : Cal P w K mg base "is_choice" ["wishes", "router", "thing"] 7 (spChoice CW)) (F : FnP K "is_taking" sTaking f fd) : FnOk P w K mg base CX0 8 f fd ["wishes", "thing"] (spTaking CW) := by
  refine F.ok scTaking (fun vs H Q E h => ?_) (fun cdv A outer s H vs Q E hr h => ?_)
  · obtain ⟨z, ⟨wv, v, o, rows, rfl, _⟩, _⟩ := h
    rfl
  · obtain ⟨z, ⟨wv, v, o, rows, rfl, hw, hv, hsm, rfl⟩, k⟩ := h
    refine ⟨_, pss_cons (ps_if (pt_not (pt_val (pe_cal C hr (by rfl) (pa_cons (pe_fld (pv 0) rfl) (pa_cons (pv 1) pa_nil))))) (pss_one (ps_ret pe_bl)) pss_nil)
      (pss_one (ps_ret (pe_callB (cr_all rfl) (by rfl) B.all boot_all (pa_cons (pe_lc (own := [("router", 2), ("item", 3)]) (g := gTup K 2 (gCons (gName 2) (gCons (gName 3) gNil))) (tt := tYes) rfl scTaking.nd (pi_enumT (by rfl) B.enum (pa_cons (pv 1) pa_nil)) (blkOk_by (N := nTaking) (sc := defScope sTaking) (by decide +kernel))
          (fun _ _ _ _ _ => pg_tup rfl (pgs_cons (pg_name (i := 2) scTaking.nd rfl (Or.inl rfl)) (pgs_cons (pg_name (i := 3) scTaking.nd rfl (Or.inl rfl)) pgs_nil))) (fun _ _ _ _ _ => pts_nil) (fun _ _ _ _ _ => pe_cal C2 hr (by rfl) (pa_cons (pv 0) (pa_cons (pv 2) (pa_cons (pv 3) pa_nil))))) pa_nil)))), ?_⟩
    have v0 : ∀ {H1 : Hp}, Ev (tVar 0) (start nTaking [wv, v]) H1 wv := ev_var rfl
    refine q_when (b := !tgN (rows.length : Int) o) (et_not (et_B (ev_call (ea_cons (ev_wsize W.tx v0 hw) (ea_cons (ev_var rfl) ea_nil)) (spP_v fun H1 e => ⟨_, v, o, rfl, hv.up e, rfl⟩)))) (fun hb H1 e1 => s_ret ev_c fun H2 e2 => ?_) (fun hb H1 e1 => ?_)
    · have ez : tkB rows o = false := by
        unfold tkB
        rw [show tgN (rows.length : Int) o = false by simpa using hb]
        rfl
      rw [ez] at k
      exact k H2 (e1.trans e2)
    · have hb' : tgN (rows.length : Int) o = true := by simpa using hb
      cases o with
      | none => cases hb'
      | some d =>
        obtain ⟨ht, hn⟩ := Bool.and_eq_true_iff.mp (show (isTu d && decide (V.int ((itemsT d).length : Int) = V.int (rows.length : Int))) = true from hb')
        have hn' : (itemsT d).length = rows.length := by have := of_decide_eq_true hn; injection this; omega
        have hv' : Dq H v d := hv
        have hsm' := hsm d rfl
        have ek : tkB rows (some d) = ((List.range (itemsT d).length).map fun k => (((itemsT d)[k]?).map (chB rows k)).getD false).all id := by
          unfold tkB
          rw [hb']
          rfl
        rw [ek] at k
        clear hsm hb hb' hv ek
        cases hv' <;> first | (simp [isTu] at ht; done) | skip
        rename_i a xs ds h1 h2
        have hxl := h2.length
        have hn2 : ds.length = rows.length := hn'
        have n8 := hw.n8
        have q := ev_allEnT (K := K) (H := H1) (i := 2) (j := 3) (vs := [2, 3]) (σ := start nTaking [wv, .ref a]) (tl := tVar 1) (te := tCall (spChoice CW) [] E0 (tCons (tVar 0) (tCons (tVar 2) (tCons (tVar 3) tNil)))) (fun i => ((ds[i]?).map (chB rows i)).getD false) (ev_var rfl) (st_of (e1 _ _ h1)) (by omega) (fun x y => rfl)
          (fun i x H2 e2 hx => by
            obtain ⟨dx, e3, e4⟩ := h2.get hx
            have hil := (List.getElem?_eq_some_iff.mp e3).1
            rw [e3]
            exact ev_call (ea_cons (ev_var rfl) (ea_cons (ev_var rfl) (ea_cons (ev_var rfl) ea_nil))) (spP_v fun H3 e5 => ⟨wv, i, x, dx, rows, rfl, hw.up ((e1.trans e2).trans e5), by omega, e4.mono ((e1.trans e2).trans e5), hsm' dx (List.mem_of_getElem? e3), rfl⟩))
        rw [hxl] at q
        exact s_ret q fun H3 e3 => k H3 (e1.trans e3)
end
end Wk

set_option Elab.async false
set_option linter.all false
set_option maxRecDepth 100000
set_option maxHeartbeats 2000000
namespace Wk
open L2 PySem PySem.Spec PyProof.Rows Evl
theorem cut_two (xs : List V) (i : Nat) (h : i ≤ xs.length) : cutV xs (some (i : Int)) (some ((i : Int) + 2)) = (xs.drop i).take 2 := by
  unfold cutV
  rw [show ((i : Int) + 2) = ((i + 2 : Nat) : Int) by omega, HT.sIx_nat, HT.sIx_nat, Nat.min_eq_left h]
  by_cases z : i + 2 ≤ xs.length
  · rw [Nat.min_eq_left z]
    congr 1
    omega
  · rw [Nat.min_eq_right (by omega), List.take_of_length_le (by simp), List.take_of_length_le (by rw [List.length_drop]; omega)]
def keyW (w : Wy) : List L2.Key := w.map Sum.inl
theorem keyW_kV (w : Wy) : (keyW w).map kV = w.map V.int := by
  unfold keyW
  rw [List.map_map]
  rfl
theorem keyW_inj {v w : Wy} (h : keyW v = keyW w) : v = w := by
  unfold keyW at h
  induction v generalizing w with
  | nil =>
    cases w with
    | nil => rfl
    | cons b w => cases h
  | cons a v ih =>
    cases w with
    | nil => cases h
    | cons b w =>
      simp only [List.map_cons, List.cons.injEq] at h
      have h1 : a = b := by injection h.1
      rw [h1, ih h.2]
section
variable {K : PySem.W.Frag} {σ : L2.St} {H : Hp} {te td ty : TE}
theorem ey_old {b : Addr} {xs : List V} (h : Ev te σ H (.ref b)) (hb : H b = some (.tup xs)) : EvY te σ H (fun u H2 => ∃ b, u = .ref b ∧ H2 b = some (.tup xs)) := fun H1 e Q q =>
  h H1 e _ fun H2 e2 => q _ H2 e2 ⟨b, rfl, e2 _ _ (e _ _ hb)⟩
theorem ey_back {b : Addr} {x y : V} (h : Ev te σ H (.ref b)) (hb : H b = some (.tup [x, y])) : EvY (tBack K te) σ H (fun u H2 => ∃ b, u = .ref b ∧ H2 b = some (.tup [y, x])) := fun H1 e Q q =>
  h H1 e _ fun H2 e2 => ⟨b, x, y, rfl, st_of (e2 _ _ (e _ _ hb)), fun p hp => q _ _ (e2.trans (Ex.new hp)) ⟨p, rfl, upd_same⟩⟩
theorem ev_dInY {k : List L2.Key} {D : Addr} {kvs : List (List L2.Key × V)} (hy : EvY ty σ H (fun u H2 => ∃ b, u = .ref b ∧ H2 b = some (.tup (k.map kV)))) (hd : Ev td σ H (.ref D))
    (hD : H D = some (.dT kvs)) : Ev (tDIn ty td) σ H (.bl (valV kvs k).isSome) := fun H1 e Q q => hy H1 e _ fun u H2 e2 hu => by
  obtain ⟨b, rfl, hb⟩ := hu
  exact hd H2 (e.trans e2) _ fun H3 e3 => ⟨D, valV kvs k, rfl, DGet.t ((e.trans (e2.trans e3)) _ _ hD) (e3 _ _ hb), q H3 (e2.trans e3)⟩
end
end Wk

set_option Elab.async false
set_option linter.all false
set_option maxRecDepth 100000
set_option maxHeartbeats 2000000
namespace Wk
open L2 PySem PySem.Spec PyProof.Rows Evl
theorem pi_tupK {X : Cx} {K : PySem.W.Frag} {tg l : Expr} {tl : TE} (hK : X.K = K) (hl : PE X l tl) : PI X tg l (iTup K tl) := by
  subst hK
  exact pi_tup hl
theorem wds_off {H : Hp} {D : Addr} {l : List V} (hD : H D = some (.lst l)) : ∀ {ws : List Wy} {us : List V}, DqA H us (ws.map wd) → DqA (off D H) us (ws.map wd)
  | [], _, h => by
    cases h
    exact .nil
  | w :: ws, _, h => by
    cases h with
    | cons h1 h2 =>
      obtain ⟨a, rfl, ha⟩ := wd_ref h1
      refine .cons (wd_of ((off_at ?_).trans ha)) (wds_off hD h2)
      intro z
      rw [z, hD] at ha
      cases ha
/-- the list that grows holds these ways -/
def LW (D : Addr) (H1 : Hp) (ws : List Wy) (H : Hp) : Prop := H1 D = none ∧ Ex H1 H ∧ ∃ us, H D = some (.lst us) ∧ DqA (off D H) us (ws.map wd)
theorem LW.ext {D : Addr} {H1 H H' : Hp} {ws : List Wy} (h : LW D H1 ws H) (e : Ex H H') : LW D H1 ws H' := by
  obtain ⟨h1, h2, us, h3, h4⟩ := h
  exact ⟨h1, h2.trans e, us, e _ _ h3, h4.mono (off_ex e)⟩
theorem LW.put {D : Addr} {H1 H : Hp} {ws : List Wy} {w : Wy} {u : V} (h : LW D H1 ws H) (hl : ws.length ≤ 1000) (hu : Dq (off D H) u (wd w)) :
    ∃ acc, H D = some (.lst acc) ∧ acc.length < sizeLine ∧ LW D H1 (ws ++ [w]) (upd H D (.lst (acc ++ [u]))) := by
  obtain ⟨h1, h2, us, h3, h4⟩ := h
  have l := h4.length
  rw [List.length_map] at l
  refine ⟨us, h3, sz_lt (by omega), h1, Ex.mut h2 h1, us ++ [u], upd_same, ?_⟩
  rw [off_upd, List.map_append]
  exact h4.append (.cons hu .nil)
def lwB (rows : List (List Wy)) (d : PyData) : Bool := intsB d && (!decide ((itemsT d).length = 0) && isR (rows.length : Int) ((itemsT d).getD 0 .none)) && decide (rts d ∈ rows.getD (valI ((itemsT d).getD 0 .none)).toNat [])
section
variable {P : Program} {w : World} {K : PySem.W.Frag} {mg : Str → Option Value} {base : Heap} {f : Addr} {fd : FuncData} {CW CN : Addr}
/-! let_ways -/
theorem len_flat {rows : List (List Wy)} (h6 : ∀ row ∈ rows, row.length ≤ 6) : rows.flatten.length ≤ 6 * rows.length := by
  induction rows with
  | nil => simp
  | cons r rs ih =>
    have := h6 r List.mem_cons_self
    have := ih fun row hm => h6 row (List.mem_cons_of_mem _ hm)
    simp only [List.flatten_cons, List.length_append, List.length_cons]
    omega
def spLetWays (CW : Addr) : Sp := fun vs H Q _ => ∃ (v : V) (rows : List (List Wy)), vs = [v] ∧ WO CW H v rows ∧ ∀ H' l us, Ex H H' → H l = none → H' l = some (.lst us) → DqA H' us (rows.flatten.map wd) → Q (.ref l) H'
abbrev nLetWays : List Str := ["wishes", "router", "way"]
abbrev sLetWays : Stmt := top 64
theorem scLetWays : FnScope nLetWays ["wishes"] (defScope sLetWays) := ⟨rfl, rfl, rfl, by decide +kernel, rfl, by decide +kernel, by decide +kernel⟩
theorem ok_letWays (B : Bl mg) (W : WC P w K mg base CW CN) (F : FnP K "let_ways" sLetWays f fd) : FnOk P w K mg base CX0 6 f fd ["wishes"] (spLetWays CW) := by
  obtain ⟨fM, fdM, me, FM, bM⟩ := W.wy
  refine F.ok scLetWays (fun vs H Q E h => ?_) (fun cdv A outer s H vs Q E hr h => ?_)
  · obtain ⟨v, rows, rfl, _⟩ := h
    rfl
  · obtain ⟨v, rows, rfl, hw, k⟩ := h
    refine ⟨_, pss_one (ps_ret (pe_lc2 (own := [("router", 1), ("way", 2)]) (vs1 := [2]) (g := gName 1) (g1 := gName 2) (tt := tYes) (tt1 := tYes) rfl scLetWays.nd
      (pi_range1 (by rfl) B.range (pa_cons (pe_fld (pv 0) rfl) pa_nil)) (blkOk_by (N := nLetWays) (sc := defScope sLetWays) (by decide +kernel)) (by decide)
      (fun _ _ _ _ _ => pg_name (i := 1) scLetWays.nd rfl (Or.inl rfl)) (fun _ _ _ _ _ => pts_nil)
      (fun _ _ _ _ _ => pi_tupK (K := K) rfl (pe_meAt (pv 0) W.tx.cl me FM hr bM (fun σ => passAt takes0 σ) (pa_cons (pv 1) pa_nil)))
      (fun _ _ _ _ _ => pg_name (i := 2) scLetWays.nd rfl (Or.inl rfl)) (fun _ _ _ _ _ => pts_nil) (fun _ _ _ _ _ => pv 2))), ?_⟩
    have n8 := hw.n8
    have v0 : ∀ {H1 : Hp}, Ev (tVar 0) (start nLetWays [v]) H1 v := ev_var rfl
    refine ret_any ?_
    unfold tLc2 iRng1
    refine ea_cons (ev_wsize W.tx v0 hw) ea_nil H (Ex.refl H) _ fun H1 e1 => ⟨(rows.length : Int), rfl, by omega, by omega, fun D hD => ?_⟩
    have hw1 := hw.up e1
    have hlf := len_flat hw.r6
    refine ⟨fun i m Hx => m = rows.length - i ∧ i ≤ rows.length ∧ LW D H1 (rows.take i).flatten Hx, ⟨rows.length, by simp, Nat.zero_le _, hD, Ex.new hD, [], upd_same, .nil⟩, ?_⟩
    rintro i m H2 ⟨rfl, hi, lw⟩
    by_cases lt : i < rows.length
    · refine .inr ⟨by show i < (rows.length : Int).toNat; omega, fun Hx => LW D H1 (rows.take (i + 1)).flatten Hx, fun Hx q => ⟨rows.length - (i + 1), by omega, rfl, lt, q⟩, ?_⟩
      rintro x H3 ⟨rfl, rfl⟩
      refine ⟨rfl, ?_⟩
      have hrw : rows[i]? = some rows[i] := List.getElem?_eq_getElem lt
      have hr6 := hw.r6 _ (List.getElem_mem lt)
      have etk : (rows.take (i + 1)).flatten = (rows.take i).flatten ++ rows[i] := by
        rw [take_snoc hrw, List.flatten_append]
        simp
      have hl0 : ((rows.take i).flatten).length ≤ 48 := by
        have := len_flat (rows := rows.take i) fun row hm => hw.r6 row (List.mem_of_mem_take hm)
        have := List.length_take_le i rows
        omega
      rw [etk]
      generalize rows[i] = row at *
      generalize (rows.take i).flatten = pre at *
      show tMeAt CW "ways" (spWays CW CN) _ (tVar 0) (tCons (tVar 1) tNil) _ H3 _
      have e2 : Ex H1 H3 := lw.2.1
      refine t_ways (i := i) (ev_var rfl) (hw1.up e2) ?_ hrw fun u H4 e4 hu => ?_
      · rw [show (V.int (i : Int)) = V.int ((0 : Int) + (i : Int)) by rw [Int.zero_add]]
        exact ev_var rfl
      · have lw4 := lw.ext e4
        obtain ⟨_, _, us4, hd4, _⟩ := lw4
        unfold rd at hu
        cases hu with
        | tup h1 h2 =>
          rename_i ua xs
          have hxl := h2.length
          rw [List.length_map] at hxl
          have hne : ua ≠ D := by
            intro z
            rw [z, hd4] at h1
            cases h1
          have g1 : off D H4 ua = some (.tup xs) := (off_at hne).trans h1
          have g2 := wds_off hd4 h2
          refine ⟨ua, rfl, ⟨xs, st_of h1⟩, fun j k Hx => k = row.length - j ∧ j ≤ row.length ∧ LW D H1 (pre ++ row.take j) Hx ∧ Ex (off D H4) (off D Hx), ⟨row.length, by simp, Nat.zero_le _, by simpa using lw.ext e4, Ex.refl _⟩, ?_⟩
          rintro j m H5 ⟨rfl, hj, lw5, ex5⟩
          have s5 : SqT K H5 ua xs := st_of (off_in D H5 _ _ (ex5 _ _ g1))
          by_cases ltj : j < row.length
          · refine .inr ⟨walk_tup.goes j H5 (by omega) s5, fun Hx => LW D H1 (pre ++ row.take (j + 1)) Hx ∧ Ex (off D H4) (off D Hx), fun Hx q => ⟨row.length - (j + 1), by omega, rfl, ltj, q.1, q.2⟩, ?_⟩
            intro y H6 hy
            have hyy := walk_tup.yields j H5 y H6 (by omega) s5 hy
            obtain ⟨rfl, hy2⟩ := hyy
            refine ⟨rfl, ?_⟩
            show ∃ z, _ ∧ _
            refine ⟨y, rfl, ?_⟩
            obtain ⟨w, hw1, hw2⟩ := DqA.wds_inv g2 hy2
            have etj : row.take (j + 1) = row.take j ++ [w] := take_snoc hw1
            obtain ⟨acc, a1, a2, a3⟩ := lw5.put (w := w) (u := y) (by rw [List.length_append, List.length_take]; omega) (hw2.mono ex5)
            refine ⟨acc, a1, a2, ?_, ?_⟩
            · rw [etj, ← List.append_assoc]
              exact a3
            · rw [off_upd]
              exact ex5
          · have ej : j = row.length := by omega
            subst ej
            refine .inl ⟨?_, ?_⟩
            · have := (walk_tup (K := K) (a := ua) (xs := xs)).stops H5 s5
              rw [hxl] at this
              exact this
            · rw [List.take_length] at lw5
              exact lw5
    · have ei : i = rows.length := by omega
      subst ei
      obtain ⟨l1, l2, us, l3, l4⟩ := lw
      rw [List.take_length] at l4
      refine .inl ⟨by show (rows.length : Int).toNat ≤ rows.length; omega, ?_⟩
      exact k H2 D us (e1.trans l2) (fresh_back e1 hD) l3 (l4.mono (off_in D H2))
end
end Wk

set_option Elab.async false
set_option linter.all false
set_option maxRecDepth 100000
set_option maxHeartbeats 2000000
namespace Wk
open L2 PySem PySem.Spec PyProof.Rows Evl
theorem asc_eq : ∀ {l m : List Nat}, l.Pairwise (· < ·) → m.Pairwise (· < ·) → (∀ x, x ∈ l ↔ x ∈ m) → l = m
  | [], [], _, _, _ => rfl
  | [], b :: m, _, _, h => absurd ((h b).mpr List.mem_cons_self) (by simp)
  | a :: l, [], _, _, h => absurd ((h a).mp List.mem_cons_self) (by simp)
  | a :: l, b :: m, h1, h2, h => by
    obtain ⟨ha, hl⟩ := List.pairwise_cons.mp h1
    obtain ⟨hb, hm⟩ := List.pairwise_cons.mp h2
    have e : a = b := by
      rcases List.mem_cons.mp ((h a).mp List.mem_cons_self) with z | z
      · exact z
      · rcases List.mem_cons.mp ((h b).mpr List.mem_cons_self) with y | y
        · exact y.symm
        · have := ha b y
          have := hb a z
          omega
    subst e
    rw [asc_eq hl hm fun x => ?_]
    constructor
    · intro hx
      rcases List.mem_cons.mp ((h x).mp (List.mem_cons_of_mem _ hx)) with z | z
      · have := ha x hx
        omega
      · exact z
    · intro hx
      rcases List.mem_cons.mp ((h x).mpr (List.mem_cons_of_mem _ hx)) with z | z
      · have := hb x hx
        omega
      · exact z
def prW (w : Wy) : Wy := [w.getD 1 0, w.getD 0 0]
def lnB (w : Wy) : Bool := !decide (w.getD 1 0 = 0)
def pairsW (rows : List (List Wy)) : List Wy := (rows.flatten.filter lnB).map prW
def cdW (c : Nat) : Wy := [((c / 8 : Nat) : Int), ((c % 8 : Nat) : Int)]
def linesW (rows : List (List Wy)) : List Wy := ((List.range 64).filter fun c => decide (cdW c ∈ pairsW rows)).map cdW
theorem cd_pair {u v : Nat} (hv : v < 8) : cdW (u * 8 + v) = [(u : Int), (v : Int)] := by
  unfold cdW
  rw [show (u * 8 + v) / 8 = u by omega, show (u * 8 + v) % 8 = v by omega]
def enW (w : Wy) : Nat := (w.getD 0 0).toNat * 8 + (w.getD 1 0).toNat
theorem lines_unique {rows : List (List Wy)} {M : List Wy} (hb : ∀ p ∈ pairsW rows, ∃ u v : Nat, u < 8 ∧ v < 8 ∧ p = [(u : Int), (v : Int)]) (hm : ∀ p, p ∈ M ↔ p ∈ pairsW rows) (nd : M.Nodup)
    (pw : M.Pairwise fun q r => TS.code 64 q ≤ TS.code 64 r) : M = linesW rows := by
  have hM : ∀ p ∈ M, ∃ u v : Nat, u < 8 ∧ v < 8 ∧ p = [(u : Int), (v : Int)] := fun p hp => hb p ((hm p).mp hp)
  have e1 : (M.map enW).map cdW = M := by
    rw [List.map_map]
    refine (List.map_congr_left fun p hp => ?_).trans (List.map_id M)
    obtain ⟨u, v, hu, hv, rfl⟩ := hM p hp
    show cdW ((u : Int).toNat * 8 + (v : Int).toNat) = _
    rw [Int.toNat_natCast, Int.toNat_natCast, cd_pair hv]
    rfl
  have e2 : (M.map enW).Pairwise (· < ·) := by
    rw [List.pairwise_map]
    refine List.Pairwise.imp_of_mem (R := fun q r => TS.code 64 q ≤ TS.code 64 r ∧ q ≠ r) ?_ (pw.and nd)
    intro q r hq hr ⟨h, hne⟩
    obtain ⟨u, v, hu, hv, rfl⟩ := hM q hq
    obtain ⟨x, y, hx, hy, rfl⟩ := hM r hr
    have z := pair_lt h hne (by omega) (by omega) (by omega) (by omega)
    show (u : Int).toNat * 8 + (v : Int).toNat < (x : Int).toNat * 8 + (y : Int).toNat
    rw [Int.toNat_natCast, Int.toNat_natCast, Int.toNat_natCast, Int.toNat_natCast]
    omega
  have e3 : ((List.range 64).filter fun c => decide (cdW c ∈ pairsW rows)).Pairwise (· < ·) := List.Pairwise.filter _ List.pairwise_lt_range
  have e4 : M.map enW = (List.range 64).filter fun c => decide (cdW c ∈ pairsW rows) := by
    refine asc_eq e2 e3 fun c => ?_
    rw [List.mem_map, List.mem_filter, List.mem_range, decide_eq_true_eq]
    constructor
    · rintro ⟨p, hp, rfl⟩
      have hp2 := (hm p).mp hp
      obtain ⟨u, v, hu, hv, rfl⟩ := hM p hp
      have ee : enW [(u : Int), (v : Int)] = u * 8 + v := by
        show (u : Int).toNat * 8 + (v : Int).toNat = _
        rw [Int.toNat_natCast, Int.toNat_natCast]
      rw [ee]
      exact ⟨by omega, by rw [cd_pair hv]; exact hp2⟩
    · rintro ⟨hc, hp⟩
      refine ⟨cdW c, (hm _).mpr hp, ?_⟩
      show (((c / 8 : Nat) : Int)).toNat * 8 + (((c % 8 : Nat) : Int)).toNat = c
      rw [Int.toNat_natCast, Int.toNat_natCast]
      omega
  rw [← e1, e4]
  rfl
theorem pairs_bd {rows : List (List Wy)} (hG : GW rows) (h8 : rows.length ≤ 8) : ∀ p ∈ pairsW rows, ∃ u v : Nat, u < 8 ∧ v < 8 ∧ p = [(u : Int), (v : Int)] := by
  intro p hp
  obtain ⟨w, hw, rfl⟩ := List.mem_map.mp hp
  obtain ⟨hw, _⟩ := List.mem_filter.mp hw
  obtain ⟨row, hr, hwr⟩ := List.mem_flatten.mp hw
  obtain ⟨i, hi, rfl⟩ := List.getElem_of_mem hr
  have ok := hG.ok i _ (List.getElem?_eq_getElem hi) w hwr
  have l2 := ok.l2
  have g : ∀ k, k < 2 → ∃ n : Nat, n < 8 ∧ w.getD k 0 = (n : Int) := by
    intro k hk
    have hkl : k < w.length := by omega
    have e : w.getD k 0 = w[k] := by
      rw [List.getD_eq_getElem?_getD, List.getElem?_eq_getElem hkl]
      rfl
    have b := ok.rg _ (List.getElem_mem hkl)
    refine ⟨(w[k]).toNat, by omega, ?_⟩
    rw [e]
    omega
  obtain ⟨u, hu, eu⟩ := g 1 (by omega)
  obtain ⟨v, hv, ev⟩ := g 0 (by omega)
  exact ⟨u, v, hu, hv, by unfold prW; rw [eu, ev]⟩
end Wk

set_option Elab.async false
set_option linter.all false
set_option maxRecDepth 100000
set_option maxHeartbeats 2000000
namespace Wk
open L2 PySem PySem.Spec PyProof.Rows Evl
/-- what has grown as pairs of an address and whole numbers -/
theorem grown_ks {z : Nat → Wy} {H : Hp} : ∀ {js : List Nat} {us : List V}, Grown (TupY fun i => (z i).map V.int) H js us → ∃ ks : List (Addr × List Int), us = (ks.map fun p => V.ref p.1) ∧ ks.map (·.2) = js.map z ∧
    ∀ p ∈ ks, H p.1 = some (.tup (p.2.map V.int))
  | [], us, h => ⟨[], h, rfl, fun p hp => by cases hp⟩
  | j :: js, us, ⟨u, r, h1, ⟨b, h2, h3⟩, h4⟩ => by
    obtain ⟨ks, k1, k2, k3⟩ := grown_ks h4
    subst h1 h2
    refine ⟨(b, z j) :: ks, by rw [k1]; rfl, by rw [List.map_cons, k2]; rfl, ?_⟩
    intro p hp
    rcases List.mem_cons.mp hp with e | e
    · subst e
      exact h3
    · exact k3 p e
theorem ks_wds {H : Hp} : ∀ {ks : List (Addr × List Int)}, (∀ p ∈ ks, H p.1 = some (.tup (p.2.map V.int))) → DqA H (ks.map fun p => V.ref p.1) ((ks.map (·.2)).map wd)
  | [], _ => .nil
  | p :: ks, h => .cons (wd_of (h p List.mem_cons_self)) (ks_wds fun q hq => h q (List.mem_cons_of_mem _ hq))
theorem upTo_pairs {l : List Wy} (p : Wy) : p ∈ (upTo (fun i => lnB (l.getD i [])) l.length).map (fun i => prW (l.getD i [])) ↔ p ∈ (l.filter lnB).map prW := by
  unfold upTo
  have gd : ∀ i (h : i < l.length), l.getD i [] = l[i] := fun i h => by
    rw [List.getD_eq_getElem?_getD, List.getElem?_eq_getElem h]
    rfl
  constructor
  · intro h
    obtain ⟨i, hi, rfl⟩ := List.mem_map.mp h
    obtain ⟨h1, h2⟩ := List.mem_filter.mp hi
    have h3 := List.mem_range.mp h1
    rw [gd i h3] at h2 ⊢
    exact List.mem_map.mpr ⟨_, List.mem_filter.mpr ⟨List.getElem_mem h3, h2⟩, rfl⟩
  · intro h
    obtain ⟨w, hw, rfl⟩ := List.mem_map.mp h
    obtain ⟨h1, h2⟩ := List.mem_filter.mp hw
    obtain ⟨i, hi, rfl⟩ := List.getElem_of_mem h1
    refine List.mem_map.mpr ⟨i, List.mem_filter.mpr ⟨List.mem_range.mpr hi, ?_⟩, ?_⟩
    · rw [gd i hi]
      exact h2
    · rw [gd i hi]
section
variable {P : Program} {w : World} {K : PySem.W.Frag} {mg : Str → Option Value} {base : Heap} {f : Addr} {fd : FuncData} {CW CN : Addr}
/-! Wishes.lines -/
def spLines (CW : Addr) : Sp := fun vs H Q _ => ∃ (v : V) (rows : List (List Wy)), vs = [v] ∧ WO CW H v rows ∧ ∀ H' l us, Ex H H' → H l = none → H' l = some (.lst us) → DqA H' us ((linesW rows).map wd) → Q (.ref l) H'
abbrev nLines : List Str := ["self", "way"]
abbrev sLines : Stmt := inClass (top 60) 3
theorem scLines : FnScope nLines ["self"] (defScope sLines) := ⟨rfl, rfl, rfl, by decide +kernel, rfl, by decide +kernel, by decide +kernel⟩
theorem ok_lines (B : Bl mg) (hs : mg "sorted" = none) (C : Cal P w K mg base "let_ways" ["wishes"] 6 (spLetWays CW)) (F : FnM K "lines" "Wishes.lines" sLines f fd) : FnOk P w K mg base CX0 7 f fd ["self"] (spLines CW) := by
  refine F.ok scLines (fun vs H Q E h => ?_) (fun cdv A outer s H vs Q E hr h => ?_)
  · obtain ⟨v, rows, rfl, _⟩ := h
    rfl
  · obtain ⟨v, rows, rfl, hw, k⟩ := h
    have hu : (A.deeper (envOfC "Wishes.lines" (defScope sLines) s.heap.objs.size f cdv)).units + 64 < cLine := by have := hr.un; omega
    refine ⟨_, pss_one (ps_ret (pe_callB (cr_sortedT rfl) (by rfl) hs boot_sorted (pa_cons (pe_callTy (cr_setOfT rfl hu) (by rfl) B.set PyProof.Rows.boot_set (pa_cons
      (pe_lc (own := [("way", 1)]) (g := gName 1) (tt := tTest (tOp rNe (tOp (rIxT K) (tVar 1) (tC (.int 1))) (tC (.int 0)))) (te := tTup (tCons (tOp (rIxT K) (tVar 1) (tC (.int 1))) (tCons (tOp (rIxT K) (tVar 1) (tC (.int 0))) tNil))) rfl scLines.nd
        (pi_list (pe_cal C hr (by rfl) (pa_cons (pv 0) pa_nil))) (blkOk_by (N := nLines) (sc := defScope sLines) (by decide +kernel)) (fun _ _ _ _ _ => pg_name (i := 1) scLines.nd rfl (Or.inl rfl))
        (fun _ _ _ _ _ => pts_one (pt_cmpR op_ne (pe_ix ix_tup (pv 1) pe_int (fun _ _ => rfl)) pe_int (nomark _)))
        (fun _ _ _ _ _ => pe_tup (pa_cons (pe_ix ix_tup (pv 1) pe_int (fun _ _ => rfl)) (pa_cons (pe_ix ix_tup (pv 1) pe_int (fun _ _ => rfl)) pa_nil)))) pa_nil)) pa_nil))), ?_⟩
    have hlf := len_flat hw.r6
    have n8 := hw.n8
    have hpb := pairs_bd hw.g hw.n8
    refine ret_cb (cb1 ?_)
    refine ⟨v, rfl, v, rows, rfl, hw, fun H1 l us e1 hl0 hl hus => ?_⟩
    have hul := hus.length
    rw [List.length_map] at hul
    have two : ∀ {i : Nat} {x : V}, us[i]? = some x → ∃ (a : Addr) (w : Wy), x = .ref a ∧ rows.flatten.getD i [] = w ∧ H1 a = some (.tup (w.map V.int)) ∧ atI (w.map V.int) 1 = some (.int (w.getD 1 0)) ∧ atI (w.map V.int) 0 = some (.int (w.getD 0 0)) := by
      intro i x hx
      obtain ⟨w, h1, h2⟩ := DqA.wds_inv hus hx
      obtain ⟨a, rfl, ha⟩ := wd_ref h2
      obtain ⟨row, hr, hwr⟩ := List.mem_flatten.mp (List.mem_of_getElem? h1)
      obtain ⟨j, hj, rfl⟩ := List.getElem_of_mem hr
      have ok := hw.g.ok j _ (List.getElem?_eq_getElem hj) w hwr
      have l2 := ok.l2
      refine ⟨a, w, rfl, by rw [List.getD_eq_getElem?_getD, h1]; rfl, ha, ?_, ?_⟩
      · refine atI_nat (j := 1) ?_
        rw [List.getElem?_map, List.getD_eq_getElem?_getD, List.getElem?_eq_getElem (by omega)]
        rfl
      · refine atI_nat (j := 0) ?_
        rw [List.getElem?_map, List.getD_eq_getElem?_getD, List.getElem?_eq_getElem (by omega)]
        rfl
    refine ⟨l, rfl, ⟨us, sq_of hl⟩, fun D hD => ?_⟩
    refine grow_lc (walk_list (K := K) (a := l) (xs := us)) (Yx := fun i x => us[i]? = some x) (tupY_good fun i => (prW (rows.flatten.getD i [])).map V.int) (fun i => lnB (rows.flatten.getD i [])) hD (by omega)
      (fun H' e => sq_of (e _ _ hl)) (fun x => rfl) (fun i x H' e hi hx => ?_) (fun i x H' e hi hx _ => ?_) (fun us2 H2 e2 hd g => ?_)
    · obtain ⟨a, w, rfl, ew, ha, at1, _⟩ := two hx
      rw [ew]
      have i1 : Ev (tOp (rIxT K) (tVar 1) (tC (.int 1))) ((wipe (start nLines [v]) [1]).set 1 (some (.ref a))) H' (.int (w.getD 1 0)) := ev_op (ev_var rfl) ev_c (rv_ixT (st_of (e _ _ ha)) at1)
      refine et_is (et_test (ev_op i1 ev_c (rv_ne rfl))) ?_
      unfold lnB
      congr 1
      exact decide_eq_decide.mpr ⟨fun z => by injection z, fun z => by rw [z]⟩
    · obtain ⟨a, w, rfl, ew, ha, at1, at0⟩ := two hx
      have i1 : Ev (tOp (rIxT K) (tVar 1) (tC (.int 1))) ((wipe (start nLines [v]) [1]).set 1 (some (.ref a))) H' (.int (w.getD 1 0)) := ev_op (ev_var rfl) ev_c (rv_ixT (st_of (e _ _ ha)) at1)
      have i0 : Ev (tOp (rIxT K) (tVar 1) (tC (.int 0))) ((wipe (start nLines [v]) [1]).set 1 (some (.ref a))) H' (.int (w.getD 0 0)) := ev_op (ev_var rfl) ev_c (rv_ixT (st_of (e _ _ ha)) at0)
      intro H3 e3 Q3 q
      refine (ea_cons i1 (ea_cons i0 ea_nil)) H3 e3 _ fun H4 e4 => ⟨by show 2 ≤ sizeLine; decide, fun p hp => q _ _ (e4.trans (Ex.new hp)) ⟨p, rfl, ?_⟩⟩
      show upd H4 p _ p = some (.tup ((prW (rows.flatten.getD i [])).map V.int))
      rw [ew]
      exact upd_same
    · obtain ⟨ks, k1, k2, k3⟩ := grown_ks g
      subst k1
      have hkl : ks.length < 64 := by
        have z := congrArg List.length k2
        rw [List.length_map, List.length_map] at z
        have := upTo_len (fun i => lnB (rows.flatten.getD i [])) us.length
        omega
      have hmem : ∀ p, p ∈ ks.map (·.2) ↔ p ∈ pairsW rows := by
        intro p
        rw [k2, hul]
        exact upTo_pairs p
      refine ⟨D, ks, rfl, sq_of hd, fun p hp => st_of (k3 p hp), hkl, fun a L ha h1 h2 => ?_⟩
      have ea := Ex.new (o := SetTO P w a L) ha
      refine ⟨a, L, 2, 64, rfl, upd_same, fun p hp => st_of (ea _ _ (k3 p (h1 p hp))), by decide, fun p hp => ?_, fun L' p pm nd l64 pw hp => ?_⟩
      · obtain ⟨u, v', hu', hv', ep⟩ := hpb p.2 ((hmem _).mp (List.mem_map.mpr ⟨p, h1 p hp, rfl⟩))
        rw [ep]
        refine ⟨rfl, fun m hm => ?_⟩
        rcases List.mem_cons.mp hm with z | z
        · omega
        · rcases List.mem_cons.mp z with z | z
          · omega
          · cases z
      · have eM : L'.map (·.2) = linesW rows := by
          refine lines_unique hpb (fun q => ?_) nd (List.pairwise_map.mpr pw)
          rw [← hmem]
          constructor
          · intro hq
            obtain ⟨r, hr', rfl⟩ := List.mem_map.mp hq
            exact List.mem_map.mpr ⟨r, h1 r (pm.mem_iff.mp hr'), rfl⟩
          · intro hq
            obtain ⟨r, hr', rfl⟩ := List.mem_map.mp hq
            obtain ⟨r2, hr2, e⟩ := List.mem_map.mp (h2 r hr')
            exact List.mem_map.mpr ⟨r2, pm.mem_iff.mpr hr2, e⟩
        have ep := Ex.new (o := .lst (L'.map fun q => V.ref q.1)) hp
        refine k _ p _ ((e1.trans e2).trans (ea.trans ep)) (fresh_back ((e1.trans e2).trans ea) hp) upd_same ?_
        rw [← eM]
        exact ks_wds fun q hq => ep _ _ (ea _ _ (k3 q (h1 q (pm.mem_iff.mp hq))))
end
end Wk

set_option Elab.async false
set_option linter.all false
set_option maxRecDepth 100000
set_option maxHeartbeats 2000000
namespace Wk
open L2 PySem PySem.Spec PyProof.Rows Evl
def keepW (rows : List (List Wy)) (ws : List Wy) : List (List Wy) := rows.map fun row => row.filter fun w => !decide (w ∈ ws)
theorem khas_in {kvs : List (List L2.Key × V)} {ws : List Wy} (h : KHas (fun i => keyW (ws.getD i [])) ws.length kvs) (w : Wy) : (valV kvs (keyW w)).isSome = decide (w ∈ ws) := by
  have gd : ∀ i (h : i < ws.length), ws.getD i [] = ws[i] := fun i h => by
    rw [List.getD_eq_getElem?_getD, List.getElem?_eq_getElem h]
    rfl
  rcases h (keyW w) with ⟨z, j, hj, e⟩ | ⟨z, n⟩
  · rw [z]
    have e2 := keyW_inj e
    rw [gd j hj] at e2
    exact (decide_eq_true (by rw [← e2]; exact List.getElem_mem hj)).symm
  · rw [z]
    refine (decide_eq_false ?_).symm
    intro hm
    obtain ⟨j, hj, e⟩ := List.getElem_of_mem hm
    exact n j hj (by show keyW (ws.getD j []) = _; rw [gd j hj, e])
/-- Wishes(lists), the lists good -/
theorem t_makeH {CW CB : Addr} {σ : L2.St} {H : Hp} {rows : List (List Wy)} {Q : VK} {W : L2.St → XK} {ta : TE} (ha : ∀ R : VK, (∀ v H1, Ex H H1 → Dq H1 v (pd rows) → R v H1) → ta σ H R) (hG : GW rows) (h2 : 2 ≤ rows.length) (h8 : rows.length ≤ 8)
    (h6 : ∀ row ∈ rows, row.length ≤ 6) (k : ∀ H' x, Ex H H' → WO CW H' (.ref x) rows → Q (.ref x) H') : tMkAt CW (spWI CW CB) W (tCons ta tNil) σ H Q := by
  refine ha _ fun v H1 e1 hv => fun x dx nx ndx nex => ?_
  have hdue := due_pd hG h2 h8 h6
  have hl : (itemsT (pd rows)).length = rows.length := by simp [pd, itemsT]
  refine ⟨H1, x, dx, v, pd rows, rfl, upd_same, fun b o hb => ?_, nx, hv, fun _ H2 e2 hx => ⟨rfl, ?_⟩, fun r hr => ?_⟩
  · rw [upd_ne (ne_of_none hb nx), upd_ne (ne_of_none hb ndx)]
    exact hb
  · rw [hl] at hx
    exact k H2 x (e1.trans e2) ⟨⟨x, dx, v, rfl, hx, hv.mono e2⟩, hG, h2, h8, h6⟩
  · rw [hdue] at hr
    cases hr
theorem q_asgW {te : TE} {tz : TS} {D : Ends} {σ : L2.St} {H : Hp} {i : Nat} (h : te σ H fun x H1 => tz D (σ.set i (some x)) H1) : tSeq (tAsg te (gName i)) tz D σ H := h
theorem ev_dNotInY {ty td : TE} {σ : L2.St} {H : Hp} {k : List L2.Key} {D : Addr} {kvs : List (List L2.Key × V)} (hy : EvY ty σ H (fun u H2 => ∃ b, u = .ref b ∧ H2 b = some (.tup (k.map kV)))) (hd : Ev td σ H (.ref D))
    (hD : H D = some (.dT kvs)) : Ev (tDNotIn ty td) σ H (.bl (!(valV kvs k).isSome)) := fun H1 e Q q => hy H1 e _ fun u H2 e2 hu => by
  obtain ⟨b, rfl, hb⟩ := hu
  exact hd H2 (e.trans e2) _ fun H3 e3 => ⟨D, valV kvs k, rfl, DGet.t ((e.trans (e2.trans e3)) _ _ hD) (e3 _ _ hb), q H3 (e2.trans e3)⟩
theorem range_rows {α : Type} (d : α) (l : List α) : (List.range l.length).map (fun i => l.getD i d) = l := by
  apply List.ext_getElem (by simp)
  intro i h1 h2
  rw [List.getElem_map, List.getElem_range, List.getD_eq_getElem?_getD, List.getElem?_eq_getElem h2]
  rfl
def RdY (rows : Nat → List Wy) : Nat → V → Hp → Prop := fun i u H => Dq H u (rd (rows i))
theorem rdY_good (rows : Nat → List Wy) : GoodY (RdY rows) := by
  refine ⟨fun i u H H' e h => Dq.mono e h, fun i u H D l hD h => ?_⟩
  unfold RdY rd at h ⊢
  cases h with
  | tup h1 h2 =>
    refine .tup ((off_at ?_).trans h1) (wds_off hD h2)
    intro z
    rw [z, hD] at h1
    cases h1
theorem grown_rds {rs : Nat → List Wy} {H : Hp} : ∀ {js : List Nat} {us : List V}, Grown (RdY rs) H js us → DqA H us ((js.map rs).map rd)
  | [], us, h => by
    rw [show us = [] from h]
    exact .nil
  | j :: js, us, ⟨u, r, h1, h2, h4⟩ => by
    subst h1
    exact .cons h2 (grown_rds h4)
theorem upTo_filter (g : Wy → Bool) (l : List Wy) : (upTo (fun i => g (l.getD i [])) l.length).map (fun i => l.getD i []) = l.filter g := by
  suffices h : ∀ n, n ≤ l.length → (upTo (fun i => g (l.getD i [])) n).map (fun i => l.getD i []) = (l.take n).filter g by
    have z := h l.length (Nat.le_refl _)
    rw [List.take_length] at z
    exact z
  intro n
  induction n with
  | zero => intro _; rfl
  | succ n ih =>
    intro hn
    have hl : l[n]? = some l[n] := List.getElem?_eq_getElem hn
    have gd : l.getD n [] = l[n] := by
      rw [List.getD_eq_getElem?_getD, hl]
      rfl
    have ih := ih (by omega)
    rw [take_snoc hl, List.filter_append]
    cases hg : g (l.getD n []) with
    | true =>
      rw [upTo_yes (f := fun i => g (l.getD i [])) hg, List.map_append, ih]
      rw [gd] at hg
      simp [hg, hl]
    | false =>
      rw [upTo_no (f := fun i => g (l.getD i [])) hg, ih]
      rw [gd] at hg
      simp [hg]
section
variable {P : Program} {w : World} {K : PySem.W.Frag} {mg : Str → Option Value} {base : Heap} {f : Addr} {fd : FuncData} {CW CN CB : Addr}
structure MkW (P : Program) (w : World) (K : PySem.W.Frag) (mg : Str → Option Value) (base : Heap) (CW CB : Addr) : Prop where
  tx : WTx K mg CW
  ex : ∃ (fI : Addr) (fd : FuncData), Mk K CW fI ∧ FnOk P w K mg base (L2.CX P w) 8 fI fd ["self", "lists"] (spWI CW CB) ∧ Binds K fd ["self", "lists"] []
end
end Wk


set_option Elab.async false
set_option linter.all false
set_option maxRecDepth 100000
set_option maxHeartbeats 2000000
namespace Wk
open L2 PySem PySem.Spec PyProof.Rows Evl
def isLi : PyData → Bool
  | .list _ => true
  | _ => false
theorem kit_lst (d : PyData) : kitB (tyN d) "list" = some (isLi d) := by
  cases d with
  | none => exact show kitB "NoneType" "list" = some false by decide +kernel
  | bool b => exact show kitB "bool" "list" = some false by decide +kernel
  | int i => exact show kitB "int" "list" = some false by decide +kernel
  | str z => exact show kitB "str" "list" = some false by decide +kernel
  | list ds => exact show kitB "list" "list" = some true by decide +kernel
  | tuple ds => exact show kitB "tuple" "list" = some false by decide +kernel
  | dict ds => exact show kitB "dict" "list" = some false by decide +kernel
def iSq (K : PySem.W.Frag) (tl : TE) : TI := fun σ H R => iList K tl σ H R ∨ iTup K tl σ H R
theorem pi_sqK {X : Cx} {K : PySem.W.Frag} {tg l : Expr} {tl : TE} (hK : X.K = K) (hl : PE X l tl) : PI X tg l (iSq K tl) := by
  subst hK
  exact ⟨fun pins s σ H R I h => h.elim (fun z => (pi_list hl).run pins s σ H R I z) (fun z => (pi_tup hl).run pins s σ H R I z)⟩
theorem pe_or2 {X : Cx} {e : Expr} {t u : TE} (h1 : PE X e t) (h2 : PE X e u) : PE X e (fun σ H Q => t σ H Q ∨ u σ H Q) :=
  ⟨fun pins s σ H Q I h => h.elim (fun z => h1.run pins s σ H Q I z) (fun z => h2.run pins s σ H Q I z)⟩
section
variable {X : Cx}
/-- len(set(xs)), xs a list of tuples of ints -/
def tLenSLU (K : PySem.W.Frag) (ta : TE) : TE := fun σ H Q => ta σ H fun x H1 => ∃ (l : Addr) (ks : List (Addr × List Int)), x = V.ref l ∧ SqL K H1 l (ks.map fun p => V.ref p.1) ∧ (∀ p ∈ ks, SqT K H1 p.1 (p.2.map V.int)) ∧ ks.length < 64 ∧
  ∀ n : Nat, (n = ks.length ↔ (ks.map (·.2)).Nodup) → Q (.int n) H1
theorem pe_lenSLU {a : Expr} {ta : TE} {p p2 q pos : Pos} (hc : X.calm = true) (hu : X.A.units + 64 < cLine) (hg : Gl X "len") (hm : X.mg "len" = none) (hg2 : Gl X "set") (hm2 : X.mg "set" = none) (ha : PE X a ta)
    (na : starEach [a] X.env = (false, eval a X.env) :: starEach [] X.env := by rfl) : PE X (.Call (.Name "len" p) [.Call (.Name "set" p2) [a] [] q] [] pos) (tLenSLU X.K ta) := by
  refine ⟨fun pins s σ H Q I h => Call_ (ld_blt I hg hm PySem.boot_len (PyProof.Rows.callWith_builtin1 (PyProof.Rows.args_cons (Call_ (ld_blt I hg2 hm2 PyProof.Rows.boot_set ?_)) rfl) rfl rfl))⟩
  refine PyProof.Rows.callWith_type1 (PyProof.Rows.args_cons (thn (ha.run pins s σ H _ I h) fun v s1 hh => PyProof.Rows.args_nil ?_) na) na rfl
  obtain ⟨x, H1, I1, r1, l, ks, rfl, hq, hk, few, q1⟩ := hh
  cases r1
  obtain ⟨its, r, pl, hz⟩ := I1.list hq
  refine call_set_tups (P := X.prog) (w := X.w) ks (I1.ok.hd hc) pl.isList (by simpa using refs_of_vals r) (fun p hp => I1.isT (hk p hp)) few (by omega) fun h' tk L es ep t R g k => PyProof.Rows.args_nil ?_
  have I2 : Inv X pins σ H1 { s1 with heap := h', toks := tk } := I1.kept fun b o e => k b o e
  have hes : es.size = L.length := R.size (s := { s1 with heap := h', toks := tk })
  have hf := R.fits (s := { s1 with heap := h', toks := tk })
  obtain ⟨o, ho, hex, hd⟩ := R.ob
  refine call_len_set (s := { s1 with heap := h', toks := tk }) ho hex hd hf (by have := R.few; omega) ⟨.int es.size, H1, I2.tok _, ⟨_, rfl⟩, q1 es.size ?_⟩
  have e1 : (L.map (·.2)).length = es.size := by simp [hes]
  have e2 : (ks.map (·.2)).length = ks.length := by simp
  rw [← e1, ← e2]
  refine nd_iff R.nd fun k => ⟨fun z => ?_, fun z => ?_⟩
  · obtain ⟨p, hp, rfl⟩ := List.mem_map.mp z
    exact List.mem_map.mpr ⟨p, List.mem_of_mem_take (g.sub p hp), rfl⟩
  · obtain ⟨p, hp, rfl⟩ := List.mem_map.mp z
    exact g.all p (by rw [List.take_length]; exact hp)
end
section
variable {K : PySem.W.Frag} {σ : L2.St} {H : Hp} {ta tb tl te : TE}
def tLenSq (K : PySem.W.Frag) (ta : TE) : TE := fun σ H Q => tLenSLU K ta σ H Q ∨ tLenSUU K ta σ H Q
theorem ev_lenSq {l : Addr} {ks : List (Addr × List Int)} (ha : Ev ta σ H (.ref l)) (h : H l = some (.lst (ks.map fun p => V.ref p.1)) ∨ H l = some (.tup (ks.map fun p => V.ref p.1))) (hk : ∀ p ∈ ks, H p.1 = some (.tup (p.2.map V.int))) (hl : ks.length < 64)
    (hb : Ev tb σ H (.int (ks.length : Int))) : Ev (tOp rEq (tLenSq K ta) tb) σ H (.bl (decide (ks.map (·.2)).Nodup)) := by
  have fin : ∀ H2 (Q : VK), Ex H H2 → (∀ H3, Ex H2 H3 → Q (.bl (decide (ks.map (·.2)).Nodup)) H3) → ∀ m : Nat, (m = ks.length ↔ (ks.map (·.2)).Nodup) → tb σ H2 fun y H3 => rEq (.int (m : Int)) y H3 Q := by
    intro H2 Q e2 q m hm
    refine hb H2 e2 _ fun H3 e3 => ⟨rfl, ?_⟩
    have ed : decide (V.int (m : Int) = V.int (ks.length : Int)) = decide (ks.map (·.2)).Nodup := by
      rw [decide_eq_decide]
      constructor
      · intro z
        injection z with z
        exact hm.mp (by omega)
      · intro z
        rw [hm.mpr z]
    rw [ed]
    exact q H3 e3
  intro H1 e Q q
  rcases h with h | h
  · exact .inl (ha H1 e _ fun H2 e2 => ⟨l, ks, rfl, sq_of ((e.trans e2) _ _ h), fun p hp => st_of ((e.trans e2) _ _ (hk p hp)), hl, fin H2 Q (e.trans e2) fun H3 e3 => q H3 (e2.trans e3)⟩)
  · exact .inr (ha H1 e _ fun H2 e2 => ⟨l, ks, rfl, st_of ((e.trans e2) _ _ h), fun p hp => st_of ((e.trans e2) _ _ (hk p hp)), hl, fin H2 Q (e.trans e2) fun H3 e3 => q H3 (e2.trans e3)⟩)
/-- all([e for x in xs]), xs a list or a tuple -/
theorem ev_allSq {a : Addr} {xs : List V} {j : Nat} {vs : List Nat} (f : Nat → Bool) (h : Ev tl σ H (.ref a)) (hx : H a = some (.lst xs) ∨ H a = some (.tup xs)) (hz : xs.length ≤ 1000) (hw : ∀ x, wipe ((wipe σ vs).set j (some x)) vs = wipe σ vs)
    (he : ∀ (i : Nat) (x : V) H1, Ex H H1 → xs[i]? = some x → Ev te ((wipe σ vs).set j (some x)) H1 (.bl (f i))) :
    Ev (tCB (rAll K) (tCons (tLc (iSq K tl) (gName j) tYes te vs) tNil)) σ H (.bl (((List.range xs.length).map f).all id)) := by
  rcases hx with hx | hx
  · have q := ev_allL (K := K) (ta := tLc (iList K tl) (gName j) tYes te vs) (σ := σ) (H := H) (bs := (List.range xs.length).map f) (by
      have q := el_lcL (K := K) (te := te) (t := tYes) (fun _ => true) (fun k => .bl (f k)) h (sq_of hx) (by omega) hw (fun _ _ _ _ _ => et_yes) (fun i x H1 e hi _ => he i x H1 e hi)
      rw [given_all] at q
      rw [List.map_map]
      exact q)
    exact fun H1 e Q k => Or.inl (q H1 e Q k)
  · have q := ev_allT (K := K) (te := te) f h (st_of hx) (by omega) hw he
    exact fun H1 e Q k => Or.inr (q H1 e Q k)
end
end Wk

set_option Elab.async false
set_option linter.all false
set_option maxRecDepth 100000
set_option maxHeartbeats 2000000
namespace Wk
open L2 PySem PySem.Spec PyProof.Rows Evl
theorem perm_back {α β : Type} {f : α → β} : ∀ {ys xs : List β}, ys.Perm xs → ∀ {l : List α}, xs = l.map f → ∃ l' : List α, l'.Perm l ∧ ys = l'.map f := by
  intro ys xs h
  induction h with
  | nil =>
    intro l e
    have : l = [] := by
      cases l with
      | nil => rfl
      | cons a l => cases e
    subst this
    exact ⟨[], List.Perm.refl _, rfl⟩
  | cons x _ ih =>
    intro l e
    cases l with
    | nil => cases e
    | cons a l =>
      rw [List.map_cons] at e
      injection e with e1 e2
      obtain ⟨l', p, q⟩ := ih e2
      exact ⟨a :: l', p.cons a, by rw [List.map_cons, ← q, e1]⟩
  | swap x y l0 =>
    intro l e
    match l, e with
    | a :: b :: l, e =>
      rw [List.map_cons, List.map_cons] at e
      injection e with e1 e2
      injection e2 with e2 e3
      exact ⟨b :: a :: l, List.Perm.swap _ _ _, by rw [List.map_cons, List.map_cons, ← e1, ← e2, e3]⟩
  | trans _ _ ih1 ih2 =>
    intro l e
    obtain ⟨l2, p2, q2⟩ := ih2 e
    obtain ⟨l1, p1, q1⟩ := ih1 q2
    exact ⟨l1, p1.trans p2, q1⟩
def stF (acc : List Wy) (w : Wy) : List Wy := if lnB w && !decide (prW w ∈ acc) then acc ++ [prW w] else acc
def fnd (l : List Wy) : List Wy := l.foldl stF []
theorem fnd_snoc (l : List Wy) (w : Wy) : fnd (l ++ [w]) = stF (fnd l) w := by
  unfold fnd
  rw [List.foldl_append]
  rfl
theorem fnd_len : ∀ l : List Wy, (fnd l).length ≤ l.length := by
  suffices h : ∀ (l acc : List Wy), (l.foldl stF acc).length ≤ acc.length + l.length by
    intro l
    have := h l []
    simpa [fnd] using this
  intro l
  induction l with
  | nil => intro acc; simp
  | cons w l ih =>
    intro acc
    have h1 := ih (stF acc w)
    have h2 : (stF acc w).length ≤ acc.length + 1 := by
      unfold stF
      split
      · simp
      · omega
    rw [List.foldl_cons, List.length_cons]
    omega
theorem fnd_ok (l : List Wy) : (fnd l).Nodup ∧ ∀ p, p ∈ fnd l ↔ p ∈ (l.filter lnB).map prW := by
  suffices h : ∀ (l acc : List Wy), acc.Nodup → (l.foldl stF acc).Nodup ∧ ∀ p, p ∈ l.foldl stF acc ↔ p ∈ acc ∨ p ∈ (l.filter lnB).map prW by
    have z := h l [] List.nodup_nil
    exact ⟨z.1, fun p => by rw [show fnd l = l.foldl stF [] from rfl, z.2]; simp⟩
  intro l
  induction l with
  | nil => intro acc h; exact ⟨h, fun p => by simp⟩
  | cons w l ih =>
    intro acc h
    rw [List.foldl_cons]
    cases hl : lnB w with
    | false =>
      have e : stF acc w = acc := by unfold stF; rw [hl]; rfl
      rw [e, List.filter_cons_of_neg (by rw [hl]; decide)]
      exact ih acc h
    | true =>
      rw [List.filter_cons_of_pos hl, List.map_cons]
      by_cases hm : prW w ∈ acc
      · have e : stF acc w = acc := by
          unfold stF
          rw [hl, decide_eq_true hm]
          rfl
        rw [e]
        obtain ⟨a, b⟩ := ih acc h
        refine ⟨a, fun p => ?_⟩
        rw [b, List.mem_cons]
        constructor
        · rintro (z | z)
          · exact .inl z
          · exact .inr (.inr z)
        · rintro (z | z | z)
          · exact .inl z
          · rw [z]
            exact .inl hm
          · exact .inr z
      · have e : stF acc w = acc ++ [prW w] := by
          unfold stF
          rw [hl, decide_eq_false hm]
          rfl
        rw [e]
        obtain ⟨a, b⟩ := ih (acc ++ [prW w]) (by
          rw [List.nodup_append]
          refine ⟨h, by simp, ?_⟩
          intro x hx y hy z
          rw [List.mem_singleton] at hy
          rw [z, hy] at hx
          exact hm hx)
        refine ⟨a, fun p => ?_⟩
        rw [b, List.mem_append, List.mem_singleton, List.mem_cons, or_assoc]
theorem ln_len {n r : Nat} {w : Wy} (h : WyOk n r w) : decide ((w.length : Int) > 2) = lnB w := by
  have l2 := h.l2
  have lt := h.lt
  have nd := h.nd
  unfold lnB
  have h1 : w[1]? = some w[1] := List.getElem?_eq_getElem (by omega)
  have e1 : w.getD 1 0 = w[1] := by
    rw [List.getD_eq_getElem?_getD, h1]
    rfl
  rw [e1]
  rw [List.getLast?_eq_getElem?] at lt
  by_cases c : w.length = 2
  · rw [c] at lt
    rw [h1] at lt
    have z : w[1] = 0 := Option.some.inj lt
    rw [decide_eq_true z, decide_eq_false (by omega)]
    rfl
  · have hlt : w.length - 1 < w.length := by omega
    rw [List.getElem?_eq_getElem hlt] at lt
    have z : w[w.length - 1] = 0 := Option.some.inj lt
    have ne : ¬ w[1] = 0 := by
      intro y
      have := (List.pairwise_iff_getElem.mp nd) 1 (w.length - 1) (by omega) hlt (by omega)
      exact this (by rw [y, z])
    rw [decide_eq_false ne, decide_eq_true (by omega)]
    rfl
end Wk

set_option Elab.async false
set_option linter.all false
set_option maxRecDepth 100000
set_option maxHeartbeats 2000000
namespace Wk
open L2 PySem PySem.Spec PyProof.Rows Evl
theorem t_tupN {ta : TA} {σ : L2.St} {H : Hp} {Q : VK} (h : ta σ H fun vs H1 => vs.length ≤ sizeLine ∧ ∀ p, H1 p = none → Q (.ref p) (upd H1 p (.tup vs))) : tTup ta σ H Q := h
theorem tc1 {te : TE} {σ : L2.St} {H : Hp} {R : List V → Hp → Prop} (h : te σ H fun x H1 => R [x] H1) : tCons te tNil σ H R := h
theorem test_op {r : R2} {ta tb : TE} {σ : L2.St} {H : Hp} {Q : Bool → Hp → Prop} (h : ta σ H fun x H1 => tb σ H1 fun y H2 => r x y H2 fun z H3 => ∃ k, z = .bl k ∧ Q k H3) : tTest (tOp r ta tb) σ H Q := h
section
variable {P : Program} {w : World} {K : PySem.W.Frag} {mg : Str → Option Value} {base : Heap} {f : Addr} {fd : FuncData} {CW CN CB : Addr}
/-! _law_lines -/
def spLLines : Sp := fun vs H Q _ => ∃ (v : V) (rows : List (List Wy)), vs = [v] ∧ Dq H v (pd rows) ∧ GW rows ∧ rows.length ≤ 8 ∧ (∀ row ∈ rows, row.length ≤ 6) ∧ ∀ H' l us, Ex H H' → H l = none → H' l = some (.lst us) → DqA H' us ((linesW rows).map wd) → Q (.ref l) H'
abbrev nLLines : List Str := ["_law_lists_here", "_law_found", "_law_row", "_law_way"]
abbrev sLLines : Stmt := top 73
theorem scLLines : FnScope nLLines ["_law_lists_here"] (defScope sLLines) := ⟨rfl, rfl, rfl, by decide +kernel, rfl, by decide +kernel, by decide +kernel⟩
theorem ok_lLines (B : Bl mg) (hs : mg "sorted" = none) (F : FnP K "_law_lines" sLLines f fd) : FnOk P w K mg base CX0 1 f fd ["_law_lists_here"] spLLines := by
  refine F.ok scLLines (fun vs H Q E h => ?_) (fun cdv A outer s H vs Q E hr h => ?_)
  · obtain ⟨v, rows, rfl, _⟩ := h
    rfl
  · obtain ⟨v, rows, rfl, hv, hG, h8, h6, k⟩ := h
    have hu : (A.deeper (envOfC "_law_lines" (defScope sLLines) s.heap.objs.size f cdv)).units + 65 < cLine := by have := hr.un; omega
    refine ⟨_, pss_cons (ps_set (i := 1) scLLines.nd rfl (Or.inl rfl) (pe_lst pa_nil))
      (pss_cons (ps_for (passes_of rfl) rfl (pi_tup (pv 0)) (pg_name (i := 2) scLLines.nd rfl (Or.inl rfl))
        (pss_one (ps_for (passes_of rfl) rfl (pi_tup (pv 2)) (pg_name (i := 3) scLLines.nd rfl (Or.inl rfl))
          (pss_one (ps_if (PW.pt (pw_and (pt_cmpR op_gt (pe_callB call_len_seq (by rfl) B.len PySem.boot_len (pa_cons (pv 3) pa_nil)) pe_int (nomark _))
              (pw_and1 (pt_cmpR (op_notInD hu) (pe_tup (pa_cons (pe_ix ix_tup (pv 3) pe_int (fun _ _ => rfl)) (pa_cons (pe_ix ix_tup (pv 3) pe_int (fun _ _ => rfl)) pa_nil))) (pv 1) rfl))))
            (pss_one (ps_expr (pe_bm PySem.F.plainAttrs_list PySem.F.slot_list_append PySem.F.type_list_append mt_append (pv 1) (pa_cons (pe_tup (pa_cons (pe_ix ix_tup (pv 3) pe_int (fun _ _ => rfl)) (pa_cons (pe_ix ix_tup (pv 3) pe_int (fun _ _ => rfl)) pa_nil))) pa_nil)))) pss_nil)))))
      (pss_one (ps_ret (pe_callB (cr_sortT (d := 2) (B := 64) (by decide)) (by rfl) hs boot_sorted (pa_cons (pv 1) pa_nil))))), ?_⟩
    unfold pd at hv
    cases hv with
    | tup hla hlx =>
      rename_i la lxs
      have hll := hlx.length
      rw [List.length_map] at hll
      refine ⟨by show 0 ≤ sizeLine; decide, fun D hD => ?_⟩
      have eb := Ex.new (o := .lst ([] : List V)) hD
      refine g_name ?_
      refine ⟨.ref la, rfl, la, rfl, ⟨lxs, st_of (eb _ _ hla)⟩, for_tup (xs := lxs) (fun i σ' H' => ∃ (o p : Option V), σ' = [some (.ref la), some (.ref D), o, p] ∧ LW D H (fnd (rows.take i).flatten) H')
        ⟨none, none, rfl, hD, eb, [], upd_same, .nil⟩ (fun i σ' H' _ h => ?_) ?_ ?_⟩
      · obtain ⟨_, _, _, lw⟩ := h
        exact st_of (lw.2.1 _ _ hla)
      · rintro i x σ' H2 hx ⟨o, p, rfl, lw⟩
        obtain ⟨d, hd1, hd2⟩ := hlx.get hx
        have hil : i < rows.length := by
          have := (List.getElem?_eq_some_iff.mp hx).1
          omega
        have hrw : rows[i]? = some rows[i] := List.getElem?_eq_getElem hil
        have hr6 := h6 _ (List.getElem_mem hil)
        have hok := hG.ok i _ hrw
        rw [List.getElem?_map, hrw] at hd1
        have etk : (rows.take (i + 1)).flatten = (rows.take i).flatten ++ rows[i] := by
          rw [take_snoc hrw, List.flatten_append]
          simp
        have hl6 := len_flat (rows := rows.take i) fun row hm => h6 row (List.mem_of_mem_take hm)
        have htl := List.length_take_le i rows
        rw [etk]
        generalize rows[i] = row at *
        generalize (rows.take i).flatten = pre at *
        obtain rfl : rd row = d := Option.some.inj hd1
        unfold rd at hd2
        cases hd2 with
        | tup h1 h2 =>
          rename_i ua xs
          have hxl := h2.length
          rw [List.length_map] at hxl
          refine g_name ?_
          refine ⟨.ref ua, rfl, ua, rfl, ⟨xs, st_of (lw.2.1 _ _ h1)⟩, for_tup (xs := xs) (fun j σ' H' => ∃ (p : Option V), σ' = [some (.ref la), some (.ref D), some (.ref ua), p] ∧ LW D H (fnd (pre ++ row.take j)) H')
            ⟨p, rfl, by simpa using lw⟩ (fun j σ' H' _ h => ?_) ?_ ?_⟩
          · obtain ⟨_, _, lw⟩ := h
            exact st_of (lw.2.1 _ _ h1)
          · rintro j y σ' H3 hy ⟨p, rfl, lw3⟩
            obtain ⟨w, hw1, hw2⟩ := DqA.wds_inv h2 hy
            obtain ⟨b, rfl, hb⟩ := wd_ref hw2
            have wok := hok w (List.mem_of_getElem? hw1)
            have l2 := wok.l2
            have etj : fnd (pre ++ row.take (j + 1)) = stF (fnd (pre ++ row.take j)) w := by
              rw [take_snoc hw1, ← List.append_assoc, fnd_snoc]
            have hfl := fnd_len (pre ++ row.take j)
            rw [List.length_append, List.length_take] at hfl
            generalize fnd (pre ++ row.take j) = acc at *
            refine g_name ?_
            have e3 := lw3.2.1
            have at1 : atI (w.map V.int) 1 = some (.int (w.getD 1 0)) := atI_nat (j := 1) (by rw [List.getElem?_map, List.getD_eq_getElem?_getD, List.getElem?_eq_getElem (by omega)]; rfl)
            have at0 : atI (w.map V.int) 0 = some (.int (w.getD 0 0)) := atI_nat (j := 0) (by rw [List.getElem?_map, List.getD_eq_getElem?_getD, List.getElem?_eq_getElem (by omega)]; rfl)
            have i1 : ∀ {H4 : Hp}, Ex H3 H4 → Ev (tOp (rIxT K) (tVar 3) (tC (.int 1))) [some (.ref la), some (.ref D), some (.ref ua), some (.ref b)] H4 (.int (w.getD 1 0)) := fun e => ev_op (ev_var rfl) ev_c (rv_ixT (st_of ((e3.trans e) _ _ hb)) at1)
            have i0 : ∀ {H4 : Hp}, Ex H3 H4 → Ev (tOp (rIxT K) (tVar 3) (tC (.int 0))) [some (.ref la), some (.ref D), some (.ref ua), some (.ref b)] H4 (.int (w.getD 0 0)) := fun e => ev_op (ev_var rfl) ev_c (rv_ixT (st_of ((e3.trans e) _ _ hb)) at0)
            have c1 : EvT (tTest (tOp (rI0 fun a b => .bl (decide (a > b))) (tCB (rLenS K) (tCons (tVar 3) tNil)) (tC (.int 2)))) [some (.ref la), some (.ref D), some (.ref ua), some (.ref b)] H3 (lnB w) :=
              et_is (et_test (ev_op (ev_lenT (K := K) (ta := tVar 3) (ev_var rfl) (st_of (e3 _ _ hb))) ev_c rv_I0)) (by rw [List.length_map]; exact ln_len wok)
            have c2 : EvT (tTest (tOp (rNotInD K) (tTup (tCons (tOp (rIxT K) (tVar 3) (tC (.int 1))) (tCons (tOp (rIxT K) (tVar 3) (tC (.int 0))) tNil))) (tVar 1))) [some (.ref la), some (.ref D), some (.ref ua), some (.ref b)] H3 (!decide (prW w ∈ acc)) := by
              intro H4 e4 Q4 q4
              refine test_op (t_tupN ((ea_cons (i1 (Ex.refl _)) (ea_cons (i0 (Ex.refl _)) ea_nil)) H4 e4 _ fun H5 e5 => ⟨by show 2 ≤ sizeLine; decide, fun t ht => ?_⟩))
              have et := Ex.new (o := .tup [V.int (w.getD 1 0), V.int (w.getD 0 0)]) ht
              obtain ⟨_, _, us, hd, hus⟩ := lw3.ext ((e4.trans e5).trans et)
              refine ⟨.ref D, rfl, wd (prW w), acc.map wd, dp_of_wd (w := prW w) (st_of upd_same), .lst (sq_of hd) (DqA.dp (lay_wds acc) (hus.mono (off_in D _))), shaped_wd _, shaped_wds _, _, rfl, ?_⟩
              rw [any_wd]
              exact q4 _ (e5.trans et)
            rw [etj]
            refine s_when (b := lnB w && !decide (prW w ∈ acc)) (et_and c1 fun _ => c2) (fun hb4 H4 e4 => ?_) (fun hb4 H4 e4 => ?_)
            · have es : stF acc w = acc ++ [prW w] := by
                unfold stF
                rw [hb4]
                rfl
              have lw4 := lw3.ext e4
              obtain ⟨_, _, us, hd, hus⟩ := lw4
              refine ⟨.ref D, rfl, .inl ⟨rfl, _, sq_of hd⟩, ?_⟩
              refine tc1 (t_tupN ((ea_cons (i1 e4) (ea_cons (i0 e4) ea_nil)) H4 (Ex.refl _) _ fun H5 e5 => ⟨by show 2 ≤ sizeLine; decide, fun t ht => ?_⟩))
              have et := Ex.new (o := .tup [V.int (w.getD 1 0), V.int (w.getD 0 0)]) ht
              have lw5 := lw3.ext ((e4.trans e5).trans et)
              have hne : t ≠ D := by
                intro z
                rw [z, (e5 _ _ hd)] at ht
                cases ht
              obtain ⟨us5, p1, p2, p3⟩ := lw5.put (w := prW w) (u := .ref t) (by omega) (wd_of ((off_at hne).trans upd_same))
              refine ⟨D, us5, .ref t, rfl, rfl, p1, p2, some (.ref b), rfl, ?_⟩
              rw [es]
              exact p3
            · have es : stF acc w = acc := by
                unfold stF
                rw [hb4]
                rfl
              rw [es]
              exact ⟨some (.ref b), rfl, lw3.ext e4⟩
          · rintro σ' H3 ⟨p, rfl, lw3⟩
            rw [hxl, List.take_length] at lw3
            exact ⟨some (.ref ua), p, rfl, lw3⟩
      · rintro σ' H2 ⟨o, p, rfl, lw⟩
        rw [hll, List.take_length] at lw
        obtain ⟨_, e2, us, hd, hus⟩ := lw
        have hus2 := hus.mono (off_in D H2)
        have hful := fnd_len rows.flatten
        have hfl := len_flat h6
        obtain ⟨fn, fm⟩ := fnd_ok rows.flatten
        generalize fnd rows.flatten = acc at *
        have hpb := pairs_bd hG h8
        have hul := hus.length
        rw [List.length_map] at hul
        have ks : ∀ {ws : List Wy} {us : List V}, DqA H2 us (ws.map wd) → ∃ ks : List (Addr × List Int), us = (ks.map fun p => V.ref p.1) ∧ ks.map (·.2) = ws ∧ ∀ p ∈ ks, H2 p.1 = some (.tup (p.2.map V.int)) := by
          intro ws
          induction ws with
          | nil =>
            intro us h
            cases h
            exact ⟨[], rfl, rfl, fun p hp => by cases hp⟩
          | cons w ws ih =>
            intro us h
            cases h with
            | cons z1 z2 =>
              obtain ⟨a, rfl, ha⟩ := wd_ref z1
              obtain ⟨ks, k1, k2, k3⟩ := ih z2
              refine ⟨(a, w) :: ks, by rw [k1]; rfl, by rw [List.map_cons, k2], fun p hp => ?_⟩
              rcases List.mem_cons.mp hp with y | y
              · rw [y]
                exact ha
              · exact k3 p y
        obtain ⟨kk, k1, k2, k3⟩ := ks hus2
        have hmem : ∀ q, q ∈ acc ↔ q ∈ pairsW rows := fm
        dsimp only
        refine ret_cb ?_
        refine ⟨.ref D, rfl, D, us, rfl, sq_of hd, by omega, fun x hx => ?_, fun ys q perm pw hq => ?_⟩
        · rw [k1] at hx
          obtain ⟨r, hr1, rfl⟩ := List.mem_map.mp hx
          have hm : r.2 ∈ pairsW rows := by
            rw [← hmem, ← k2]
            exact List.mem_map.mpr ⟨r, hr1, rfl⟩
          obtain ⟨u, v', hu', hv', ep⟩ := hpb r.2 hm
          refine ⟨r.2, ⟨r.1, rfl, st_of (k3 r hr1)⟩, by rw [ep]; rfl, ?_⟩
          rw [ep]
          intro m hm2
          rcases List.mem_cons.mp hm2 with z | z
          · omega
          · rcases List.mem_cons.mp z with y | y
            · omega
            · cases y
        · obtain ⟨kk', kp, ek⟩ := perm_back perm k1
          have k3' : ∀ p ∈ kk', H2 p.1 = some (.tup (p.2.map V.int)) := fun p hp => k3 p (kp.mem_iff.mp hp)
          have eM : kk'.map (·.2) = linesW rows := by
            have pm := kp.map (·.2)
            rw [k2] at pm
            refine lines_unique hpb (fun r => ?_) (pm.nodup_iff.mpr fn) ?_
            · rw [pm.mem_iff]
              exact hmem r
            · rw [ek, List.pairwise_map] at pw
              rw [List.pairwise_map]
              exact pw.imp_of_mem fun {x y} hx hy hxy => hxy x.2 y.2 ⟨x.1, rfl, st_of (k3' x hx)⟩ ⟨y.1, rfl, st_of (k3' y hy)⟩
          have eq := Ex.new (o := .lst ys) hq
          refine k _ q ys (e2.trans eq) (fresh_back e2 hq) upd_same ?_
          rw [← eM]
          have z := ks_wds (H := upd H2 q (.lst ys)) (ks := kk') fun p hp => eq _ _ (k3' p hp)
          rw [← ek] at z
          exact z
end
end Wk

set_option Elab.async false
set_option linter.all false
set_option maxRecDepth 100000
set_option maxHeartbeats 2000000
namespace Wk
open PySem PySem.Spec PyProof.Rows L2 Evl
theorem int_dec (a b : Int) : decide (V.int a = V.int b) = decide (a = b) := by
  rw [decide_eq_decide]
  exact ⟨fun z => by injection z, fun z => by rw [z]⟩
theorem dp_od_none {K : PySem.W.Frag} {H : Hp} {v : V} (h : Dp K H v (od none)) : v = .non := by
  cases h
  rfl
/-! items[way[1]] and way[1:], way at an address -/
section
variable {K : PySem.W.Frag} {σ : L2.St} {H : Hp}
theorem ev_second {tw : TE} {a : Addr} {w : Wy} {j : Nat} (hw : Ev tw σ H (.ref a)) (ha : SqT K H a (w.map V.int)) (hj : w[1]? = some (j : Int)) : Ev (tOp (rIxT K) tw (tC (.int 1))) σ H (.int (j : Int)) :=
  ev_op hw ev_c (rv_ixT ha (atI_nat (j := 1) (by rw [List.getElem?_map, hj]; rfl)))
theorem ev_at {ti tj : TE} {b : Addr} {xs : List V} {j : Nat} {x : V} (hi : Ev ti σ H (.ref b)) (hb : SqT K H b xs) (hj : Ev tj σ H (.int (j : Int))) (hx : xs[j]? = some x) : Ev (tOp (rIxT K) ti tj) σ H x := ev_op hi hj (rv_ixT hb (atI_nat hx))
theorem eq_tail {tw : TE} {a : Addr} {w : Wy} (hw : Ev tw σ H (.ref a)) (ha : SqT K H a (w.map V.int)) : EvQ K (tSl (rSlA K) tw (tPart (tC (.int 1))) tNoPart) σ H ((w.drop 1).map V.int) := by
  rw [← drop1]
  exact eq_sl hw (eo_some ev_c) eo_none ha
theorem ev_eqTail {tx ts : TE} {x : V} {o : Option Wy} {u : Wy} (hx : Ev tx σ H x) (hd : Dp K H x (od o)) (hs : EvQ K ts σ H (u.map V.int)) : Ev (tOp (rEqD K) tx ts) σ H (.bl (decide (o = some u))) := by
  rw [← eqv_od]
  exact ev_opQ hx hs fun p H1 hp e => fun H2 e2 Q2 q => ⟨od o, wd u, Dp.up (e.trans e2) hd, dp_of_wd (ex_t e2 hp), shaped_od o, shaped_wd u, q H2 (Ex.refl H2)⟩
theorem ev_neTail {tx ts : TE} {x : V} {o : Option Wy} {u : Wy} (hx : Ev tx σ H x) (hd : Dp K H x (od o)) (hs : EvQ K ts σ H (u.map V.int)) : Ev (tOp (rNeD K) tx ts) σ H (.bl (!decide (o = some u))) := by
  rw [← eqv_od]
  exact ev_opQ hx hs fun p H1 hp e => fun H2 e2 Q2 q => ⟨od o, wd u, Dp.up (e.trans e2) hd, dp_of_wd (ex_t e2 hp), shaped_od o, shaped_wd u, q H2 (Ex.refl H2)⟩
theorem ev_eqWy {tx ty : TE} {x y : V} {a b : Wy} (hx : Ev tx σ H x) (hy : Ev ty σ H y) (hd : Dp K H x (wd a)) (he : Dp K H y (wd b)) : Ev (tOp (rEqD K) tx ty) σ H (.bl (decide (a = b))) := by
  rw [← eqv_wd]
  exact ev_op hx hy fun H2 e2 Q2 q => ⟨wd a, wd b, Dp.up e2 hd, Dp.up e2 he, shaped_wd a, shaped_wd b, q H2 (Ex.refl H2)⟩
end
section
variable {P : Program} {w : World} {K : PySem.W.Frag} {mg : Str → Option Value} {base : Heap} {f : Addr} {fd : FuncData} {CW CN : Addr}
/-! cannot_stay -/
abbrev spStay (K : PySem.W.Frag) (CW : Addr) : Sp := spP fun H vs z => ∃ (wv iv : V) (i : Nat) (rows : List (List Wy)) (t : List (Option Wy)), vs = [wv, iv, .int (i : Int)] ∧ WO CW H wv rows ∧ Dp K H iv (.tuple (t.map od)) ∧ TkO rows t ∧ 1 ≤ i ∧ i < rows.length ∧ z = .bl (csB rows t i)
abbrev sStay : Stmt := top 30
abbrev nStay : List Str := ["wishes", "items", "router", "own", "way"]
theorem scStay : FnScope nStay ["wishes", "items", "router"] (defScope sStay) := ⟨rfl, rfl, rfl, by decide +kernel, rfl, by decide +kernel, by decide +kernel⟩
theorem ok_stay (B : Bl mg) (W : WC P w K mg base CW CN) (F : FnP K "cannot_stay" sStay f fd) : FnOk P w K mg base CX0 6 f fd ["wishes", "items", "router"] (spStay K CW) := by
  obtain ⟨fM, fdM, me, FM, bM⟩ := W.wy
  refine F.ok scStay (fun vs H Q E h => ?_) (fun cdv A outer s H vs Q E hr h => ?_)
  · obtain ⟨z, ⟨wv, iv, i, rows, t, rfl, _⟩, _⟩ := h
    rfl
  · obtain ⟨z, ⟨wv, iv, i, rows, t, rfl, hw, hv, ht, hi1, hin, rfl⟩, k⟩ := h
    have hu : (A.deeper (envOfC "cannot_stay" (defScope sStay) s.heap.objs.size f cdv)).units + 64 < cLine := by have := hr.un; omega
    have hu0 : (A.deeper (envOfC "cannot_stay" (defScope sStay) s.heap.objs.size f cdv)).units < cLine := by omega
    refine ⟨_, pss_cons (ps_set (i := 3) scStay.nd rfl (Or.inl rfl) (pe_ix ix_tup (pv 1) (pv 2) (fun _ _ => rfl)))
      (pss_cons (ps_if (pt_cmpR op_isN (pv 3) pe_non (nomark _)) (pss_one (ps_ret pe_bl)) pss_nil)
      (pss_cons (ps_if (PW.pt (pw_and (pt_cmpR (op_neEU hu0) (pv 3) (pe_tup pa_nil) (nomark _)) (pw_and (pt_cmpR op_notN (pe_ix ix_tup (pv 1) (pe_ix ix_tup (pv 3) pe_int (fun _ _ => rfl)) (fun _ _ => rfl)) pe_non (nomark _)) (pw_and1 (pt_cmpR (op_neD hu) (pe_ix ix_tup (pv 1) (pe_ix ix_tup (pv 3) pe_int (fun _ _ => rfl)) (fun _ _ => rfl)) (pe_slice sl_tupA (pv 3) (po_some pe_int) po_none) (nomark _)))))) (pss_one (ps_ret pe_bl)) pss_nil)
      (pss_cons (ps_for (passes_of rfl) rfl (pi_tup (pe_meAt (pv 0) W.tx.cl me FM hr bM (fun σ => passAt takes0 σ) (pa_cons (pv 2) pa_nil))) (pg_name (i := 4) scStay.nd rfl (Or.inl rfl))
        (pss_cons (ps_if (pt_cmpR (op_eqD hu) (pv 4) (pv 3) (nomark _)) (pss_one (ps_ret pe_bl)) pss_nil)
        (pss_one (ps_if (pt_cmpR (op_eqD hu) (pe_ix ix_tup (pv 1) (pe_ix ix_tup (pv 4) pe_int (fun _ _ => rfl)) (fun _ _ => rfl)) (pe_slice sl_tupA (pv 4) (po_some pe_int) po_none) (nomark _)) (pss_one (ps_ret pe_bl)) pss_nil))))
      (pss_one (ps_ret pe_bl))))), ?_⟩
    have hG := hw.g
    have hil : i < t.length := by rw [ht.len]; exact hin
    have hti : t[i]? = some t[i] := List.getElem?_eq_getElem hil
    have etg : t.getD i none = t[i] := by rw [List.getD_eq_getElem?_getD, hti]; rfl
    have hrw : rows[i]? = some rows[i] := List.getElem?_eq_getElem hin
    have erg : rows.getD i [] = rows[i] := by rw [List.getD_eq_getElem?_getD, hrw]; rfl
    unfold csB at k
    rw [etg, erg] at k
    generalize hox : t[i] = o at *
    generalize rows[i] = row at *
    cases hv with
    | tup hb hxs =>
      rename_i b xs
      have hxl := dpa_len hxs
      rw [List.length_map] at hxl
      obtain ⟨x, hx, hdx⟩ := dpa_at (i := i) (d := od o) hxs (by rw [List.getElem?_map, hti]; rfl)
      refine q_asg (ev_at (K := K) (ev_var (i := 1) rfl) hb (ev_var (i := 2) rfl) hx) fun H1 e1 => ?_
      change tSeq _ _ _ [some wv, some (.ref b), some (.int (i : Int)), some x, none] H1
      cases o with
      | none =>
        have ex := dp_od_none hdx
        subst ex
        refine q_when (b := decide (V.non = V.non)) (et_test (ev_op (ev_var rfl) ev_c fun H2 e2 Q2 q => ⟨rfl, q H2 (Ex.refl H2)⟩)) (fun hb2 H2 e2 => s_ret ev_c fun H3 e3 => k H3 ((e1.trans e2).trans e3)) (fun z => by simp at z)
      | some own =>
        obtain ⟨ao, rfl, hao⟩ := dp_wd hdx
        refine q_when (b := decide (V.ref ao = V.non)) (et_test (ev_op (ev_var rfl) ev_c fun H2 e2 Q2 q => ⟨rfl, q H2 (Ex.refl H2)⟩)) (fun z => by simp at z) (fun _ H2 e2 => ?_)
        have k' : ∀ (H' : Hp), Ex H H' → Q (.bl (if own ≠ [] ∧ t.getD (own.getD 1 0).toNat none ≠ none ∧ hit t own = false then true else csL t own row)) H' := k
        clear k
        -- the items of a way in some row
        have item : ∀ (u : Wy) (r : Nat) (row' : List Wy), rows[r]? = some row' → u ∈ row' → ∃ (j : Nat) (y : V) (oj : Option Wy), u[1]? = some (j : Int) ∧ (u.getD 1 0).toNat = j ∧ xs[j]? = some y ∧ Dp K H y (od oj) ∧ t.getD j none = oj := fun u r row' h1 h2 => by
          obtain ⟨j, j1, j2, j3, _⟩ := ways_in hG h1 h2
          have hjl : j < t.length := by rw [ht.len]; exact j3
          have htj : t[j]? = some t[j] := List.getElem?_eq_getElem hjl
          obtain ⟨y, y1, y2⟩ := dpa_at (i := j) (d := od t[j]) hxs (by rw [List.getElem?_map, htj]; rfl)
          exact ⟨j, y, t[j], j1, by rw [j2]; rfl, y1, y2, by rw [List.getD_eq_getElem?_getD, htj]; rfl⟩
        have hown : own ≠ [] → own ∈ row := fun hne => by
          have q := ht.ok i own hti
          unfold chW at q
          rw [if_neg (by omega), erg] at q
          rcases List.mem_append.mp q with z | z
          · exact z
          · exact absurd (List.mem_singleton.mp z) hne
        have vi : ∀ {H3 : Hp} {o4 : Option V}, Ev (tVar 1) [some wv, some (.ref b), some (.int (i : Int)), some (.ref ao), o4] H3 (.ref b) := ev_var rfl
        have vo : ∀ {H3 : Hp} {o4 : Option V}, Ev (tVar 3) [some wv, some (.ref b), some (.int (i : Int)), some (.ref ao), o4] H3 (.ref ao) := ev_var rfl
        refine q_when (b := decide (own ≠ [] ∧ t.getD (own.getD 1 0).toNat none ≠ none ∧ hit t own = false)) ?_ (fun hb2 H3 e3 => s_ret ev_c fun H4 e4 => ?_) (fun hb2 H3 e3 => ?_)
        · by_cases hne : own = []
          · refine et_is (et_and (a := false) (b := false) (et_test (ev_is (v := .bl (!(own.map V.int).isEmpty)) (ev_opU vo (eu_tup ea_nil (by simp)) fun c H3 hc e3 => fun H4 e4 Q2 q => ⟨ao, c, own.map V.int, rfl, rfl, ex_t (((e1.trans e2).trans e3).trans e4) hao, st_of (e4 _ _ hc), q H4 (Ex.refl H4)⟩) (by rw [hne]; rfl))) (fun z => by cases z)) (by simp [hne])
          · obtain ⟨j, y, oj, j1, j2, j3, j4, j5⟩ := item own i row hrw (hown hne)
            have e12 := e1.trans e2
            have hsec : Ev (tOp (rIxT K) (tVar 1) (tOp (rIxT K) (tVar 3) (tC (.int 1)))) [some wv, some (.ref b), some (.int (i : Int)), some (.ref ao), none] H2 y := ev_at vi (ex_t e12 hb) (ev_second vo (ex_t e12 hao) j1) j3
            refine et_is (et_and (a := true) (b := (!decide (y = V.non)) && !decide (oj = some (own.drop 1))) (et_test (ev_is (v := .bl (!(own.map V.int).isEmpty)) (ev_opU vo (eu_tup ea_nil (by simp)) fun c H3 hc e3 => fun H4 e4 Q2 q => ⟨ao, c, own.map V.int, rfl, rfl, ex_t ((e12.trans e3).trans e4) hao, st_of (e4 _ _ hc), q H4 (Ex.refl H4)⟩) (by cases own <;> first | exact absurd rfl hne | rfl)))
              (fun _ => et_and (et_test (ev_op hsec ev_c fun H3 e3 Q2 q => ⟨rfl, q H3 (Ex.refl H3)⟩)) fun _ => et_test (ev_neTail hsec (Dp.up e12 j4) (eq_tail vo (ex_t e12 hao))))) ?_
            rw [j2, j5]
            have hh : hit t own = decide (oj = some (own.drop 1)) := by unfold hit; rw [j2, j5]
            rw [hh]
            cases oj with
            | none =>
              rw [dp_od_none j4]
              simp
            | some u =>
              obtain ⟨_, rfl, _⟩ := dp_wd j4
              by_cases c : u = own.drop 1
              · simp [c]
              · simp [c, hne]
        · rw [if_pos (of_decide_eq_true hb2)] at k'
          exact k' H4 (((e1.trans e2).trans e3).trans e4)
        · have kk : ∀ (H' : Hp), Ex H H' → Q (.bl (csL t own row)) H' := fun H' e' => by
            have q := k' H' e'
            rw [if_neg (of_decide_eq_false hb2)] at q
            exact q
          clear k' hb2
          have e13 := (e1.trans e2).trans e3
          refine q_forCT (K := K) (fun l ys H4 => Ex H3 H4 ∧ H4 l = some (.tup ys) ∧ DqA H4 ys (row.map wd)) (fun Q2 kq => t_ways (ev_var (i := 0) rfl) (hw.up e13) (ev_var (i := 2) rfl) hrw fun u H4 e4 hu => ?_) ?_
          · unfold rd at hu
            cases hu with
            | tup u1 u2 => exact kq _ _ _ ⟨e4, u1, u2⟩
          rintro l ys H4 ⟨e4, hl, hys⟩
          have hyl := hys.length
          rw [List.length_map] at hyl
          refine ⟨st_of hl, fun m σ' H' => Ex H4 H' ∧ (∃ o4, σ' = [some wv, some (.ref b), some (.int (i : Int)), some (.ref ao), o4]) ∧ csL t own row = csL t own (row.drop m), ⟨Ex.refl _, ⟨_, rfl⟩, rfl⟩, fun m σ' H' _ p => st_of (p.1 _ _ hl), ?_, ?_⟩
          · rintro m y σ' H5 hy ⟨e5, ⟨o4, rfl⟩, hd⟩
            obtain ⟨u, hu1, hu2⟩ := hys.wds_inv hy
            have hum := List.mem_of_getElem? hu1
            obtain ⟨au, rfl, hau⟩ := wd_ref hu2
            have hdrop := csL_drop (t := t) (own := own) hu1
            obtain ⟨j, yj, oj, j1, j2, j3, j4, j5⟩ := item u i row hrw hum
            have e15 := (e13.trans e4).trans e5
            have hau5 := e5 _ _ hau
            refine g_name ?_
            change tSeq _ _ _ [some wv, some (.ref b), some (.int (i : Int)), some (.ref ao), some (.ref au)] H5
            refine q_when (b := decide (u = own)) (et_test (ev_eqWy (ev_var rfl) vo (dp_of_wd (st_of hau5)) (dp_of_wd (ex_t e15 hao)))) (fun hb6 H6 e6 => s_ret ev_c fun H7 e7 => ?_) (fun hb6 H6 e6 => ?_)
            · rw [hd, hdrop, if_pos (of_decide_eq_true hb6)] at kk
              exact kk H7 ((e15.trans e6).trans e7)
            · rw [if_neg (of_decide_eq_false hb6)] at hdrop
              have e16 := e15.trans e6
              have vu : Ev (tVar 4) [some wv, some (.ref b), some (.int (i : Int)), some (.ref ao), some (.ref au)] H6 (.ref au) := ev_var rfl
              have hau6 : SqT K H6 au (u.map V.int) := st_of (e6 _ _ hau5)
              have hsec := ev_at (K := K) vi (ex_t e16 hb) (ev_second vu hau6 j1) j3
              have hh : hit t u = decide (oj = some (u.drop 1)) := by unfold hit; rw [j2, j5]
              rw [hh] at hdrop
              refine s_when (b := decide (oj = some (u.drop 1))) (et_test (ev_eqTail hsec (Dp.up e16 j4) (eq_tail vu hau6))) (fun hb7 H7 e7 => s_ret ev_c fun H8 e8 => ?_) (fun hb7 H7 e7 => ?_)
              · rw [hd, hdrop, if_pos hb7] at kk
                exact kk H8 ((e16.trans e7).trans e8)
              · rw [if_neg (by rw [hb7]; decide)] at hdrop
                exact ⟨(e5.trans e6).trans e7, ⟨_, rfl⟩, by rw [hd, hdrop]⟩
          · rintro σ' H5 ⟨e5, ⟨o4, rfl⟩, hd⟩
            rw [hd, hyl, List.drop_length] at kk
            exact s_ret ev_c fun H6 e6 => kk H6 (((e13.trans e4).trans e5).trans e6)
/-! first_that_cannot_stay -/
/-- the least router, from i on, that cannot stay -/
def fcs (rows : List (List Wy)) (t : List (Option Wy)) : Nat → Nat → Option Int
  | 0, _ => none
  | m + 1, i => if csB rows t i = true then some (i : Int) else fcs rows t m (i + 1)
def fcsV : Option Int → V
  | none => .non
  | some r => .int r
abbrev spFirst (K : PySem.W.Frag) (CW : Addr) : Sp := spP fun H vs z => ∃ (wv iv : V) (rows : List (List Wy)) (t : List (Option Wy)), vs = [wv, iv] ∧ WO CW H wv rows ∧ Dp K H iv (.tuple (t.map od)) ∧ TkO rows t ∧ z = fcsV (fcs rows t (rows.length - 1) 1)
abbrev sFirst : Stmt := top 31
abbrev nFirst : List Str := ["wishes", "items", "router"]
theorem scFirst : FnScope nFirst ["wishes", "items"] (defScope sFirst) := ⟨rfl, rfl, rfl, by decide +kernel, rfl, by decide +kernel, by decide +kernel⟩
theorem ok_first (B : Bl mg) (W : WC P w K mg base CW CN) (C : Cal P w K mg base "cannot_stay" ["wishes", "items", "router"] 6 (spStay K CW)) (F : FnP K "first_that_cannot_stay" sFirst f fd) : FnOk P w K mg base CX0 7 f fd ["wishes", "items"] (spFirst K CW) := by
  refine F.ok scFirst (fun vs H Q E h => ?_) (fun cdv A outer s H vs Q E hr h => ?_)
  · obtain ⟨z, ⟨wv, iv, rows, t, rfl, _⟩, _⟩ := h
    rfl
  · obtain ⟨z, ⟨wv, iv, rows, t, rfl, hw, hv, ht, rfl⟩, k⟩ := h
    refine ⟨_, pss_cons (ps_for (passes_of rfl) rfl (pi_range2 (by rfl) B.range (pa_cons pe_int (pa_cons (pe_fld (pv 0) rfl) pa_nil))) (pg_name (i := 2) scFirst.nd rfl (Or.inl rfl))
        (pss_one (ps_if (pt_val (pe_cal C hr (by rfl) (pa_cons (pv 0) (pa_cons (pv 1) (pa_cons (pv 2) pa_nil))))) (pss_one (ps_ret (pv 2))) pss_nil)))
      (pss_one (ps_ret pe_non)), ?_⟩
    have n8 := hw.n8
    have n2 := hw.n2
    refine q_forR2 (ea_cons ev_c (ea_cons (ev_wsize W.tx (ev_var rfl) hw) ea_nil)) (by omega) (fun i σ' H' => Ex H H' ∧ (∃ o, σ' = [some wv, some iv, o]) ∧ fcs rows t (rows.length - 1) 1 = fcs rows t (rows.length - 1 - i) (1 + i)) (fun H1 e1 => ⟨e1, ⟨_, rfl⟩, rfl⟩) ?_ ?_
    · rintro i σ' H1 hi ⟨e1, ⟨o, rfl⟩, hf⟩
      change tIfS _ _ _ _ [some wv, some iv, some (.int (1 + (i : Int)))] H1
      have hin : 1 + i < rows.length := by omega
      have er : fcs rows t (rows.length - 1 - i) (1 + i) = if csB rows t (1 + i) = true then some ((1 + i : Nat) : Int) else fcs rows t (rows.length - 1 - (i + 1)) (1 + (i + 1)) := by
        rw [show rows.length - 1 - i = (rows.length - 1 - (i + 1)) + 1 by omega]
        rfl
      rw [show (1 : Int) + (i : Int) = ((1 + i : Nat) : Int) by omega]
      refine s_when (b := csB rows t (1 + i)) (et_B (ev_call (ea_cons (ev_var rfl) (ea_cons (ev_var rfl) (ea_cons (ev_var rfl) ea_nil))) (spP_v fun H2 e2 => ⟨wv, iv, 1 + i, rows, t, rfl, hw.up (e1.trans e2), Dp.up (e1.trans e2) hv, ht, by omega, hin, rfl⟩))) (fun hb H2 e2 => s_ret (ev_var rfl) fun H3 e3 => ?_) (fun hb H2 e2 => ⟨e1.trans e2, ⟨_, rfl⟩, ?_⟩)
      · rw [hf, er, if_pos hb] at k
        exact k H3 ((e1.trans e2).trans e3)
      · rw [hf, er, if_neg (by rw [hb]; simp)]
    · rintro σ' H1 ⟨e1, ⟨o, rfl⟩, hf⟩
      have er : fcs rows t (rows.length - 1) 1 = none := by
        rw [hf, show rows.length - 1 - ((rows.length : Int) - 1).toNat = 0 by omega]
        rfl
      rw [er] at k
      exact s_ret ev_c fun H2 e2 => k H2 (e1.trans e2)
end
end Wk

set_option Elab.async false
set_option linter.all false
set_option maxRecDepth 100000
set_option maxHeartbeats 2000000
namespace Wk
open PySem PySem.Spec PyProof.Rows L2 Evl
/-- the items of a taking that is a datum -/
def tkOf (d : PyData) : List (Option Wy) := (itemsT d).map fun x => some (rts x)
theorem all_range {α : Type} {ds : List α} {g : Nat → α → Bool} (h : ((List.range ds.length).map fun k => ((ds[k]?).map (g k)).getD false).all id = true) {k : Nat} {x : α} (e : ds[k]? = some x) : g k x = true := by
  have hk := (List.getElem?_eq_some_iff.mp e).1
  have q := List.all_eq_true.mp h _ (List.mem_map.mpr ⟨k, List.mem_range.mpr hk, rfl⟩)
  rw [e] at q
  exact q
theorem tk_ok {rows : List (List Wy)} {d : PyData} (h : tkB rows (some d) = true) : d = .tuple ((tkOf d).map od) ∧ TkO rows (tkOf d) ∧ (itemsT d).length = rows.length ∧ ∀ k x, (itemsT d)[k]? = some x → chB rows k x = true := by
  obtain ⟨h1, h2⟩ := Bool.and_eq_true_iff.mp h
  obtain ⟨h3, h4⟩ := Bool.and_eq_true_iff.mp (show (isTu d && decide (V.int ((itemsT d).length : Int) = V.int (rows.length : Int))) = true from h1)
  have hn : (itemsT d).length = rows.length := by have := of_decide_eq_true h4; injection this; omega
  cases d <;> first | (simp [isTu] at h3; done) | skip
  rename_i ds
  have hc : ∀ k x, ds[k]? = some x → chB rows k x = true := fun k x e => all_range (g := chB rows) h2 e
  refine ⟨?_, ⟨by unfold tkOf; rw [List.length_map]; exact hn, fun i x e => ?_⟩, hn, hc⟩
  · congr 1
    unfold tkOf
    rw [List.map_map]
    refine (List.map_id ds).symm.trans (List.map_congr_left fun x hx => ?_)
    obtain ⟨k, hk⟩ := List.mem_iff_getElem?.mp hx
    exact intsB_wd (Bool.and_eq_true_iff.mp (hc k x hk)).1
  · unfold tkOf at e
    rw [List.getElem?_map] at e
    cases hd : (itemsT (.tuple ds))[i]? with
    | none => rw [hd] at e; cases e
    | some y =>
      rw [hd] at e
      have e' : rts y = x := by injection (Option.some.inj e)
      rw [← e']
      exact of_decide_eq_true (Bool.and_eq_true_iff.mp (hc i y hd)).2
def outB (rows : List (List Wy)) (o : Option PyData) : Bool := tkB rows o && match o with
  | some d => decide (fcs rows (tkOf d) (rows.length - 1) 1 = none)
  | none => true
/-! the law's own words -/
def best (t : List (Option Wy)) : List Wy → Wy
  | [] => []
  | w :: ws => if hit t w = true then w else best t ws
theorem best_drop {t : List (Option Wy)} : ∀ {ws : List Wy} {i : Nat} {w : Wy}, ws[i]? = some w → best t (ws.drop i) = if hit t w = true then w else best t (ws.drop (i + 1))
  | [], i, w, h => by simp at h
  | x :: ws, 0, w, h => by
    simp at h
    subst h
    rfl
  | x :: ws, i + 1, w, h => by
    simp only [List.drop_succ_cons]
    exact best_drop (by simpa using h)
theorem best_in {t : List (Option Wy)} : ∀ ws : List Wy, best t ws = [] ∨ best t ws ∈ ws ∧ hit t (best t ws) = true
  | [] => .inl rfl
  | w :: ws => by
    unfold best
    by_cases h : hit t w = true
    · rw [if_pos h]; exact .inr ⟨List.mem_cons_self, h⟩
    · rw [if_neg h]
      rcases best_in ws with z | ⟨z1, z2⟩
      · exact .inl z
      · exact .inr ⟨List.mem_cons_of_mem _ z1, z2⟩
theorem csL_best {t : List (Option Wy)} {own : Wy} : ∀ ws : List Wy, (own ∈ ws → hit t own = true) → (own ∉ ws → own = []) → (∀ w ∈ ws, w ≠ []) → (csL t own ws = false ↔ own = best t ws)
  | [], _, h2, _ => by
    have := h2 (by simp)
    simp [csL, best, this]
  | w :: ws, h1, h2, h3 => by
    unfold csL best
    by_cases c : w = own
    · subst c
      rw [if_pos rfl, if_pos (h1 List.mem_cons_self)]
      simp
    · rw [if_neg c]
      by_cases hh : hit t w = true
      · rw [if_pos hh, if_pos hh]
        simp [Ne.symm c]
      · rw [if_neg hh, if_neg hh]
        refine csL_best ws (fun z => h1 (List.mem_cons_of_mem _ z)) (fun z => h2 fun y => ?_) (fun x hx => h3 x (List.mem_cons_of_mem _ hx))
        rcases List.mem_cons.mp y with q | q
        · exact c q.symm
        · exact z q
theorem csB_best {rows : List (List Wy)} {t : List (Option Wy)} (hG : GW rows) (ht : TkO rows t) (hs : ∀ x ∈ t, x ≠ none) {i : Nat} (h1 : 1 ≤ i) (h2 : i < rows.length) : csB rows t i = false ↔ t.getD i none = some (best t (rows.getD i [])) := by
  have hil : i < t.length := by rw [ht.len]; exact h2
  have hti : t[i]? = some t[i] := List.getElem?_eq_getElem hil
  have etg : t.getD i none = t[i] := by rw [List.getD_eq_getElem?_getD, hti]; rfl
  have hrw : rows[i]? = some rows[i] := List.getElem?_eq_getElem h2
  have erg : rows.getD i [] = rows[i] := by rw [List.getD_eq_getElem?_getD, hrw]; rfl
  cases ho : t[i] with
  | none => exact absurd ho (hs _ (List.getElem_mem hil))
  | some own =>
    rw [ho] at hti etg
    have hch := ht.ok i own hti
    unfold chW at hch
    rw [if_neg (by omega), erg] at hch
    unfold csB
    rw [etg, erg]
    generalize rows[i] = row at *
    have hne : ∀ w ∈ row, w ≠ [] := fun w hw => by
      obtain ⟨_, _, _, _, z⟩ := ways_in hG hrw hw
      exact z
    have nn : ∀ w ∈ row, t.getD (w.getD 1 0).toNat none ≠ none := fun w hw => by
      obtain ⟨j, _, j2, j3, _⟩ := ways_in hG hrw hw
      have hjl : j < t.length := by rw [ht.len]; exact j3
      rw [j2, show ((j : Int)).toNat = j from rfl, List.getD_eq_getElem?_getD, List.getElem?_eq_getElem hjl]
      exact hs _ (List.getElem_mem hjl)
    show (if own ≠ [] ∧ t.getD (own.getD 1 0).toNat none ≠ none ∧ hit t own = false then true else csL t own row) = false ↔ some own = some (best t row)
    rw [Option.some.injEq]
    rcases List.mem_append.mp hch with hm | hm
    · by_cases hh : hit t own = true
      · rw [if_neg (by rw [hh]; simp)]
        exact csL_best row (fun _ => hh) (fun z => absurd hm z) hne
      · have hh' : hit t own = false := by simpa using hh
        rw [if_pos ⟨hne own hm, nn own hm, hh'⟩]
        refine ⟨fun z => (by cases z), fun z => ?_⟩
        rcases best_in (t := t) row with y | ⟨_, y⟩
        · rw [y] at z; exact absurd z (hne own hm)
        · rw [← z] at y; exact absurd y hh
    · have e0 := List.mem_singleton.mp hm
      rw [if_neg (by rw [e0]; simp)]
      exact csL_best row (fun z => absurd e0 (hne own z)) (fun _ => e0) hne
def lsB (rows : List (List Wy)) (t : List (Option Wy)) : Nat → Nat → Bool
  | 0, _ => true
  | m + 1, i => if t.getD i none = some (best t (rows.getD i [])) then lsB rows t m (i + 1) else false
theorem lsB_fcs {rows : List (List Wy)} {t : List (Option Wy)} (hG : GW rows) (ht : TkO rows t) (hs : ∀ x ∈ t, x ≠ none) : ∀ m i : Nat, 1 ≤ i → i + m ≤ rows.length → lsB rows t m i = decide (fcs rows t m i = none)
  | 0, _, _, _ => rfl
  | m + 1, i, h1, h2 => by
    unfold lsB fcs
    have q := csB_best hG ht hs h1 (show i < rows.length by omega)
    have ih := lsB_fcs hG ht hs m (i + 1) (by omega) (by omega)
    by_cases c : csB rows t i = true
    · have c2 : ¬ t.getD i none = some (best t (rows.getD i [])) := fun z => by
        rw [q.mpr z] at c
        cases c
      rw [if_neg c2, if_pos c]
      rfl
    · have c1 : csB rows t i = false := by simpa using c
      rw [if_pos (q.mp c1), if_neg c]
      exact ih
theorem tkOf_some {d : PyData} : ∀ x ∈ tkOf d, x ≠ none := fun x hx => by
  obtain ⟨y, _, rfl⟩ := List.mem_map.mp hx
  simp
section
variable {P : Program} {w : World} {K : PySem.W.Frag} {mg : Str → Option Value} {base : Heap} {f : Addr} {fd : FuncData} {CW CN : Addr}
/-! is_outcome -/
abbrev Small (o : Option PyData) : Prop := ∀ d, o = some d → ∀ x ∈ itemsT d, (itemsT x).length ≤ 1000
abbrev spOut (CW : Addr) : Sp := spP fun H vs z => ∃ (wv v : V) (o : Option PyData) (rows : List (List Wy)), vs = [wv, v] ∧ WO CW H wv rows ∧ Tg CW H v o ∧ Small o ∧ z = .bl (outB rows o)
abbrev sOut : Stmt := top 54
theorem scOut : FnScope ["wishes", "thing"] ["wishes", "thing"] (defScope sOut) := ⟨rfl, rfl, rfl, by decide +kernel, rfl, by decide +kernel, by decide +kernel⟩
theorem dp_tk {rows : List (List Wy)} {H : Hp} {v : V} {d : PyData} (h : Dq H v d) (e : d = .tuple ((tkOf d).map od)) : Dp K H v (.tuple ((tkOf d).map od)) := by
  rw [e] at h
  refine Dq.dp ?_ h
  simp only [PyData.canLay0]
  refine layAll.mpr fun x hx => ?_
  obtain ⟨o, _, rfl⟩ := List.mem_map.mp hx
  exact SeqAt.canLay_of_shaped (shaped_od o)
theorem fcsV_none (o : Option Int) : decide (fcsV o = V.non) = decide (o = none) := by
  cases o <;> rfl
theorem ok_out (C : Cal P w K mg base "is_taking" ["wishes", "thing"] 8 (spTaking CW)) (C2 : Cal P w K mg base "first_that_cannot_stay" ["wishes", "items"] 7 (spFirst K CW)) (F : FnP K "is_outcome" sOut f fd) : FnOk P w K mg base CX0 9 f fd ["wishes", "thing"] (spOut CW) := by
  refine F.ok scOut (fun vs H Q E h => ?_) (fun cdv A outer s H vs Q E hr h => ?_)
  · obtain ⟨z, ⟨wv, v, o, rows, rfl, _⟩, _⟩ := h
    rfl
  · obtain ⟨z, ⟨wv, v, o, rows, rfl, hw, hv, hs, rfl⟩, k⟩ := h
    refine ⟨_, pss_one (ps_ret (pe_and (pe_cal C hr (by rfl) (pa_cons (pv 0) (pa_cons (pv 1) pa_nil))) (pe_one (pe_cmpR op_isN (pe_cal C2 hr (by rfl) (pa_cons (pv 0) (pa_cons (pv 1) pa_nil))) pe_non (nomark _))))), ?_⟩
    refine s_ret (ev_andV (a := tkB rows o) (ev_call (ea_cons (ev_var rfl) (ea_cons (ev_var rfl) ea_nil)) (spP_v fun H1 e => ⟨wv, v, o, rows, rfl, hw.up e, hv.up e, hs, rfl⟩)) fun hb => ?_) k
    cases o with
    | none => cases hb
    | some d =>
      obtain ⟨e1, e2, e3, e4⟩ := tk_ok hb
      show Ev _ _ _ (.bl (decide (fcs rows (tkOf d) (rows.length - 1) 1 = none)))
      rw [← fcsV_none]
      exact ev_op (ev_call (ea_cons (ev_var rfl) (ea_cons (ev_var rfl) ea_nil)) (spP_v fun H1 e => ⟨wv, v, rows, tkOf d, rfl, hw.up e, dp_tk (rows := rows) (Dq.mono e hv) e1, e2, rfl⟩)) ev_c fun H1 e1 Q2 q => ⟨rfl, q H1 (Ex.refl H1)⟩
end
end Wk

set_option Elab.async false
set_option linter.all false
set_option maxRecDepth 100000
set_option maxHeartbeats 2000000
namespace Wk
open PySem PySem.Spec PyProof.Rows L2 Evl
theorem ev_atS {K : PySem.W.Frag} {σ : L2.St} {H : Hp} {ti tj : TE} {b : Addr} {xs : List V} {j : Nat} {x : V} (hi : Ev ti σ H (.ref b)) (hb : SqL K H b xs ∨ SqT K H b xs) (hj : Ev tj σ H (.int (j : Int))) (hx : xs[j]? = some x) : Ev (tOp (rIx K) ti tj) σ H x :=
  ev_op hi hj fun H1 e Q q => by
    rcases hb with z | z
    · exact .inl ⟨b, xs, (j : Int), x, rfl, rfl, ex_l e z, atI_nat hx, q H1 (Ex.refl H1)⟩
    · exact .inr (.inl ⟨b, xs, (j : Int), x, rfl, rfl, ex_t e z, atI_nat hx, q H1 (Ex.refl H1)⟩)
theorem keep1 {G H : Hp} {p q t : Addr} {xs : List V} (hP : Pl G H p q) (ht : H t = some (.tup xs)) : ∃ G', Ex G G' ∧ Pl G' H p q ∧ G' t = some (.tup xs) ∧ ∀ b, b ≠ t → G' b = G b := by
  obtain ⟨n, cs, h1, h2, _⟩ := hP.at_
  have np : t ≠ p := fun z => by rw [z, h1] at ht; cases ht
  have nq : t ≠ q := fun z => by rw [z, h2] at ht; cases ht
  cases hg : G t with
  | some o =>
    have e := hP.ex _ _ hg
    rw [ht] at e
    cases e
    exact ⟨G, Ex.refl _, hP, hg, fun _ _ => rfl⟩
  | none => exact ⟨upd G t (.tup xs), Ex.new hg, hP.hold ht np nq, upd_same, fun b hb => upd_ne hb⟩
/-- ((),) + t -/
theorem t_cat1 {K : PySem.W.Frag} {σ : L2.St} {H : Hp} {tb : TE} {b : Addr} {ws : List V} {Q : VK} (hb : Ev tb σ H (.ref b)) (hs : H b = some (.tup ws)) (hl : ws.length ≤ 1000)
    (k : ∀ e r H', Ex H H' → H e = none → H' e = some (.tup []) → H' r = some (.tup (.ref e :: ws)) → Q (.ref r) H') : tOp (rCatA K) (tTup (tCons (tTup tNil) tNil)) tb σ H Q := by
  refine ⟨by show 0 ≤ sizeLine; decide, fun e he => ⟨by show 1 ≤ sizeLine; decide, fun c hc => ?_⟩⟩
  have e1 := Ex.new (o := .tup ([] : List V)) he
  have e2 := Ex.new (o := .tup [V.ref e]) hc
  have hee : (upd (upd H e (.tup [])) c (.tup [V.ref e])) e = some (.tup []) := e2 _ _ upd_same
  refine hb _ (e1.trans e2) _ fun H3 e3 => ?_
  refine ⟨c, b, [.ref e], ws, rfl, rfl, st_of (e3 _ _ upd_same), st_of (((e1.trans e2).trans e3) _ _ hs), by rw [sizeLine_eq]; show 1 + ws.length ≤ _; omega, fun z => (by cases z), fun _ hy => ?_, fun _ _ r hr => ?_⟩
  · subst hy
    exact k e c H3 ((e1.trans e2).trans e3) he (e3 _ _ hee) (e3 _ _ upd_same)
  · exact k e r _ (((e1.trans e2).trans e3).trans (Ex.new hr)) he ((Ex.new hr) _ _ (e3 _ _ hee)) upd_same
end Wk

set_option Elab.async false
set_option linter.all false
set_option maxRecDepth 100000
set_option maxHeartbeats 4000000
namespace Wk
open PySem PySem.Spec PyProof.Rows L2 Evl
/-! what stays when only lists change -/
def Kp (H H' : Hp) : Prop := ∀ a o, H a = some o → (∀ l, o ≠ .lst l) → (∀ u l, o ≠ .frz u (.lst l)) → H' a = some o
theorem Kp.refl (H : Hp) : Kp H H := fun _ _ h _ _ => h
theorem Kp.ex {H H' : Hp} (e : Ex H H') : Kp H H' := fun a o h _ _ => e a o h
theorem Kp.trans {H H1 H2 : Hp} (a : Kp H H1) (b : Kp H1 H2) : Kp H H2 := fun x o h k1 k2 => b x o (a x o h k1 k2) k1 k2
theorem Kp.mut {H : Hp} {D : Addr} {l l' : List V} (h : H D = some (.lst l)) : Kp H (upd H D (.lst l')) := fun a o ha k1 k2 => by
  rw [upd_ne (fun z => by rw [z, h] at ha; injection ha with ha; exact k1 _ ha.symm)]
  exact ha
theorem Kp.off {p q : Addr} {H H' : Hp} {l m : List V} (hp : H p = some (.lst l)) (hq : H q = some (.lst m)) (h : Off p q H H') : Kp H H' := fun a o ha k1 k2 => h a o (fun z => by rw [z, hp] at ha; injection ha with ha; exact k1 _ ha.symm) (fun z => by rw [z, hq] at ha; injection ha with ha; exact k1 _ ha.symm) ha
theorem Kp.hd {G H : Hp} {p q : Addr} (h : Pl G H p q) : Kp H (Hd H p q) := fun a o ha k1 k2 => by
  obtain ⟨n, cs, h1, h2, _⟩ := h.at_
  unfold Hd
  rw [if_neg]
  · exact ha
  · rintro (z | z)
    · rw [z, h1] at ha; injection ha with ha; exact k1 _ ha.symm
    · rw [z, h2] at ha; injection ha with ha; exact k1 _ ha.symm
/-- a draw changes but the pool -/
theorem Kp.draw {G H H' : Hp} {p q : Addr} (h : Pl G H p q) (h' : Pl (Hd H p q) H' p q) : Kp H H' := (Kp.hd h).trans (.ex h'.ex)
theorem Kp.tup {H H' : Hp} {a : Addr} {xs : List V} (k : Kp H H') (h : H a = some (.tup xs)) : H' a = some (.tup xs) := k a _ h (fun l z => by cases z) (fun u l z => by cases z)
theorem Kp.st {K : PySem.W.Frag} {H H' : Hp} {a : Addr} {xs : List V} (k : Kp H H') (h : SqT K H a xs) : SqT K H' a xs := h.imp (fun h => h.imp (fun h => k.tup h) fun ⟨u, h⟩ => ⟨u, k a _ h (fun l z => by cases z) (fun u l z => by cases z)⟩) id
theorem Kp.odK {K : PySem.W.Frag} {H H' : Hp} {v : V} {o : Option Wy} (k : Kp H H') (h : Dp K H v (od o)) : Dp K H' v (od o) := by
  cases o with
  | none =>
    have e := dp_od_none h
    subst e
    exact .non
  | some w =>
    obtain ⟨a, rfl, ha⟩ := dp_wd h
    exact dp_of_wd (k.st ha)
theorem Kp.odsK {K : PySem.W.Frag} {H H' : Hp} (k : Kp H H') : ∀ {xs : List V} {t : List (Option Wy)}, DpAll K H xs (t.map od) → DpAll K H' xs (t.map od)
  | [], [], _ => .nil
  | [], _ :: _, h => by cases h
  | _ :: _, [], h => by cases h
  | x :: xs, o :: t, h => by
    cases h with
    | cons h1 h2 => exact .cons (k.odK h1) (k.odsK h2)
theorem Kp.ints {H H' : Hp} (k : Kp H H') {v : V} {w : Wy} (h : Dq H v (wd w)) : Dq H' v (wd w) := by
  obtain ⟨a, rfl, ha⟩ := wd_ref h
  exact wd_of (k.tup ha)
theorem Kp.wds {H H' : Hp} (k : Kp H H') : ∀ {ws : List Wy} {vs : List V}, DqA H vs (ws.map wd) → DqA H' vs (ws.map wd)
  | [], _, .nil => .nil
  | _ :: _, _, .cons a b => .cons (k.ints a) (k.wds b)
theorem Kp.rdK {H H' : Hp} (k : Kp H H') {v : V} {row : List Wy} (h : Dq H v (rd row)) : Dq H' v (rd row) := by
  unfold rd at h ⊢
  cases h with
  | tup a b => exact .tup (k.tup a) (k.wds b)
theorem Kp.rdsK {H H' : Hp} (k : Kp H H') : ∀ {rows : List (List Wy)} {vs : List V}, DqA H vs (rows.map rd) → DqA H' vs (rows.map rd)
  | [], _, .nil => .nil
  | _ :: _, _, .cons a b => .cons (k.rdK a) (k.rdsK b)
theorem Kp.pdK {H H' : Hp} (k : Kp H H') {v : V} {rows : List (List Wy)} (h : Dq H v (pd rows)) : Dq H' v (pd rows) := by
  unfold pd at h ⊢
  cases h with
  | tup a b => exact .tup (k.tup a) (k.rdsK b)
theorem WO.kp {CW : Addr} {H H' : Hp} {v : V} {rows : List (List Wy)} (h : WO CW H v rows) (k : Kp H H') : WO CW H' v rows := by
  obtain ⟨w, dx, lv, h1, h2, h3⟩ := h.ex
  exact ⟨⟨w, dx, lv, h1, k _ _ h2 (fun l z => by cases z) (fun u l z => by cases z), k.pdK h3⟩, h.g, h.n2, h.n8, h.r6⟩
/-! _law_same -/
/-- plain data: ints, texts, lists and tuples of such -/
inductive Smx : Nat → PyData → Prop
  | int (n : Nat) (i : Int) : Smx n (.int i)
  | str (n : Nat) (z : Str) : Smx n (.str z)
  | tup (n : Nat) (ds : List PyData) : (∀ d ∈ ds, Smx n d) → ds.length ≤ 1000 → Smx (n + 1) (.tuple ds)
  | lst (n : Nat) (ds : List PyData) : (∀ d ∈ ds, Smx n d) → ds.length ≤ 1000 → Smx (n + 1) (.list ds)
theorem Dp.tyX {K : PySem.W.Frag} {H : Hp} {v : V} {d : PyData} (h : Dp K H v d) : TyX K H v (.type (tyN d)) := by
  cases h with
  | non => exact .base .non
  | bl b => exact .base (.bl b)
  | int i => exact .base (.int i)
  | str x => exact .base (.str x)
  | lst s _ =>
    rcases s with (s | ⟨o, s⟩) | ⟨o, its, n, e, c, _⟩
    · exact .base (.lst s)
    · exact .base (.frz s)
    · exact .kList e c
  | tup s _ =>
    rcases s with (s | ⟨o, s⟩) | ⟨o, its, n, e, c, _⟩
    · exact .base (.tup s)
    · exact .fTuple s
    · exact .kTuple e c
section
variable {K : PySem.W.Frag} {σ : L2.St} {H : Hp} {ta : TE}
theorem ep_isi {v : V} {d : PyData} {n : String} {b : Bool} (h : Ev ta σ H v) (hd : Dp K H v d) (hk : kitB (tyN d) n = some b) : Ev (tCB (rIsi K) (tCons ta (tCons (tC (.ty n)) tNil))) σ H (.bl b) := fun H1 e Q q =>
  h H1 e _ fun H2 e2 => ⟨v, .ty n, .type (tyN d), .type n, b, rfl, .ty n, Dp.tyX (Dp.up (e.trans e2) hd), kit_ty hk, q H2 e2⟩
theorem ep_isi2 {v : V} {d : PyData} {n m : String} {b c : Bool} (h : Ev ta σ H v) (hd : Dp K H v d) (h1 : kitB (tyN d) n = some b) (h2 : kitB (tyN d) m = some c) :
    Ev (tCB (rIsiT K) (tCons ta (tCons (tTup (tCons (tC (.ty n)) (tCons (tC (.ty m)) tNil))) tNil))) σ H (.bl (b || c)) := fun H1 e Q q =>
  h H1 e _ fun H2 e2 => ⟨by show 2 ≤ sizeLine; decide, fun p hp => ⟨v, p, [.ty n, .ty m], .type (tyN d), [.type n, .type m], b || c, rfl, upd_same, .cons (.ty n) (.cons (.ty m) .nil), Dp.tyX (Dp.up ((e.trans e2).trans (Ex.new hp)) hd),
    kitAny_cons (kit_ty h1) (fun hb => kitAny_cons (kit_ty h2) (fun hc => by rw [hb, hc]; exact kitAny_nil) (fun hc => by rw [hc]; simp)) (fun hb => by rw [hb]; rfl), q _ (e2.trans (Ex.new hp))⟩⟩
theorem ev_lenS {b : Addr} {xs : List V} (hi : Ev ta σ H (.ref b)) (hb : ∀ {H1}, Ex H H1 → SqL K H1 b xs ∨ SqT K H1 b xs) : Ev (tCB (rLenS K) (tCons ta tNil)) σ H (.int (xs.length : Int)) := fun H1 e Q q =>
  hi H1 e _ fun H2 e2 => ⟨b, xs, rfl, hb (e.trans e2), q H2 e2⟩
end
theorem sq_up {K : PySem.W.Frag} {H H' : Hp} {a : Addr} {xs : List V} (e : Ex H H') (h : SqL K H a xs ∨ SqT K H a xs) : SqL K H' a xs ∨ SqT K H' a xs := by
  rcases h with h | h
  · exact .inl (h.imp (fun h => h.imp (fun h => e _ _ h) fun ⟨u, h⟩ => ⟨u, e _ _ h⟩) id)
  · exact .inr (h.imp (fun h => h.imp (fun h => e _ _ h) fun ⟨u, h⟩ => ⟨u, e _ _ h⟩) id)
theorem k_ll : kitB "list" "list" = some true := by decide +kernel
theorem k_lt : kitB "list" "tuple" = some false := by decide +kernel
section
variable {P : Program} {w : World} {K : PySem.W.Frag} {mg : Str → Option Value} {base : Heap} {f : Addr} {fd : FuncData}
abbrev spSame (K : PySem.W.Frag) (n : Nat) : Sp := spP fun H vs z => ∃ (va ve : V) (d : PyData), vs = [va, ve] ∧ Dp K H va d ∧ Dp K H ve d ∧ Smx n d ∧ z = .bl true
abbrev sSame : Stmt := top 72
abbrev nSame : List Str := ["_law_actual", "_law_expected", "_law_place"]
theorem scSame : FnScope nSame ["_law_actual", "_law_expected"] (defScope sSame) := ⟨rfl, rfl, rfl, by decide +kernel, rfl, by decide +kernel, by decide +kernel⟩
theorem ok_same (B : Bl mg) (n k' : Nat) (sp' : Sp) (hk : k' ≤ n) (C : Cal P w K mg base "_law_same" ["_law_actual", "_law_expected"] k' sp') (hC : ∀ (va ve : V) (d : PyData) (H : Hp), Dp K H va d → Dp K H ve d → (∃ m, n = m + 1 ∧ Smx m d) → SpV sp' [va, ve] H (.bl true)) (F : FnP K "_law_same" sSame f fd) : FnOk P w K mg base CX0 (n + 1) f fd ["_law_actual", "_law_expected"] (spSame K n) := by
  refine F.ok scSame (fun vs H Q E h => ?_) (fun cdv A outer s H vs Q E hr h => ?_)
  · obtain ⟨z, ⟨va, ve, d, rfl, _⟩, _⟩ := h
    rfl
  · obtain ⟨z, ⟨va, ve, d, rfl, ha, he, hs, rfl⟩, k⟩ := h
    have hr' : Room k' _ := hr.mono hk
    refine ⟨_, pss_cons (ps_if (pt_val (pe_callB call_isiT (by rfl) B.isi boot_isinstance (pa_cons (pv 1) (pa_cons (pe_tup (pa_cons (pe_bltn (v := .ty "list") (by rfl) B.list PyProof.Rows.boot_list rfl) (pa_cons (pe_bltn (v := .ty "tuple") (by rfl) B.tuple PyProof.Rows.boot_tuple rfl) pa_nil))) pa_nil))))
        (pss_cons (ps_if (PW.pt (pw_or (pt_not (pt_val (pe_callB call_isiT (by rfl) B.isi boot_isinstance (pa_cons (pv 0) (pa_cons (pe_tup (pa_cons (pe_bltn (v := .ty "list") (by rfl) B.list PyProof.Rows.boot_list rfl) (pa_cons (pe_bltn (v := .ty "tuple") (by rfl) B.tuple PyProof.Rows.boot_tuple rfl) pa_nil))) pa_nil)))))
            (pw_or1 (pt_cmpR op_ne (pe_callB call_isi (by rfl) B.isi boot_isinstance (pa_cons (pv 1) (pa_cons (pe_bltn (v := .ty "list") (by rfl) B.list PyProof.Rows.boot_list rfl) pa_nil))) (pe_callB call_isi (by rfl) B.isi boot_isinstance (pa_cons (pv 0) (pa_cons (pe_bltn (v := .ty "list") (by rfl) B.list PyProof.Rows.boot_list rfl) pa_nil))) (nomark _))))) (pss_one (ps_ret pe_bl)) pss_nil)
        (pss_cons (ps_if (pt_cmpR op_ne (pe_callB call_len_seq (by rfl) B.len PySem.boot_len (pa_cons (pv 0) pa_nil)) (pe_callB call_len_seq (by rfl) B.len PySem.boot_len (pa_cons (pv 1) pa_nil)) (nomark _)) (pss_one (ps_ret pe_bl)) pss_nil)
        (pss_cons (ps_for (passes_of rfl) rfl (pi_range1 (by rfl) B.range (pa_cons (pe_callB call_len_seq (by rfl) B.len PySem.boot_len (pa_cons (pv 1) pa_nil)) pa_nil)) (pg_name (i := 2) scSame.nd rfl (Or.inl rfl))
          (pss_one (ps_if (pt_not (pt_val (pe_cal C hr' (by rfl) (pa_cons (pe_ix ix_seq (pv 0) (pv 2) (fun _ _ => rfl)) (pa_cons (pe_ix ix_seq (pv 1) (pv 2) (fun _ _ => rfl)) pa_nil)) (Nat.le_refl _)))) (pss_one (ps_ret pe_bl)) pss_nil)))
        (pss_one (ps_ret pe_bl))))) pss_nil)
      (pss_cons (ps_if (pt_val (pe_callB call_isi (by rfl) B.isi boot_isinstance (pa_cons (pv 1) (pa_cons (pe_bltn (v := .ty "int") (by rfl) B.int PyProof.Rows.boot_int rfl) pa_nil))))
        (pss_one (ps_ret (pe_and (pe_callB call_isi (by rfl) B.isi boot_isinstance (pa_cons (pv 0) (pa_cons (pe_bltn (v := .ty "int") (by rfl) B.int PyProof.Rows.boot_int rfl) pa_nil)))
          (pe_and (pe_cmpR op_eq (pe_callB call_isi (by rfl) B.isi boot_isinstance (pa_cons (pv 0) (pa_cons (pe_bltn (v := .ty "bool") (by rfl) B.bool PyProof.Rows.boot_bool rfl) pa_nil))) (pe_callB call_isi (by rfl) B.isi boot_isinstance (pa_cons (pv 1) (pa_cons (pe_bltn (v := .ty "bool") (by rfl) B.bool PyProof.Rows.boot_bool rfl) pa_nil))) (nomark _))
            (pe_one (pe_cmpR op_eq (pv 0) (pv 1) (nomark _))))))) pss_nil)
      (pss_cons (ps_if (pt_cmp (pc_isN (pv 1))) (pss_one (ps_ret (pe_cmp (pc_isN (pv 0))))) pss_nil)
      (pss_one (ps_ret (pe_and (pe_callB call_isi (by rfl) B.isi boot_isinstance (pa_cons (pv 0) (pa_cons (pe_bltn (v := .ty "str") (by rfl) B.str PyProof.Rows.boot_str rfl) pa_nil))) (pe_one (pe_cmpR op_eq (pv 0) (pv 1) (nomark _)))))))), ?_⟩
    have v0 : ∀ {H1 : Hp} {o : Option V}, Ev (tVar 0) [some va, some ve, o] H1 va := ev_var rfl
    have v1 : ∀ {H1 : Hp} {o : Option V}, Ev (tVar 1) [some va, some ve, o] H1 ve := ev_var rfl
    have hcase : (∃ i, d = .int i) ∨ (∃ z, d = .str z) ∨ ∃ (bl bt : Bool) (aa ab : Addr) (xs ys : List V) (ds : List PyData), va = .ref aa ∧ ve = .ref ab ∧ kitB (tyN d) "list" = some bl ∧ kitB (tyN d) "tuple" = some bt ∧ (bl || bt) = true ∧ (SqL K H aa xs ∨ SqT K H aa xs) ∧ (SqL K H ab ys ∨ SqT K H ab ys) ∧ DpAll K H xs ds ∧ DpAll K H ys ds ∧
        (∃ m, n = m + 1 ∧ ∀ d ∈ ds, Smx m d) ∧ ds.length ≤ 1000 := by
      cases hs with
      | int _ i => exact .inl ⟨_, rfl⟩
      | str _ z => exact .inr (.inl ⟨_, rfl⟩)
      | tup m ds h1 h2 =>
        cases ha with
        | tup a1 a2 =>
          cases he with
          | tup e1 e2 => exact .inr (.inr ⟨false, true, _, _, _, _, ds, rfl, rfl, k_tl, k_tt, rfl, .inr a1, .inr e1, a2, e2, ⟨m, rfl, h1⟩, h2⟩)
      | lst m ds h1 h2 =>
        cases ha with
        | lst a1 a2 =>
          cases he with
          | lst e1 e2 => exact .inr (.inr ⟨true, false, _, _, _, _, ds, rfl, rfl, k_ll, k_lt, rfl, .inl a1, .inl e1, a2, e2, ⟨m, rfl, h1⟩, h2⟩)
    rcases hcase with ⟨i, rfl⟩ | ⟨z, rfl⟩ | ⟨bl, bt, aa, ab, xs, ys, ds, rfl, rfl, kl, kt, hor, sa, se, da, de, ⟨m, rfl, hds⟩, hl⟩
    · have ea := ha
      have ee := he
      cases ha
      cases he
      refine q_when (b := false || false) (et_B (ep_isi2 v1 ee k_il k_it)) (fun hb => by cases hb) (fun _ H1 e1 => ?_)
      refine q_when (b := true) (et_B (ep_isi v1 (Dp.up e1 ee) k_ii)) (fun _ H2 e2 => ?_) (fun hb => by cases hb)
      have ea2 := Dp.up (e1.trans e2) ea
      have ee2 := Dp.up (e1.trans e2) ee
      refine s_ret (ev_is (ev_andV (ep_isi v0 ea2 k_ii) fun _ => ev_andV (ev_op (ep_isi v0 ea2 k_ib) (ep_isi v1 ee2 k_ib) (rv_eq rfl)) fun _ => ev_op v0 v1 (rv_eq rfl)) (by simp)) fun H3 e3 => k _ ((e1.trans e2).trans e3)
    · have ea := ha
      have ee := he
      cases ha
      cases he
      refine q_when (b := false || false) (et_B (ep_isi2 v1 ee k_sl k_st)) (fun hb => by cases hb) (fun _ H1 e1 => ?_)
      refine q_when (b := false) (et_B (ep_isi v1 (Dp.up e1 ee) k_si)) (fun hb => by cases hb) (fun _ H2 e2 => ?_)
      refine q_when (b := false) (et_B (fun H3 e3 Q2 q => v1 H3 (Ex.refl H3) _ fun H4 e4 => q H4 e4)) (fun hb => by cases hb) (fun _ H3 e3 => ?_)
      have ea2 := Dp.up ((e1.trans e2).trans e3) ea
      refine s_ret (ev_is (ev_andV (ep_isi v0 ea2 k_ss) fun _ => ev_op v0 v1 (rv_eq rfl)) (by simp)) fun H4 e4 => k _ (((e1.trans e2).trans e3).trans e4)
    · have l1 := dpa_len da
      have l2 := dpa_len de
      refine q_when (b := bl || bt) (et_B (ep_isi2 v1 he kl kt)) (fun _ H1 e1 => ?_) (fun hb => by rw [hor] at hb; cases hb)
      have ea1 := Dp.up e1 ha
      have ee1 := Dp.up e1 he
      refine q_when (b := !(bl || bt) || !decide (V.bl bl = V.bl bl)) (et_or (et_not (et_B (ep_isi2 v0 ea1 kl kt))) fun _ => et_test (ev_op (ep_isi v1 ee1 kl) (ep_isi v0 ea1 kl) (rv_ne rfl))) (fun hb => by rw [hor] at hb; simp at hb) (fun _ H2 e2 => ?_)
      have e12 := e1.trans e2
      have hn1 := ev_lenS (K := K) (v0 (H1 := H2) (o := none)) (fun {H3} e3 => sq_up (e12.trans e3) sa)
      have hn2 := ev_lenS (K := K) (v1 (H1 := H2) (o := none)) (fun {H3} e3 => sq_up (e12.trans e3) se)
      rw [l1] at hn1
      rw [l2] at hn2
      refine q_when (b := !decide (V.int (ds.length : Int) = V.int (ds.length : Int))) (et_test (ev_op hn1 hn2 (rv_ne rfl))) (fun hb => by simp at hb) (fun _ H3 e3 => ?_)
      have e13 := e12.trans e3
      have hn3 := ev_lenS (K := K) (v1 (H1 := H3) (o := none)) (fun {H4} e4 => sq_up (e13.trans e4) se)
      rw [l2] at hn3
      refine q_forR1 (ea_cons hn3 ea_nil) (by omega) (fun i σ' H' => Ex H H' ∧ ∃ o, σ' = [some (.ref aa), some (.ref ab), o]) (fun H4 e4 => ⟨e13.trans e4, _, rfl⟩) ?_ ?_
      · rintro i σ' H4 hi ⟨e4, o, rfl⟩
        change tIfS _ _ _ _ [some (.ref aa), some (.ref ab), some (.int (i : Int))] _
        have hdi : ds[i]? = some ds[i] := List.getElem?_eq_getElem (by omega)
        obtain ⟨x, hx, hdx⟩ := dpa_at da hdi
        obtain ⟨y, hy, hdy⟩ := dpa_at de hdi
        refine s_when (b := !true) (et_not (et_B (ev_call (ea_cons (ev_atS (ev_var rfl) (sq_up e4 sa) (ev_var rfl) hx) (ea_cons (ev_atS (ev_var rfl) (sq_up e4 se) (ev_var rfl) hy) ea_nil)) (hC x y ds[i] H4 (Dp.up e4 hdx) (Dp.up e4 hdy) ⟨_, rfl, hds _ (List.mem_of_getElem? hdi)⟩)))) (fun hb => by simp at hb) (fun _ H5 e5 => ⟨e4.trans e5, _, rfl⟩)
      · rintro σ' H4 ⟨e4, o, rfl⟩
        exact s_ret ev_c fun H5 e5 => k _ (e4.trans e5)
/-- each depth, one after another -/
theorem same_all (B : Bl mg) (F : FnP K "_law_same" sSame f fd) (hg : mg "_law_same" = some (.ref f)) : ∀ n, FnOk P w K mg base CX0 (n + 1) f fd ["_law_actual", "_law_expected"] (spSame K n)
  | 0 => ok_same B 0 0 (fun _ _ _ _ => False) (Nat.le_refl _) ⟨⟨f, fd, ⟨fun _ _ _ _ h => h.elim, fun _ _ _ _ _ _ _ _ _ _ _ _ _ h => h.elim⟩, hg, F.kp, F.bindsN fun _ _ _ _ _ _ us hl => match us, hl with | [_, _], _ => rfl⟩⟩ (fun _ _ _ _ _ _ ⟨m, e, _⟩ => by cases e) F
  | n + 1 => ok_same B (n + 1) (n + 1) (spSame K n) (Nat.le_refl _) ⟨⟨f, fd, same_all B F hg n, hg, F.kp, F.bindsN fun _ _ _ _ _ _ us hl => match us, hl with | [_, _], _ => rfl⟩⟩ (fun va ve d H h1 h2 ⟨m, e, hs⟩ => by
      cases e
      exact spP_v fun H1 e1 => ⟨va, ve, d, rfl, Dp.up e1 h1, Dp.up e1 h2, hs, rfl⟩) F
end
end Wk

set_option Elab.async false
set_option linter.all false
set_option maxRecDepth 100000
set_option maxHeartbeats 2000000
namespace Wk
open PySem PySem.Spec PyProof.Rows L2 Evl
/-! orders -/
structure StO {α : Type} (lt : α → α → Bool) : Prop where
  irr : ∀ x, lt x x = false
  tr : ∀ x y z, lt x y = true → lt y z = true → lt x z = true
  tri : ∀ x y, x ≠ y → lt x y = true ∨ lt y x = true
theorem StO.asym {α : Type} {lt : α → α → Bool} (h : StO lt) {x y : α} (a : lt x y = true) : lt y x = false := by
  cases b : lt y x with
  | false => rfl
  | true => rw [← h.irr x, h.tr _ _ _ a b]
def lexG {α : Type} [DecidableEq α] (lt : α → α → Bool) : List α → List α → Bool
  | [], [] => false
  | [], _ :: _ => true
  | _ :: _, [] => false
  | x :: xs, y :: ys => if x = y then lexG lt xs ys else lt x y
theorem lexG_sto {α : Type} [DecidableEq α] {lt : α → α → Bool} (h : StO lt) : StO (lexG lt) := by
  refine ⟨fun xs => ?_, ?_, ?_⟩
  · induction xs with
    | nil => rfl
    | cons x xs ih => show (if x = x then lexG lt xs xs else _) = false; rw [if_pos rfl]; exact ih
  · intro xs
    induction xs with
    | nil =>
      intro ys zs h1 h2
      cases zs with
      | nil => cases ys <;> cases h2
      | cons z zs => rfl
    | cons x xs ih =>
      intro ys zs h1 h2
      cases ys with
      | nil => cases h1
      | cons y ys =>
        cases zs with
        | nil => cases h2
        | cons z zs =>
          have h1' : (if x = y then lexG lt xs ys else lt x y) = true := h1
          have h2' : (if y = z then lexG lt ys zs else lt y z) = true := h2
          show (if x = z then lexG lt xs zs else lt x z) = true
          by_cases c1 : x = y
          · subst c1
            rw [if_pos rfl] at h1'
            by_cases c2 : x = z
            · rw [if_pos c2] at h2' ⊢
              exact ih _ _ h1' h2'
            · rw [if_neg c2] at h2' ⊢
              exact h2'
          · rw [if_neg c1] at h1'
            by_cases c2 : y = z
            · subst c2
              rw [if_neg c1]
              exact h1'
            · rw [if_neg c2] at h2'
              by_cases c3 : x = z
              · subst c3
                rw [h.asym h1'] at h2'
                cases h2'
              · rw [if_neg c3]
                exact h.tr _ _ _ h1' h2'
  · intro xs
    induction xs with
    | nil =>
      intro ys hn
      cases ys with
      | nil => exact absurd rfl hn
      | cons y ys => exact .inl rfl
    | cons x xs ih =>
      intro ys hn
      cases ys with
      | nil => exact .inr rfl
      | cons y ys =>
        show (if x = y then lexG lt xs ys else lt x y) = true ∨ (if y = x then lexG lt ys xs else lt y x) = true
        by_cases c : x = y
        · subst c
          rw [if_pos rfl, if_pos rfl]
          exact ih ys fun z => hn (by rw [z])
        · rw [if_neg c, if_neg fun z => c z.symm]
          exact h.tri x y c
theorem sto_int : StO (fun a b : Int => decide (a < b)) := ⟨fun x => decide_eq_false (by omega), fun x y z h1 h2 => decide_eq_true (by have := of_decide_eq_true h1; have := of_decide_eq_true h2; omega), fun x y h => by
  rcases Int.lt_or_gt_of_ne h with c | c
  · exact .inl (decide_eq_true c)
  · exact .inr (decide_eq_true c)⟩
theorem lexG_int : ∀ xs ys : List Int, HT.lexLt xs ys = lexG (fun a b : Int => decide (a < b)) xs ys
  | [], [] => rfl
  | [], _ :: _ => rfl
  | _ :: _, [] => rfl
  | x :: xs, y :: ys => by
    show (if x = y then HT.lexLt xs ys else decide (x < y)) = (if x = y then lexG _ xs ys else decide (x < y))
    rw [lexG_int xs ys]
/-- ways, takings by their ways -/
abbrev ltW : Wy → Wy → Bool := HT.lexLt
abbrev ltT : List Wy → List Wy → Bool := lexG ltW
theorem sto_W : StO ltW := by
  have e : ltW = lexG (fun a b : Int => decide (a < b)) := by funext x y; exact lexG_int x y
  rw [e]
  exact lexG_sto sto_int
theorem sto_T : StO ltT := lexG_sto sto_W
/-- ascending -/
abbrev Asc {α : Type} (lt : α → α → Bool) (l : List α) : Prop := l.Pairwise fun x y => lt x y = true
theorem asc_nd {α : Type} {lt : α → α → Bool} (h : StO lt) {l : List α} (a : Asc lt l) : l.Nodup := a.imp fun {x y} q z => by
  rw [z, h.irr] at q
  cases q
theorem asc_ext {α : Type} {lt : α → α → Bool} (h : StO lt) : ∀ {l m : List α}, Asc lt l → Asc lt m → (∀ x, x ∈ l ↔ x ∈ m) → l = m
  | [], [], _, _, _ => rfl
  | [], y :: m, _, _, e => absurd ((e y).mpr List.mem_cons_self) (by simp)
  | x :: l, [], _, _, e => absurd ((e x).mp List.mem_cons_self) (by simp)
  | x :: l, y :: m, a, b, e => by
    obtain ⟨a1, a2⟩ := List.pairwise_cons.mp a
    obtain ⟨b1, b2⟩ := List.pairwise_cons.mp b
    have exy : x = y := by
      rcases List.mem_cons.mp ((e x).mp List.mem_cons_self) with z | z
      · exact z
      rcases List.mem_cons.mp ((e y).mpr List.mem_cons_self) with z2 | z2
      · exact z2.symm
      have q1 := b1 x z
      have q2 := a1 y z2
      rw [h.asym q1] at q2
      cases q2
    subst exy
    congr 1
    refine asc_ext h a2 b2 fun z => ?_
    have q := e z
    rw [List.mem_cons, List.mem_cons] at q
    constructor
    · intro hz
      rcases q.mp (.inr hz) with c | c
      · subst c
        have := a1 z hz
        rw [h.irr] at this
        cases this
      · exact c
    · intro hz
      rcases q.mpr (.inr hz) with c | c
      · subst c
        have := b1 z hz
        rw [h.irr] at this
        cases this
      · exact c
/-- sorted and unlike is ascending -/
theorem asc_of {α : Type} {lt : α → α → Bool} (h : StO lt) : ∀ {l : List α}, l.Pairwise (fun x y => lt y x = false) → l.Nodup → Asc lt l
  | [], _, _ => .nil
  | x :: l, a, n => by
    obtain ⟨a1, a2⟩ := List.pairwise_cons.mp a
    obtain ⟨n1, n2⟩ := List.nodup_cons.mp n
    refine List.pairwise_cons.mpr ⟨fun y hy => ?_, asc_of h a2 n2⟩
    rcases h.tri x y (fun z => n1 (by rw [z]; exact hy)) with c | c
    · exact c
    · rw [a1 y hy] at c
      cases c
/-! the data's order is this one -/
theorem lt_wd (x y : Wy) : PySem.W.dataLt (wd x) (wd y) = ltW x y := by
  have e : ∀ xs ys : List Int, decide (xs < ys) = HT.lexLt xs ys := by
    intro xs
    induction xs with
    | nil =>
      intro ys
      cases ys with
      | nil => simp [HT.lexLt]
      | cons y ys => simp [HT.lexLt]
    | cons x xs ih =>
      intro ys
      cases ys with
      | nil => simp [HT.lexLt]
      | cons y ys =>
        rw [HT.lexLt_cons, ← ih ys]
        by_cases c : x = y
        · subst c
          rw [if_pos rfl]
          simp [List.cons_lt_cons_iff]
        · rw [if_neg c]
          simp [List.cons_lt_cons_iff, c]
  show PySem.W.dataLt (.tuple (x.map PyData.int)) (.tuple (y.map PyData.int)) = HT.lexLt x y
  rw [← e, ← PySem.W.dataLt_ints, PySem.W.dataLt_tuple]
  rfl
theorem alike_ints (x y : Wy) : PySem.W.alike (wd x) (wd y) = true := by
  show PySem.W.alikeAll (x.map PyData.int) (y.map PyData.int) = true
  exact PySem.W.alike_ints x y
def tkd (t : List Wy) : PyData := .tuple (t.map wd)
theorem alike_tk : ∀ x y : List Wy, PySem.W.alike (tkd x) (tkd y) = true
  | [], _ => by simp [tkd, PySem.W.alike, PySem.W.alikeAll]
  | x :: xs, [] => by simp [tkd, PySem.W.alike, PySem.W.alikeAll]
  | x :: xs, y :: ys => by
    have h := alike_tk xs ys
    simp only [tkd, PySem.W.alike] at h
    simp only [tkd, List.map_cons, PySem.W.alike, PySem.W.alikeAll]
    rw [alike_ints, h]
    rfl
theorem lt_tk : ∀ x y : List Wy, PySem.W.rowLt (x.map wd) (y.map wd) = ltT x y
  | [], [] => by show PyProof.Rows.lexLt _ _ _ = false; exact lex_irrefl _
  | [], y :: ys => by
    unfold PySem.W.rowLt
    rfl
  | x :: xs, [] => by
    unfold PySem.W.rowLt
    rfl
  | x :: xs, y :: ys => by
    unfold PySem.W.rowLt
    rw [List.map_cons, List.map_cons, PySem.W.dataLt_cons (alike_ints x y), eqv_wd, lt_wd]
    show (if decide (x = y) = true then PySem.W.rowLt (xs.map wd) (ys.map wd) else ltW x y) = (if x = y then ltT xs ys else ltW x y)
    rw [lt_tk xs ys]
    by_cases c : x = y
    · rw [if_pos c, if_pos (decide_eq_true c)]
    · rw [if_neg c, if_neg (by rw [decide_eq_false c]; decide)]
end Wk

set_option Elab.async false
set_option linter.all false
set_option maxRecDepth 100000
set_option maxHeartbeats 4000000
/-! sorted of tuples of whole numbers of any lengths, one of them empty -/
namespace SrtI
open PySem PySem.Spec PyProof.Rows L2 SrtO
def IsTI (h : Heap) (v : Value) (ns : List Int) : Prop := ∃ a its, v = .ref a ∧ h.IsTuple a its ∧ IntsAre its.toList ns
theorem IsTI.uniq {h : Heap} {v : Value} {ns ms : List Int} (a : IsTI h v ns) (b : IsTI h v ms) : ns = ms := by
  obtain ⟨x, its, rfl, ⟨o, ho, hc, n, hd⟩, i1⟩ := a
  obtain ⟨y, its2, e, ⟨o2, ho2, hc2, n2, hd2⟩, i2⟩ := b
  cases e
  rw [ho] at ho2
  cases ho2
  rw [hd] at hd2
  cases hd2
  have key : ∀ {vs : List Value} {ns ms : List Int}, IntsAre vs ns → IntsAre vs ms → ns = ms := by
    intro vs
    induction vs with
    | nil => intro ns ms h1 h2; cases h1; cases h2; rfl
    | cons v vs ih =>
      intro ns ms h1 h2
      cases h1 with
      | cons n t h1 =>
        cases h2 with
        | cons m u h2 => rw [ih h1 h2]
  exact key i1 i2
theorem IsTI.keeps {h h' : Heap} {v : Value} {ns : List Int} (p : IsTI h v ns) (k : ∀ b o, h.get? b = some o → o.cls = .type "tuple" → h'.get? b = some o) : IsTI h' v ns := by
  obtain ⟨a, its, e, ⟨o, ho, hc, n, hd⟩, i⟩ := p
  exact ⟨a, its, e, ⟨o, k _ _ ho hc, hc, n, hd⟩, i⟩
open Classical in
noncomputable def kOf (h : Heap) (v : Value) : List Int := if q : ∃ ns, IsTI h v ns then q.choose else []
theorem kOf_is {h : Heap} {v : Value} {ns : List Int} (p : IsTI h v ns) : kOf h v = ns := by
  have q : ∃ ns, IsTI h v ns := ⟨ns, p⟩
  unfold kOf
  rw [dif_pos q]
  exact q.choose_spec.uniq p
section
variable {prog : Program} {w : World} {A : Around} {E : Value → Shared → Prop} {s : Shared}
theorem ti_first {v : Value} {ns : List Int} (p : IsTI s.heap v ns) : ∃ (f : Option Value), (f.isSome = !ns.isEmpty) ∧ ∀ (Q : Option Value → Shared → Prop) (E : Value → Shared → Prop), Q f s → wpAny (model prog w) A (firstOfTuple' v) Q E s := by
  obtain ⟨a, its, rfl, ⟨o, ho, hc, n, hd⟩, i⟩ := p
  refine ⟨its[0]?, ?_, fun Q E hq => ?_⟩
  · have hl := i.length
    rw [Array.length_toList] at hl
    cases ns with
    | nil =>
      have : its.size = 0 := by simpa using hl
      rw [Array.getElem?_eq_none (by omega)]
      rfl
    | cons x ns =>
      have : its.size = ns.length + 1 := by simpa using hl
      rw [Array.getElem?_eq_getElem (by omega)]
      rfl
  · rw [PySem.W.kas_first_eq]
    refine wpAny_bind (PySem.W.Looks.here (show PySem.W.Looks (model prog w) s.heap (typeOf (.ref a)) o.cls from (PySem.W.Looks.ld ho).andThen .now) ?_)
    rw [hc, if_neg (by first | decide | simp)]
    exact wpAny_bind (listItems_at ho hd (wpAny_pure hq))
theorem ti_firsts : ∀ (vs : List Value) (k : Value → List Int), (∀ v ∈ vs, IsTI s.heap v (k v)) → ∃ fs : List (Option Value), fs.map (·.isSome) = vs.map (fun v => !(k v).isEmpty) ∧ ∀ (Q : List (Option Value) → Shared → Prop) (E : Value → Shared → Prop), Q fs s → wpAny (model prog w) A (vs.mapM firstOfTuple') Q E s
  | [], _, _ => ⟨[], rfl, fun Q E hq => by rw [List.mapM_nil]; exact wpAny_pure hq⟩
  | v :: vs, k, h => by
    obtain ⟨f, hf, pf⟩ := ti_first (prog := prog) (w := w) (A := A) (h v List.mem_cons_self)
    obtain ⟨fs, hfs, pfs⟩ := ti_firsts vs k fun x hx => h x (List.mem_cons_of_mem _ hx)
    refine ⟨f :: fs, by rw [List.map_cons, List.map_cons, hf, hfs], fun Q E hq => ?_⟩
    rw [List.mapM_cons]
    exact wpAny_bind (pf _ _ (wpAny_bind (pfs _ _ (wpAny_pure hq))))
theorem ti_kind {vs : List Value} {k : Value → List Int} {v0 : Value} {vr : List Value} (e : vs = v0 :: vr) (h : ∀ v ∈ vs, IsTI s.heap v (k v)) (h0 : k v0 ≠ []) (he : ∃ v ∈ vr, k v = []) {Q : SortKind → Shared → Prop} (hq : Q general' s) : wpAny (model prog w) A (keyKind' vs.toArray) Q E s := by
  obtain ⟨fs, hfs, pfs⟩ := ti_firsts (prog := prog) (w := w) (A := A) vs k h
  rw [PyProof.Rows.kat_kind_eq, List.mapM_toArray, map_eq_pure_bind]
  refine wpAny_bind (wpAny_bind (pfs _ _ (wpAny_pure ?_)))
  have hall : ¬ (fs.toArray.all fun x => x.isSome) = true := by
    intro z
    obtain ⟨v, hv, hk⟩ := he
    have hm : false ∈ fs.map (·.isSome) := by
      rw [hfs]
      exact List.mem_map.mpr ⟨v, by rw [e]; exact List.mem_cons_of_mem _ hv, by rw [hk]; rfl⟩
    obtain ⟨f, hf, hf2⟩ := List.mem_map.mp hm
    have := List.all_eq_true.mp (by simpa using z) f hf
    rw [hf2] at this
    cases this
  rw [if_neg hall]
  have hfirst : ((fs.toArray[0]?).bind id).isSome = true := by
    subst e
    cases fs with
    | nil => simp at hfs
    | cons f fs =>
      have hf : f.isSome = !(k v0).isEmpty := by
        have := congrArg List.head? hfs
        simpa using this
      have : (k v0).isEmpty = false := by
        cases hk : k v0 with
        | nil => exact absurd hk h0
        | cons _ _ => rfl
      rw [this] at hf
      show ((some f).bind id).isSome = true
      exact hf
  rw [if_pos hfirst]
  exact wpAny_pure hq
theorem ti_cmp {vs : List Value} {k : Value → List Int} (hu : A.units < cLine) (h : ∀ v ∈ vs, IsTI s.heap v (k v)) : Cmp prog w A s general' (fun p => p.1 ∈ vs) (lt2 fun v u => HT.lexLt (k v) (k u)) := by
  intro p q hp hq
  obtain ⟨a, its, ea, ta, ia⟩ := h _ hp
  obtain ⟨b, jts, eb, tb, ib⟩ := h _ hq
  show wpAny (model prog w) A (oneLt' false p.1 q.1) (fun r s' => s' = s ∧ r = HT.lexLt (k p.1) (k q.1)) (fun _ _ => False) s
  generalize k p.1 = ns at *
  generalize k q.1 = ms at *
  rw [ea, eb]
  refine PySem.W.kat_one (Q := fun r s' => s' = s ∧ r = HT.lexLt ns ms) _ _ ?_
  refine HT.lt_tupInts (Q := PySem.W.BoolBack fun r s' => s' = s ∧ r = HT.lexLt ns ms) ta tb ia ib hu ?_
  show s = s ∧ HT.lexLt ns ms = HT.lexLt ns ms
  exact ⟨rfl, rfl⟩
theorem ti_sortable {a : Addr} {vs : List Value} {k : Value → List Int} (hu : A.units < cLine) (h : ∀ v ∈ vs, IsTI s.heap v (k v)) (hc : ∃ v0 vr, vs = v0 :: vr ∧ k v0 ≠ [] ∧ ∃ v ∈ vr, k v = []) (ha : ∀ o, s.heap.get? a = some o → o.cls ≠ .type "tuple") : SortableO prog w A s a vs fun v u => HT.lexLt (k v) (k u) := by
  intro h' keep
  have hp' : ∀ v ∈ vs, IsTI h' v (k v) := fun v hm => (h v hm).keeps fun b o e c => keep b o (fun z => by subst z; exact ha o e c) e
  obtain ⟨v0, vr, e, h0, he⟩ := hc
  exact ⟨general', fun Q E hq => ti_kind (s := { s with heap := h' }) e hp' h0 he hq, ti_cmp hu hp'⟩
theorem sorted_ti {l : Addr} {vs : List Value} {k : Value → List Int} {Q : Value → Shared → Prop} (hl : s.heap.IsList l vs.toArray) (hz : vs.length ≤ sizeLine) (hu : A.units + 8 < cLine) (hp : ∀ v ∈ vs, IsTI s.heap v (k v)) (hc : 2 ≤ vs.length → ∃ v0 vr, vs = v0 :: vr ∧ k v0 ≠ [] ∧ ∃ v ∈ vr, k v = [])
    (h : ∀ (h' : Heap) (d : Addr) (out : List Value), Srtd (fun v u => HT.lexLt (k v) (k u)) out → Stb (fun v u => HT.lexLt (k v) (k u)) out vs → (∀ b o, s.heap.get? b = some o → h'.get? b = some o) → s.heap.objs.size ≤ d → (∃ n, h'.get? d = some (seqObj "list" out.toArray n)) → Q (.ref d) { s with heap := h' }) :
    wpAny (model prog w) A (call (.builtin "sorted") [.ref l]) Q E s := by
  refine sorted_ord (NtL.swo_lexL k) hl hz (fun h2 h₁ a ha kk => ?_) fun out hs hb => ?_
  · refine ti_sortable (s := { s with heap := h₁ }) (by show A.units + 1 + 1 < cLine; omega) (fun v hm => (hp v hm).keeps fun b o e _ => (kk b o e).2) (hc h2) fun o e => ?_
    have e' : some o = some (seqObj "list" vs.toArray 0) := e.symm.trans ha
    cases e'
    intro c
    exact absurd (Value.type.inj c) (by decide)
  · exact h _ _ out hs hb (fun b o e => sortedAll_old e) (Nat.le_succ _) (sortedAll_at s.heap vs out.toArray)
end
end SrtI
namespace Wk
open PySem PySem.Spec PyProof.Rows L2 Evl SrtI
theorem dpa_get {K : PySem.W.Frag} {H : Hp} {α : Type} {enc : α → PyData} : ∀ {xs : List V} {ws : List α}, DpAll K H xs (ws.map enc) → ∀ {i : Nat} {x : V}, xs[i]? = some x → ∃ w, ws[i]? = some w ∧ Dp K H x (enc w)
  | [], _, _, i, x, e => by simp at e
  | x :: xs, [], h, _, _, _ => by cases h
  | x :: xs, w :: ws, h, i, y, e => by
    cases h with
    | cons h1 h2 =>
      cases i with
      | zero =>
        simp at e
        subst e
        exact ⟨w, rfl, h1⟩
      | succ i => exact dpa_get h2 (by simpa using e)
theorem dpa_of {K : PySem.W.Frag} {H : Hp} {α β : Type} {enc : α → PyData} {g : β → V} {k : β → α} : ∀ {l : List β}, (∀ u ∈ l, Dp K H (g u) (enc (k u))) → DpAll K H (l.map g) ((l.map k).map enc)
  | [], _ => .nil
  | u :: l, h => .cons (h u List.mem_cons_self) (dpa_of fun x hx => h x (List.mem_cons_of_mem _ hx))
def rSortW (K : PySem.W.Frag) : List V → Hp → VK → Prop := fun vs H Q => ∃ (l : Addr) (xs : List V) (ws : List Wy), vs = [V.ref l] ∧ SqL K H l xs ∧ DpAll K H xs (ws.map wd) ∧ ws.Nodup ∧ (2 ≤ ws.length → ∃ w rest, ws = w :: rest ∧ w ≠ [] ∧ [] ∈ rest) ∧
  ∀ ys ws' p, Asc ltW ws' → ws'.Perm ws → DpAll K H ys (ws'.map wd) → H p = none → Q (.ref p) (upd H p (.lst ys))
theorem cr_sortW {X : Cx} {K : PySem.W.Frag} (hK : X.K = K) (hu : X.A.units + 8 < cLine) : CallR X (.builtin "sorted") (rSortW K) := by
  subst hK
  intro pins s σ H vs us Q I r h
  obtain ⟨a, xs, ws, rfl, hs, hd, nd, hc, q⟩ := h
  obtain ⟨its, rv, hl, hz⟩ := I.list hs
  obtain ⟨u, rfl, ru⟩ := vals1 r
  obtain rfl : u = Value.ref a := ru
  have hxl : xs.length = ws.length := by have := dpa_len hd; rw [List.length_map] at this; exact this
  obtain ⟨e1, e2⟩ := refs_back rv fun x m => by
    obtain ⟨i, hi⟩ := List.getElem?_of_mem m
    obtain ⟨w, _, hw⟩ := dpa_get hd hi
    obtain ⟨t, e, _⟩ := dp_wd hw
    exact ⟨t, e⟩
  -- each value is a tuple of its way
  have hat : ∀ (i : Nat) (v : Value), its[i]? = some v → ∃ w, ws[i]? = some w ∧ Dp X.K H (backV v) (wd w) ∧ IsTI s.heap v w := fun i v hv => by
    have hx : xs[i]? = some (backV v) := by rw [e1, List.getElem?_map, hv]; rfl
    obtain ⟨w, h1, h2⟩ := dpa_get hd hx
    obtain ⟨t, e, ht⟩ := dp_wd h2
    obtain ⟨t', rfl⟩ := e2 v (List.mem_of_getElem? hv)
    have e' : t' = t := by injection e
    subst e'
    obtain ⟨jts, r2, ht2, _⟩ := I.tuple ht
    exact ⟨w, h1, h2, t', jts.toArray, rfl, ht2, by simpa using Vals.ints r2⟩
  have hk : its.map (kOf s.heap) = ws := by
    apply List.ext_getElem?
    intro i
    rw [List.getElem?_map]
    cases hv : its[i]? with
    | none =>
      have h1 := List.getElem?_eq_none_iff.mp hv
      have h2 := rv.length
      rw [List.getElem?_eq_none (by omega)]
      rfl
    | some v =>
      obtain ⟨w, h1, _, h3⟩ := hat i v hv
      rw [h1]
      show some (kOf s.heap v) = some w
      rw [kOf_is h3]
  have hin : ∀ v ∈ its, IsTI s.heap v (kOf s.heap v) ∧ Dp X.K H (backV v) (wd (kOf s.heap v)) := fun v hv => by
    obtain ⟨i, hi⟩ := List.getElem?_of_mem hv
    obtain ⟨w, _, h2, h3⟩ := hat i v hi
    rw [kOf_is h3]
    exact ⟨h3, h2⟩
  refine sorted_ti (k := kOf s.heap) hl.isList (by rw [← rv.length]; exact hz) hu (fun v hv => (hin v hv).1) (fun h2 => ?_) fun h' d out h1 h2 kp hd' hn => ?_
  · have hil : its.length = ws.length := by rw [← rv.length]; exact hxl
    obtain ⟨w, rest, ew, hw, hr⟩ := hc (by omega)
    rw [← hk] at ew
    cases its with
    | nil => cases ew
    | cons v0 vr =>
      rw [List.map_cons] at ew
      injection ew with ew1 ew2
      rw [← ew2] at hr
      obtain ⟨v, hv, hkv⟩ := List.mem_map.mp hr
      exact ⟨v0, vr, rfl, by rw [ew1]; exact hw, v, hv, hkv⟩
  · have hperm := h2.perm
    have hm : ∀ u ∈ out, u ∈ its := fun u hu => hperm.mem_iff.mp hu
    have h3 : ∀ u ∈ out, ∃ a, u = Value.ref a := fun u hu => e2 u (hm u hu)
    obtain ⟨n, hn⟩ := hn
    have hp2 : (out.map (kOf s.heap)).Perm ws := by rw [← hk]; exact hperm.map _
    refine ⟨.ref d, upd H d (.lst (out.map backV)), I.laid (t' := s.toks) kp hd' ⟨?_, out, n, vals_back h3, hn⟩, rfl, q (out.map backV) (out.map (kOf s.heap)) d ?_ hp2 (dpa_of fun u hu => (hin u (hm u hu)).2) (I.hok.fresh hd')⟩
    · rw [List.length_map, hperm.length_eq, ← rv.length]
      exact hz
    · exact asc_of sto_W (List.pairwise_map.mpr h1) (hp2.nodup_iff.mpr nd)
end Wk

set_option Elab.async false
set_option linter.all false
set_option maxRecDepth 100000
set_option maxHeartbeats 4000000
namespace Wk
open PySem PySem.Spec PyProof.Rows L2 Evl
/-! sorted of takings -/
def rSortT (K : PySem.W.Frag) : List V → Hp → VK → Prop := fun vs H Q => ∃ (l : Addr) (xs : List V) (ts : List (List Wy)), vs = [V.ref l] ∧ SqL K H l xs ∧ DpAll K H xs (ts.map tkd) ∧ ts.Nodup ∧ (∀ t ∈ ts, t ≠ []) ∧
  ∀ ys ts' p, Asc ltT ts' → ts'.Perm ts → DpAll K H ys (ts'.map tkd) → H p = none → Q (.ref p) (upd H p (.lst ys))
theorem each_vals {xs : List V} {us : List Value} (rv : Vals xs us) : PySem.W.EachIs (fun (v : Value) (x : V) => RelV x v) us xs := by
  induction rv with
  | nil => exact .nil
  | cons r t ih => exact .cons r ih
theorem vals_each {ps : List (V × List Wy)} {us : List Value} (h : PySem.W.EachIs (fun (v : Value) (p : V × List Wy) => RelV p.1 v) us ps) : Vals (ps.map (·.1)) us := by
  induction h with
  | nil => exact .nil
  | cons r t ih => exact .cons r ih
theorem each_zip {K : PySem.W.Frag} {H : Hp} : ∀ {xs : List V} {us : List Value} {ts : List (List Wy)}, Vals xs us → DpAll K H xs (ts.map tkd) → PySem.W.EachIs (fun (v : Value) (p : V × List Wy) => RelV p.1 v) us (xs.zip ts)
  | _, _, [], .nil, _ => .nil
  | _, _, [], .cons _ _, h => by cases h
  | _, _, t :: ts, .nil, h => by cases h
  | _, _, t :: ts, .cons r rv, h => by
    cases h with
    | cons h1 h2 => exact .cons r (each_zip rv h2)
theorem each_read {X : Cx} {pins : List (Addr × Obj)} {σ : L2.St} {H : Hp} {s : Shared} (I : Inv X pins σ H s) : ∀ {xs : List V} {us : List Value} {ts : List (List Wy)}, Vals xs us → DpAll X.K H xs (ts.map tkd) → PySem.W.EachIs (fun (v : Value) (p : V × List Wy) => ∃ as, Reads s.heap v (tkd p.2) as) us (xs.zip ts)
  | _, _, [], .nil, _ => .nil
  | _, _, [], .cons _ _, h => by cases h
  | _, _, t :: ts, .nil, h => by cases h
  | _, _, t :: ts, .cons r rv, h => by
    cases h with
    | cons h1 h2 => exact .cons (Dp.reads I _ _ _ h1 r) (each_read I rv h2)
theorem dep_tk (t : List Wy) : (tkd t).depth ≤ 2 := by
  have h : ∀ l : List Wy, PyData.depthAll (l.map wd) ≤ 1 := fun l => depAll.mpr fun d hd => by
    obtain ⟨w, _, rfl⟩ := List.mem_map.mp hd
    show (PyData.tuple (w.map PyData.int)).depth ≤ 1
    have : PyData.depthAll (w.map PyData.int) ≤ 0 := depAll.mpr fun d hd => by
      obtain ⟨x, _, rfl⟩ := List.mem_map.mp hd
      simp [PyData.depth]
    simp only [PyData.depth]
    omega
  have := h t
  show (PyData.tuple (t.map wd)).depth ≤ 2
  simp only [PyData.depth]
  omega
theorem cr_sortT {X : Cx} {K : PySem.W.Frag} (hK : X.K = K) (hu : X.A.units + 8 < cLine) : CallR X (.builtin "sorted") (rSortT K) := by
  subst hK
  intro pins s σ H vs us Q I r h
  obtain ⟨a, xs, ts, rfl, hs, hd, nd, hne, q⟩ := h
  obtain ⟨its, rv, hl, hz⟩ := I.list hs
  obtain ⟨u, rfl, ru⟩ := vals1 r
  obtain rfl : u = Value.ref a := ru
  have hxl : xs.length = ts.length := by have := dpa_len hd; rw [List.length_map] at this; exact this
  have hz2 : (xs.zip ts).map (·.2) = ts := List.map_snd_zip (by omega)
  have hzl : (xs.zip ts).length ≤ sizeLine := by rw [List.length_zip]; omega
  have hzd : ∀ p ∈ xs.zip ts, Dp X.K H p.1 (tkd p.2) := fun p hp => by
    obtain ⟨i, hi⟩ := List.getElem?_of_mem hp
    rw [List.getElem?_zip_eq_some] at hi
    obtain ⟨w, h1, h2⟩ := dpa_get hd hi.1
    rw [hi.2] at h1
    cases h1
    exact h2
  refine PySem.W.sorted_data (β := V × List Wy) (enc := fun p => tkd p.2) (R := fun v p => RelV p.1 v) (bs := xs.zip ts) hl.isList (each_zip rv hd) (each_read I rv hd) (PySem.W.AllAlike.of fun b b' => alike_tk _ _) (.inl fun d hd' => ?_) hzl (fun b hb => by have := dep_tk b.2; omega) fun out ho he => ?_
  · obtain ⟨p, hp, rfl⟩ := List.mem_map.mp hd'
    have hm : p.2 ∈ ts := (List.of_mem_zip hp).2
    cases ht : p.2 with
    | nil => exact absurd ht (hne _ hm)
    | cons x t => exact ⟨wd x, t.map wd, rfl⟩
  · have hle : PySem.W.dataLe false (fun p : V × List Wy => tkd p.2) = fun p q => !ltT q.2 p.2 := by
      rw [PySem.W.dataLe_eq]
      funext p q
      show (!PySem.W.dataLt (tkd q.2) (tkd p.2)) = !ltT q.2 p.2
      congr 1
      show PySem.W.dataLt (.tuple (q.2.map wd)) (.tuple (p.2.map wd)) = _
      rw [PySem.W.dataLt_tuple]
      exact lt_tk _ _
    rw [hle] at he
    have hperm := List.mergeSort_perm (xs.zip ts) (fun p q => !ltT q.2 p.2)
    have hpw := List.pairwise_mergeSort (le := fun p q : V × List Wy => !ltT q.2 p.2) (fun a b c h1 h2 => ?_) (fun a b => ?_) (xs.zip ts)
    · generalize (xs.zip ts).mergeSort (fun p q => !ltT q.2 p.2) = ps at *
      have hp2 : (ps.map (·.2)).Perm ts := by
        have z := hperm.map (·.2)
        rw [hz2] at z
        exact z
      have hv := vals_each he
      have hd' : s.heap.objs.size ≤ s.heap.objs.size + 1 := Nat.le_succ _
      obtain ⟨n, hn⟩ := sortedAll_at s.heap its out.toArray
      refine ⟨.ref (s.heap.objs.size + 1), upd H (s.heap.objs.size + 1) (.lst (ps.map (·.1))), I.laid (t' := s.toks) (fun b o e => sortedAll_old e) hd' ⟨?_, out, n, hv, hn⟩, rfl, q (ps.map (·.1)) (ps.map (·.2)) _ ?_ hp2 (dpa_of fun p hp => hzd p (hperm.mem_iff.mp hp)) (I.hok.fresh hd')⟩
      · rw [List.length_map, hperm.length_eq]
        exact hzl
      · refine asc_of sto_T (List.pairwise_map.mpr (hpw.imp fun {p q} z => ?_)) (hp2.nodup_iff.mpr nd)
        simpa using z
    · -- transitive
      simp only [Bool.not_eq_true'] at h1 h2 ⊢
      cases hc : ltT c.2 a.2 with
      | false => rfl
      | true =>
        by_cases e1 : a.2 = b.2
        · rw [e1] at hc; rw [h2] at hc; cases hc
        rcases sto_T.tri a.2 b.2 e1 with z | z
        · rw [sto_T.tr _ _ _ hc z] at h2
          cases h2
        · rw [h1] at z
          cases z
    · by_cases e1 : a.2 = b.2
      · rw [e1, sto_T.irr]
        rfl
      · rcases sto_T.tri a.2 b.2 e1 with z | z
        · rw [sto_T.asym z]
          rfl
        · rw [sto_T.asym z]
          simp
end Wk

set_option Elab.async false
set_option linter.all false
set_option maxRecDepth 100000
set_option maxHeartbeats 2000000
namespace Wk
open PySem PySem.Spec PyProof.Rows L2 Evl
/-! outcomes, router by router -/
def ptk (n : Nat) (pre : List Wy) : List (Option Wy) := pre.map some ++ List.replicate (n - pre.length) none
theorem ptk_len {n : Nat} {pre : List Wy} (h : pre.length ≤ n) : (ptk n pre).length = n := by
  unfold ptk
  rw [List.length_append, List.length_map, List.length_replicate]
  omega
theorem ptk_at {n : Nat} {pre : List Wy} {i : Nat} (h : i < pre.length) : (ptk n pre)[i]? = some pre[i]? := by
  unfold ptk
  rw [List.getElem?_append_left (by rw [List.length_map]; exact h), List.getElem?_map, List.getElem?_eq_getElem h]
  rfl
theorem ptk_behind {n : Nat} {pre : List Wy} {i : Nat} (h : pre.length ≤ i) : (ptk n pre).getD i none = none := by
  unfold ptk
  rw [List.getD_eq_getElem?_getD, List.getElem?_append_right (by rw [List.length_map]; exact h), List.getElem?_replicate]
  split <;> rfl
theorem ptk_getD {n : Nat} {pre : List Wy} {i : Nat} : (ptk n pre).getD i none = pre[i]? := by
  by_cases c : i < pre.length
  · rw [List.getD_eq_getElem?_getD, ptk_at c]
    rfl
  · rw [ptk_behind (by omega), List.getElem?_eq_none (by omega)]
theorem ptk_full {pre : List Wy} : ptk pre.length pre = pre.map some := by
  unfold ptk
  rw [Nat.sub_self]
  simp
/-- the next item is put -/
theorem ptk_snoc {n : Nat} {pre : List Wy} {x : Wy} (h : pre.length < n) : (ptk n pre).set pre.length (some x) = ptk n (pre ++ [x]) := by
  apply List.ext_getElem?
  intro i
  unfold ptk
  rw [List.getElem?_set]
  by_cases c : pre.length = i
  · subst c
    rw [if_pos rfl, if_pos (by rw [List.length_append, List.length_map, List.length_replicate]; omega), List.getElem?_append_left (by simp), List.getElem?_map]
    simp
  · rw [if_neg c]
    by_cases c2 : i < pre.length
    · rw [List.getElem?_append_left (by rw [List.length_map]; exact c2), List.getElem?_append_left (by simp; omega), List.getElem?_map, List.getElem?_map, List.getElem?_append_left c2]
    · rw [List.getElem?_append_right (by rw [List.length_map]; omega), List.getElem?_append_right (by simp; omega), List.getElem?_replicate, List.getElem?_replicate]
      simp only [List.length_map, List.length_append, List.length_cons, List.length_nil]
      by_cases c3 : i < n
      · rw [if_pos (by omega), if_pos (by omega)]
      · rw [if_neg (by omega), if_neg (by omega)]
/-- items that routers may have -/
def PreOk (rows : List (List Wy)) (pre : List Wy) : Prop := pre.length ≤ rows.length ∧ ∀ (i : Nat) (x : Wy), pre[i]? = some x → x ∈ chW rows i
theorem PreOk.tk {rows : List (List Wy)} {pre : List Wy} (h : PreOk rows pre) : TkO rows (ptk rows.length pre) := ⟨ptk_len h.1, fun i x e => by
  have hi : (ptk rows.length pre).getD i none = some x := by rw [List.getD_eq_getElem?_getD, e]; rfl
  rw [ptk_getD] at hi
  exact h.2 i x hi⟩
def okP (rows : List (List Wy)) (pre : List Wy) : Bool := decide (fcs rows (ptk rows.length pre) (rows.length - 1) 1 = none)
/-- what is had shows no more wrong than what is had with more -/
theorem csL_mono {t t' : List (Option Wy)} (h : ∀ i x, t.getD i none = some x → t'.getD i none = some x) {own : Wy} : ∀ {ws : List Wy}, csL t own ws = true → csL t' own ws = true
  | [], e => by cases e
  | w :: ws, e => by
    unfold csL at e ⊢
    by_cases c : w = own
    · rw [if_pos c] at e
      cases e
    · rw [if_neg c] at e ⊢
      by_cases c1 : hit t w = true
      · have c2 : hit t' w = true := by
          unfold hit at c1 ⊢
          exact decide_eq_true (h _ _ (of_decide_eq_true c1))
        rw [if_pos c2]
      · rw [if_neg c1] at e
        by_cases c2 : hit t' w = true
        · rw [if_pos c2]
        · rw [if_neg c2]
          exact csL_mono h e
theorem csB_mono {rows : List (List Wy)} {t t' : List (Option Wy)} (h : ∀ i x, t.getD i none = some x → t'.getD i none = some x) {i : Nat} (e : csB rows t i = true) : csB rows t' i = true := by
  unfold csB at e ⊢
  cases ho : t.getD i none with
  | none => rw [ho] at e; cases e
  | some own =>
    rw [ho] at e
    rw [h _ _ ho]
    dsimp only at e ⊢
    by_cases c : own ≠ [] ∧ t'.getD (own.getD 1 0).toNat none ≠ none ∧ hit t' own = false
    · rw [if_pos c]
    · rw [if_neg c]
      by_cases c1 : own ≠ [] ∧ t.getD (own.getD 1 0).toNat none ≠ none ∧ hit t own = false
      · exfalso
        obtain ⟨c2, c3, c4⟩ := c1
        obtain ⟨y, hy⟩ := Option.ne_none_iff_exists'.mp c3
        have hy' := h _ _ hy
        refine c ⟨c2, by rw [hy']; simp, ?_⟩
        unfold hit at c4 ⊢
        rw [hy] at c4
        rw [hy']
        exact c4
      · rw [if_neg c1] at e
        exact csL_mono h e
theorem fcs_none {rows : List (List Wy)} {t : List (Option Wy)} : ∀ {m i : Nat}, fcs rows t m i = none ↔ ∀ j, i ≤ j → j < i + m → csB rows t j = false
  | 0, i => ⟨fun _ j h1 h2 => by omega, fun _ => rfl⟩
  | m + 1, i => by
    unfold fcs
    by_cases c : csB rows t i = true
    · rw [if_pos c]
      refine ⟨fun z => (by cases z), fun z => ?_⟩
      rw [z i (Nat.le_refl _) (by omega)] at c
      cases c
    · rw [if_neg c, fcs_none (m := m) (i := i + 1)]
      refine ⟨fun z j h1 h2 => ?_, fun z j h1 h2 => z j (by omega) (by omega)⟩
      by_cases e : j = i
      · subst e
        simpa using c
      · exact z j (by omega) (by omega)
theorem okP_mono {rows : List (List Wy)} {pre : List Wy} {x : Wy} (h : okP rows (pre ++ [x]) = true) : okP rows pre = true := by
  unfold okP at h ⊢
  have h1 := of_decide_eq_true h
  refine decide_eq_true (fcs_none.mpr fun j h2 h3 => ?_)
  have h4 := fcs_none.mp h1 j h2 h3
  cases c : csB rows (ptk rows.length pre) j with
  | false => rfl
  | true =>
    have := csB_mono (rows := rows) (t' := ptk rows.length (pre ++ [x])) (fun i y e => by
      rw [ptk_getD] at e ⊢
      have hl := (List.getElem?_eq_some_iff.mp e).1
      rw [List.getElem?_append_left hl]
      exact e) c
    rw [h4] at this
    cases this
theorem okP_goal {rows : List (List Wy)} : okP rows [[0]] = true := by
  unfold okP
  refine decide_eq_true (fcs_none.mpr fun j h2 _ => ?_)
  unfold csB
  rw [ptk_getD, List.getElem?_eq_none (by show 1 ≤ j; exact h2)]
/-! the rows behind each router -/
/-- the rows in which the routers up to r have an item -/
structure StgI (rows : List (List Wy)) (r : Nat) (L : List (List Wy)) : Prop where
  asc : Asc ltT L
  mem : ∀ pre, pre ∈ L ↔ (pre.length = r + 1 ∧ PreOk rows pre ∧ okP rows pre = true)
  few : L.length ≤ tks (rows.take (r + 1))
def fol (rows : List (List Wy)) (ws : List Wy) (pre : List Wy) : List (List Wy) := (ws.map fun x => pre ++ [x]).filter (okP rows)
theorem lexT_app {a b c d : List Wy} (hl : a.length = b.length) (h : ltT a b = true) : ltT (a ++ c) (b ++ d) = true := by
  induction a generalizing b with
  | nil =>
    cases b with
    | nil => cases h
    | cons _ _ => simp at hl
  | cons x a ih =>
    cases b with
    | nil => simp at hl
    | cons y b =>
      have h' : (if x = y then ltT a b else ltW x y) = true := h
      show (if x = y then ltT (a ++ c) (b ++ d) else ltW x y) = true
      by_cases e : x = y
      · rw [if_pos e] at h' ⊢
        exact ih (by simpa using hl) h'
      · rw [if_neg e] at h' ⊢
        exact h'
theorem lexT_same {a c d : List Wy} : ltT (a ++ c) (a ++ d) = ltT c d := by
  induction a with
  | nil => rfl
  | cons x a ih =>
    show (if x = x then ltT (a ++ c) (a ++ d) else _) = _
    rw [if_pos rfl]
    exact ih
theorem lexT_one {x y : Wy} (h : ltW x y = true) : ltT [x] [y] = true := by
  show (if x = y then ltT [] [] else ltW x y) = true
  rw [if_neg (fun z => by rw [z, sto_W.irr] at h; cases h)]
  exact h
theorem fol_mem {rows : List (List Wy)} {ws pre t : List Wy} : t ∈ fol rows ws pre ↔ ∃ x ∈ ws, t = pre ++ [x] ∧ okP rows t = true := by
  unfold fol
  rw [List.mem_filter, List.mem_map]
  constructor
  · rintro ⟨⟨x, hx, rfl⟩, h⟩
    exact ⟨x, hx, rfl, h⟩
  · rintro ⟨x, hx, rfl, h⟩
    exact ⟨⟨x, hx, rfl⟩, h⟩
theorem fol_asc {rows : List (List Wy)} {ws pre : List Wy} (h : Asc ltW ws) : Asc ltT (fol rows ws pre) := by
  refine List.Pairwise.filter _ (List.pairwise_map.mpr (h.imp fun {x y} q => ?_))
  rw [lexT_same]
  exact lexT_one q
theorem stg_start {rows : List (List Wy)} (hG : GW rows) (h2 : 2 ≤ rows.length) : StgI rows 0 [[[0]]] := by
  refine ⟨List.pairwise_singleton _ _, fun pre => ?_, tks_pos _⟩
  rw [List.mem_singleton]
  constructor
  · rintro rfl
    refine ⟨rfl, ⟨by show 1 ≤ rows.length; omega, fun i x e => ?_⟩, okP_goal⟩
    cases i with
    | zero => simp at e; subst e; simp [chW]
    | succ i => simp at e
  · rintro ⟨h1, hp, _⟩
    cases pre with
    | nil => simp at h1
    | cons x pre =>
      have hn : pre = [] := by simpa using h1
      subst hn
      have := hp.2 0 x rfl
      unfold chW at this
      rw [if_pos rfl] at this
      rw [List.mem_singleton.mp this]
theorem stg_step {rows : List (List Wy)} {r : Nat} {L : List (List Wy)} {ws : List Wy} (hr : r + 1 < rows.length) (S : StgI rows r L) (ha : Asc ltW ws) (hp : ws.Perm (chW rows (r + 1))) : StgI rows (r + 1) (L.flatMap (fol rows ws)) := by
  refine ⟨?_, fun t => ?_, ?_⟩
  · refine List.pairwise_flatMap.mpr ⟨fun pre hpre => fol_asc ha, ?_⟩
    refine (List.Pairwise.and_mem.mp S.asc).imp fun {p q} ⟨hp1, hq1, h⟩ x hx y hy => ?_
    obtain ⟨x', _, rfl, _⟩ := fol_mem.mp hx
    obtain ⟨y', _, rfl, _⟩ := fol_mem.mp hy
    exact lexT_app (by rw [((S.mem p).mp hp1).1, ((S.mem q).mp hq1).1]) h
  · rw [List.mem_flatMap]
    constructor
    · rintro ⟨pre, hpre, ht⟩
      obtain ⟨x, hx, rfl, hok⟩ := fol_mem.mp ht
      obtain ⟨h1, h2, h3⟩ := (S.mem pre).mp hpre
      refine ⟨by rw [List.length_append, h1]; rfl, ⟨by rw [List.length_append, h1]; show r + 1 + 1 ≤ _; omega, fun i y e => ?_⟩, hok⟩
      by_cases c : i < pre.length
      · rw [List.getElem?_append_left c] at e
        exact h2.2 i y e
      · rw [List.getElem?_append_right (by omega)] at e
        have hi : i = r + 1 := by
          have := (List.getElem?_eq_some_iff.mp e).1
          simp at this
          omega
        subst hi
        rw [show r + 1 - pre.length = 0 by omega] at e
        have ey : x = y := by simpa using e
        subst ey
        exact hp.mem_iff.mp hx
    · rintro ⟨h1, h2, h3⟩
      have hne : t ≠ [] := fun z => by rw [z] at h1; simp at h1
      have ht := List.dropLast_concat_getLast hne
      generalize t.dropLast = pre at ht
      generalize t.getLast hne = x at ht
      subst ht
      have hl : pre.length = r + 1 := by simpa using h1
      refine ⟨pre, (S.mem pre).mpr ⟨hl, ⟨by omega, fun i y e => ?_⟩, okP_mono h3⟩, fol_mem.mpr ⟨x, ?_, rfl, h3⟩⟩
      · have hi := (List.getElem?_eq_some_iff.mp e).1
        exact h2.2 i y (by rw [List.getElem?_append_left hi]; exact e)
      · have := h2.2 (r + 1) x (by rw [List.getElem?_append_right (by omega), show r + 1 - pre.length = 0 by omega]; rfl)
        exact hp.mem_iff.mpr this
  · have hrw : rows[r + 1]? = some rows[r + 1] := List.getElem?_eq_getElem hr
    have hcl : ws.length = rows[r + 1].length + 1 := by
      rw [hp.length_eq]
      unfold chW
      rw [if_neg (by omega), List.getD_eq_getElem?_getD, hrw, List.length_append]
      rfl
    rw [tks_take hrw, ← hcl]
    have h1 : ∀ L : List (List Wy), (L.flatMap (fol rows ws)).length ≤ L.length * ws.length := fun L => by
      induction L with
      | nil => simp
      | cons p L ih =>
        rw [List.flatMap_cons, List.length_append, List.length_cons, Nat.add_mul, Nat.one_mul]
        have : (fol rows ws p).length ≤ ws.length := by
          unfold fol
          refine Nat.le_trans (List.length_filter_le _ _) ?_
          rw [List.length_map]
          exact Nat.le_refl _
        omega
    exact Nat.le_trans (h1 L) (Nat.mul_le_mul_right _ S.few)
end Wk

set_option Elab.async false
set_option linter.all false
set_option maxRecDepth 100000
set_option maxHeartbeats 4000000
namespace Wk
open PySem PySem.Spec PyProof.Rows L2 Evl
/-! takings that are takings -/
structure FullT (rows : List (List Wy)) (pre : List Wy) : Prop where
  len : pre.length = rows.length
  ok : ∀ (i : Nat) (x : Wy), pre[i]? = some x → x ∈ chW rows i
theorem FullT.pre {rows : List (List Wy)} {pre : List Wy} (h : FullT rows pre) : PreOk rows pre := ⟨by rw [h.len]; exact Nat.le_refl _, h.ok⟩
theorem FullT.ptk {rows : List (List Wy)} {pre : List Wy} (h : FullT rows pre) : ptk rows.length pre = pre.map some := by rw [← h.len]; exact ptk_full
theorem FullT.l8 {rows : List (List Wy)} {pre : List Wy} (h : FullT rows pre) (hG : GW rows) {x : Wy} (hx : x ∈ pre) : x.length ≤ 8 := by
  obtain ⟨i, hi⟩ := List.mem_iff_getElem?.mp hx
  have hc := h.ok i x hi
  have hil := (List.getElem?_eq_some_iff.mp hi).1
  unfold chW at hc
  by_cases c : i = 0
  · rw [if_pos c] at hc
    rw [List.mem_singleton.mp hc]
    simp
  · have hil2 : i < rows.length := by rw [← h.len]; exact hil
    have hr : rows[i]? = some rows[i] := List.getElem?_eq_getElem hil2
    rw [if_neg c, List.getD_eq_getElem?_getD, hr] at hc
    rcases List.mem_append.mp hc with z | z
    · exact (hG.ok i _ hr x z).l8
    · rw [List.mem_singleton.mp z]
      simp
theorem range_true (n : Nat) : ((List.range n).map fun _ => true).all id = true := by simp
section
variable {P : Program} {w : World} {K : PySem.W.Frag} {mg : Str → Option Value} {base : Heap} {f : Addr} {fd : FuncData} {CW CN : Addr}
abbrev spTup1 (K : PySem.W.Frag) : Sp := spP fun H vs z => ∃ (n : Int) (v : V) (ds : List PyData), vs = [.int n, v] ∧ Dp K H v (.tuple ds) ∧ z = .bl (decide (V.int (ds.length : Int) = V.int n))
theorem ok_tup1 (B : Bl mg) (F : FnP K "is_tuple_of" sTupOf f fd) : FnOk P w K mg base CX0 1 f fd ["many", "thing"] (spTup1 K) := by
  refine F.ok scTupOf (fun vs H Q E h => ?_) (fun cdv A outer s H vs Q E hr h => ?_)
  · obtain ⟨z, ⟨n, v, o, rfl, _⟩, _⟩ := h
    rfl
  · obtain ⟨z, ⟨n, v, ds, rfl, hv, rfl⟩, k⟩ := h
    refine ⟨_, pss_one (ps_ret (pe_and (pe_callB call_isi (by rfl) B.isi boot_isinstance (pa_cons (pv 1) (pa_cons (pe_bltn (v := .ty "tuple") (by rfl) B.tuple PyProof.Rows.boot_tuple rfl) pa_nil)))
      (pe_one (pe_cmpR op_eq (pe_callB call_len_seq (by rfl) B.len PySem.boot_len (pa_cons (pv 1) pa_nil)) (pv 0) (nomark _))))), ?_⟩
    refine s_ret (ev_is (ev_andV (a := true) (ep_isi (K := K) (ev_var rfl) hv k_tt) fun _ => ?_) rfl) k
    cases hv with
    | tup h1 h2 =>
      rename_i a xs
      rw [← dpa_len h2]
      exact ev_op (ev_lenT (K := K) (ta := tVar 1) (ev_var rfl) h1) (ev_var (i := 0) rfl) (rv_eq rfl)
abbrev spIntTup1 (K : PySem.W.Frag) : Sp := spP fun H vs z => ∃ (v : V) (x : Wy), vs = [v] ∧ Dp K H v (wd x) ∧ x.length ≤ 1000 ∧ z = .bl true
theorem ok_intTup1 (B : Bl mg) (C : Cal P w K mg base "is_integer" ["thing"] 1 spIsInt) (F : FnP K "is_integer_tuple" sIntTup f fd) : FnOk P w K mg base CX0 2 f fd ["thing"] (spIntTup1 K) := by
  refine F.ok scIntTup (fun vs H Q E h => ?_) (fun cdv A outer s H vs Q E hr h => ?_)
  · obtain ⟨z, ⟨v, d, rfl, _⟩, _⟩ := h
    rfl
  · obtain ⟨z, ⟨v, x, rfl, hv, hl, rfl⟩, k⟩ := h
    refine ⟨_, pss_one (ps_ret (pe_and (pe_callB call_isi (by rfl) B.isi boot_isinstance (pa_cons (pv 0) (pa_cons (pe_bltn (v := .ty "tuple") (by rfl) B.tuple PyProof.Rows.boot_tuple rfl) pa_nil)))
      (pe_one (pe_callB (cr_all rfl) (by rfl) B.all boot_all (pa_cons (pe_lc (own := [("item", 1)]) (g := gName 1) (tt := tYes) rfl scIntTup.nd (pi_tup (pv 0)) (blkOk_by (N := ["thing", "item"]) (sc := defScope sIntTup) (by decide +kernel))
          (fun _ _ _ _ _ => pg_name (i := 1) scIntTup.nd rfl (Or.inl rfl)) (fun _ _ _ _ _ => pts_nil) (fun _ _ _ _ _ => pe_cal C hr (by rfl) (pa_cons (pv 1) pa_nil))) pa_nil))))), ?_⟩
    have hv0 := hv
    obtain ⟨a, rfl, ha⟩ := dp_wd hv
    refine s_ret (ev_is (ev_andV (a := true) (ep_isi (K := K) (ev_var rfl) hv0 k_tt) fun _ => ?_) rfl) k
    have q := ev_allT (K := K) (H := H) (j := 1) (vs := [1]) (σ := start ["thing", "item"] [.ref a]) (tl := tVar 0) (te := tCall spIsInt [] E0 (tCons (tVar 1) tNil)) (fun i => true) (ev_var rfl) ha (by rw [List.length_map]; omega) (fun x => rfl)
      (fun i y H2 e2 hx => by
        rw [List.getElem?_map] at hx
        cases hq : x[i]? with
        | none => rw [hq] at hx; cases hx
        | some n =>
          rw [hq] at hx
          have e : y = .int n := (Option.some.inj hx).symm
          subst e
          exact ev_call (ea_cons (ev_var rfl) ea_nil) (spP_v fun H3 e5 => ⟨.int n, .int n, rfl, .int n, rfl⟩))
    rw [range_true] at q
    exact q
abbrev spChoice1 (K : PySem.W.Frag) (CW : Addr) : Sp := spP fun H vs z => ∃ (wv : V) (i : Nat) (v : V) (x : Wy) (rows : List (List Wy)), vs = [wv, .int (i : Int), v] ∧ WO CW H wv rows ∧ i < rows.length ∧ Dp K H v (wd x) ∧ x ∈ chW rows i ∧ x.length ≤ 1000 ∧ z = .bl true
theorem ok_choice1 (C : Cal P w K mg base "is_integer_tuple" ["thing"] 2 (spIntTup1 K)) (C2 : Cal P w K mg base "choices" ["wishes", "router"] 6 (spChoices K CW)) (F : FnP K "is_choice" sChoice f fd) : FnOk P w K mg base CX0 7 f fd ["wishes", "router", "thing"] (spChoice1 K CW) := by
  refine F.ok scChoice (fun vs H Q E h => ?_) (fun cdv A outer s H vs Q E hr h => ?_)
  · obtain ⟨z, ⟨wv, i, v, d, rows, rfl, _⟩, _⟩ := h
    rfl
  · obtain ⟨z, ⟨wv, i, v, x, rows, rfl, hw, hi, hv, hx, hl, rfl⟩, k⟩ := h
    have hu : (A.deeper (envOfC "is_choice" (defScope sChoice) s.heap.objs.size f cdv)).units + 65 < cLine := by have := hr.un; omega
    refine ⟨_, pss_one (ps_ret (pe_and (pe_cal C hr (by rfl) (pa_cons (pv 2) pa_nil)) (pe_one (pe_cmpR (op_inD hu) (pv 2) (pe_cal C2 hr (by rfl) (pa_cons (pv 0) (pa_cons (pv 1) pa_nil))) rfl)))), ?_⟩
    refine s_ret (ev_is (ev_andV (a := true) (b := decide (x ∈ chW rows i)) (ev_call (ea_cons (ev_var rfl) ea_nil) (spP_v fun H1 e => ⟨v, x, rfl, Dp.up e hv, hl, rfl⟩)) fun hb => ?_) (by simp [hx])) k
    intro H1 e1 Q2 q
    refine ⟨v, rfl, wv, rfl, .int (i : Int), rfl, wv, i, rows, rfl, hw.up e1, hi, fun H2 l us e2 _ hl2 hus => ?_⟩
    refine ⟨wd x, (chW rows i).map wd, Dp.up (e1.trans e2) hv, .lst (sq_of hl2) hus, shaped_wd _, shaped_wds _, ?_⟩
    rw [any_wd]
    exact q H2 e2
abbrev spTaking1 (K : PySem.W.Frag) (CW : Addr) : Sp := spP fun H vs z => ∃ (wv v : V) (pre : List Wy) (rows : List (List Wy)), vs = [wv, v] ∧ WO CW H wv rows ∧ Dp K H v (.tuple (pre.map wd)) ∧ FullT rows pre ∧ z = .bl true
theorem ok_taking1 (B : Bl mg) (W : WC P w K mg base CW CN) (C : Cal P w K mg base "is_tuple_of" ["many", "thing"] 1 (spTup1 K)) (C2 : Cal P w K mg base "is_choice" ["wishes", "router", "thing"] 7 (spChoice1 K CW)) (F : FnP K "is_taking" sTaking f fd) : FnOk P w K mg base CX0 8 f fd ["wishes", "thing"] (spTaking1 K CW) := by
  refine F.ok scTaking (fun vs H Q E h => ?_) (fun cdv A outer s H vs Q E hr h => ?_)
  · obtain ⟨z, ⟨wv, v, o, rows, rfl, _⟩, _⟩ := h
    rfl
  · obtain ⟨z, ⟨wv, v, pre, rows, rfl, hw, hv, hf, rfl⟩, k⟩ := h
    refine ⟨_, pss_cons (ps_if (pt_not (pt_val (pe_cal C hr (by rfl) (pa_cons (pe_fld (pv 0) rfl) (pa_cons (pv 1) pa_nil))))) (pss_one (ps_ret pe_bl)) pss_nil)
      (pss_one (ps_ret (pe_callB (cr_all rfl) (by rfl) B.all boot_all (pa_cons (pe_lc (own := [("router", 2), ("item", 3)]) (g := gTup K 2 (gCons (gName 2) (gCons (gName 3) gNil))) (tt := tYes) rfl scTaking.nd (pi_enumT (by rfl) B.enum (pa_cons (pv 1) pa_nil)) (blkOk_by (N := nTaking) (sc := defScope sTaking) (by decide +kernel))
          (fun _ _ _ _ _ => pg_tup rfl (pgs_cons (pg_name (i := 2) scTaking.nd rfl (Or.inl rfl)) (pgs_cons (pg_name (i := 3) scTaking.nd rfl (Or.inl rfl)) pgs_nil))) (fun _ _ _ _ _ => pts_nil) (fun _ _ _ _ _ => pe_cal C2 hr (by rfl) (pa_cons (pv 0) (pa_cons (pv 2) (pa_cons (pv 3) pa_nil))))) pa_nil)))), ?_⟩
    have v0 : ∀ {H1 : Hp}, Ev (tVar 0) (start nTaking [wv, v]) H1 wv := ev_var rfl
    refine q_when (b := !decide (V.int ((pre.map wd).length : Int) = V.int (rows.length : Int))) (et_not (et_B (ev_call (ea_cons (ev_wsize W.tx v0 hw) (ea_cons (ev_var rfl) ea_nil)) (spP_v fun H1 e => ⟨_, v, _, rfl, Dp.up e hv, rfl⟩)))) (fun hb H1 e1 => ?_) (fun hb H1 e1 => ?_)
    · rw [List.length_map, hf.len] at hb
      simp at hb
    · have hv1 := Dp.up e1 hv
      cases hv1 with
      | tup h1 h2 =>
        rename_i a xs
        have hxl := dpa_len h2
        rw [List.length_map] at hxl
        have n8 := hw.n8
        have hfl := hf.len
        have q := ev_allEnT (K := K) (H := H1) (i := 2) (j := 3) (vs := [2, 3]) (σ := start nTaking [wv, .ref a]) (tl := tVar 1) (te := tCall (spChoice1 K CW) [] E0 (tCons (tVar 0) (tCons (tVar 2) (tCons (tVar 3) tNil)))) (fun i => true) (ev_var rfl) h1 (by omega) (fun x y => rfl)
          (fun i x H2 e2 hx => by
            obtain ⟨y, e3, e4⟩ := dpa_get h2 hx
            have hil := (List.getElem?_eq_some_iff.mp e3).1
            exact ev_call (ea_cons (ev_var rfl) (ea_cons (ev_var rfl) (ea_cons (ev_var rfl) ea_nil))) (spP_v fun H3 e5 => ⟨wv, i, x, y, rows, rfl, hw.up ((e1.trans e2).trans e5), by omega, Dp.up (e2.trans e5) e4, hf.ok i y e3, by have := hf.l8 hw.g (List.mem_of_getElem? e3); omega, rfl⟩))
        rw [range_true] at q
        exact s_ret q fun H3 e3 => k H3 (e1.trans e3)
abbrev spOut1 (K : PySem.W.Frag) (CW : Addr) : Sp := spP fun H vs z => ∃ (wv v : V) (pre : List Wy) (rows : List (List Wy)), vs = [wv, v] ∧ WO CW H wv rows ∧ Dp K H v (.tuple (pre.map wd)) ∧ FullT rows pre ∧ z = .bl (okP rows pre)
theorem od_some (t : List Wy) : (t.map some).map od = t.map wd := by
  rw [List.map_map]
  rfl
theorem FullT.dp {K : PySem.W.Frag} {H : Hp} {v : V} {rows : List (List Wy)} {pre : List Wy} (h : FullT rows pre) (hv : Dp K H v (.tuple (pre.map wd))) : Dp K H v (.tuple ((Wk.ptk rows.length pre).map od)) := by
  rw [h.ptk, od_some]
  exact hv
theorem ok_out1 (C : Cal P w K mg base "is_taking" ["wishes", "thing"] 8 (spTaking1 K CW)) (C2 : Cal P w K mg base "first_that_cannot_stay" ["wishes", "items"] 7 (spFirst K CW)) (F : FnP K "is_outcome" sOut f fd) : FnOk P w K mg base CX0 9 f fd ["wishes", "thing"] (spOut1 K CW) := by
  refine F.ok scOut (fun vs H Q E h => ?_) (fun cdv A outer s H vs Q E hr h => ?_)
  · obtain ⟨z, ⟨wv, v, o, rows, rfl, _⟩, _⟩ := h
    rfl
  · obtain ⟨z, ⟨wv, v, pre, rows, rfl, hw, hv, hf, rfl⟩, k⟩ := h
    refine ⟨_, pss_one (ps_ret (pe_and (pe_cal C hr (by rfl) (pa_cons (pv 0) (pa_cons (pv 1) pa_nil))) (pe_one (pe_cmpR op_isN (pe_cal C2 hr (by rfl) (pa_cons (pv 0) (pa_cons (pv 1) pa_nil))) pe_non (nomark _))))), ?_⟩
    refine s_ret (ev_is (ev_andV (a := true) (b := okP rows pre) (ev_call (ea_cons (ev_var rfl) (ea_cons (ev_var rfl) ea_nil)) (spP_v fun H1 e => ⟨wv, v, pre, rows, rfl, hw.up e, Dp.up e hv, hf, rfl⟩)) fun hb => ?_) (by simp)) k
    unfold okP
    rw [← fcsV_none]
    exact ev_op (ev_call (ea_cons (ev_var rfl) (ea_cons (ev_var rfl) ea_nil)) (spP_v fun H1 e => ⟨wv, v, rows, _, rfl, hw.up e, hf.dp (Dp.up e hv), hf.pre.tk, rfl⟩)) ev_c fun H1 e1 Q2 q => ⟨rfl, q H1 (Ex.refl H1)⟩
theorem okP_ls {rows : List (List Wy)} {pre : List Wy} (hG : GW rows) (hn2 : 2 ≤ rows.length) (hf : FullT rows pre) : okP rows pre = lsB rows (pre.map some) (rows.length - 1) 1 := by
  have ht := hf.pre.tk
  rw [hf.ptk] at ht
  rw [lsB_fcs hG ht (fun x hx => by obtain ⟨y, _, rfl⟩ := List.mem_map.mp hx; simp) _ 1 (Nat.le_refl 1) (by omega)]
  unfold okP
  rw [hf.ptk]
end
end Wk

set_option Elab.async false
set_option linter.all false
set_option maxRecDepth 100000
set_option maxHeartbeats 400000
namespace Wk
open PySem PySem.Spec PyProof.Rows L2 Evl
/-! what was made after H1: H2 without the lists of H1 -/
def Fr (H1 H2 : Hp) : Hp := fun a => match H1 a with
  | some (.lst _) => none
  | _ => H2 a
theorem fr_at {H1 H2 : Hp} {a : Addr} (h : ∀ l, H1 a ≠ some (.lst l)) : Fr H1 H2 a = H2 a := by
  unfold Fr
  split
  · rename_i l e
    exact absurd e (h l)
  · rfl
theorem fr_inv {H1 H2 : Hp} {a : Addr} {o : HO} (h : Fr H1 H2 a = some o) : H2 a = some o ∧ ∀ l, H1 a ≠ some (.lst l) := by
  unfold Fr at h
  split at h
  · cases h
  · rename_i n
    exact ⟨h, fun l e => n l e⟩
theorem fr_sub {H1 H2 : Hp} : Ex (Fr H1 H2) H2 := fun a o h => (fr_inv h).1
theorem fr_up {H1 H2 H3 : Hp} (e : Ex H2 H3) : Ex (Fr H1 H2) (Fr H1 H3) := fun a o h => by
  obtain ⟨h1, h2⟩ := fr_inv h
  rw [fr_at h2]
  exact e a o h1
theorem fr_dn {H0 H1 H2 : Hp} (e : Ex H0 H1) : Ex (Fr H1 H2) (Fr H0 H2) := fun a o h => by
  obtain ⟨h1, h2⟩ := fr_inv h
  rw [fr_at fun l z => h2 l (e a _ z)]
  exact h1
theorem fr_new {H1 H2 : Hp} {a : Addr} {o : HO} (h : H1 a = none) (h2 : H2 a = some o) : Fr H1 H2 a = some o := by
  rw [fr_at fun l z => by rw [h] at z; cases z]
  exact h2
/-! data without lists -/
mutual
def noL : PyData → Bool
  | .none => true
  | .bool _ => true
  | .int _ => true
  | .str _ => true
  | .tuple ds => noLA ds
  | _ => false
def noLA : List PyData → Bool
  | [] => true
  | d :: ds => noL d && noLA ds
end
theorem noLA_all {ds : List PyData} (h : ∀ d ∈ ds, noL d = true) : noLA ds = true := by
  induction ds with
  | nil => rfl
  | cons d ds ih =>
    show (noL d && noLA ds) = true
    rw [h d List.mem_cons_self, ih fun x hx => h x (List.mem_cons_of_mem _ hx)]
    rfl
mutual
theorem dq_fr {H1 H2 : Hp} (e : Ex H1 H2) : ∀ {d : PyData} {v : V}, noL d = true → Dq H2 v d → Dq (Fr H1 H2) v d
  | .none, _, _, .non => .non
  | .bool _, _, _, .bl b => .bl b
  | .int _, _, _, .int i => .int i
  | .str _, _, _, .str x => .str x
  | .list _, _, h, .lst _ _ => by simp [noL] at h
  | .tuple _, _, h, .tup a b => .tup (by rw [fr_at fun l z => by have := e _ _ z; rw [a] at this; cases this]; exact a) (dqa_fr e (by simpa [noL] using h) b)
  | .dict _, _, h, .dic _ => by simp [noL] at h
theorem dqa_fr {H1 H2 : Hp} (e : Ex H1 H2) : ∀ {ds : List PyData} {vs : List V}, noLA ds = true → DqA H2 vs ds → DqA (Fr H1 H2) vs ds
  | [], _, _, .nil => .nil
  | d :: ds, _, h, .cons a t => by
    have h' : noL d = true ∧ noLA ds = true := by
      have z : (noL d && noLA ds) = true := h
      simpa using z
    exact .cons (dq_fr e h'.1 a) (dqa_fr e h'.2 t)
end
theorem noL_wd (w : Wy) : noL (wd w) = true := by
  unfold wd
  show noLA (w.map PyData.int) = true
  exact noLA_all fun d hd => by
    obtain ⟨i, _, rfl⟩ := List.mem_map.mp hd
    rfl
theorem noLA_wds (ws : List Wy) : noLA (ws.map wd) = true := noLA_all fun d hd => by
  obtain ⟨w, _, rfl⟩ := List.mem_map.mp hd
  exact noL_wd w
/-! new data -/
def EvD (te : TE) (σ : L2.St) (H : Hp) (d : PyData) : Prop := ∀ H1, Ex H H1 → ∀ Q : VK, (∀ u H2, Ex H1 H2 → Dq (Fr H1 H2) u d → Q u H2) → te σ H1 Q
def EvLD (te : TE) (σ : L2.St) (H : Hp) (ds : List PyData) : Prop := ∀ H1, Ex H H1 → ∀ Q : VK, (∀ p us H2, H1 p = none → Ex H1 H2 → H2 p = some (.lst us) → DqA (off p (Fr H1 H2)) us ds → Q (.ref p) H2) → te σ H1 Q
def EvAD (ta : TA) (σ : L2.St) (H : Hp) (ds : List PyData) : Prop := ∀ H1, Ex H H1 → ∀ Q : List V → Hp → Prop, (∀ us H2, Ex H1 H2 → DqA (Fr H1 H2) us ds → Q us H2) → ta σ H1 Q
section
variable {te tb : TE} {ta : TA} {σ : L2.St} {H : Hp} {d : PyData} {ds es : List PyData} {v : V}
theorem EvD.mono {H' : Hp} (h : EvD te σ H d) (e : Ex H H') : EvD te σ H' d := fun H1 e1 => h H1 (e.trans e1)
theorem d_L (h : EvLD te σ H ds) : EvD te σ H (.list ds) := fun H1 e Q q => h H1 e Q fun p us H2 np e2 hp hus => q _ H2 e2 (.lst (fr_new np hp) (hus.mono (off_in p _)))
theorem d_ev (h : Ev te σ H v) (hn : noL d = true) (hd : ∀ H1, Ex H H1 → Dq H1 v d) : EvD te σ H d := fun H1 e Q q => h H1 e Q fun H2 e2 => q v H2 e2 (dq_fr e2 hn (hd H2 (e.trans e2)))
theorem d_str (s : Str) : EvD (tC (.str s)) σ H (.str s) := fun H1 e Q q => q _ H1 (Ex.refl H1) (.str s)
theorem d_nil : EvAD tNil σ H [] := fun H1 e Q q => q [] H1 (Ex.refl H1) .nil
theorem d_cons (h : EvD te σ H d) (hr : EvAD ta σ H ds) : EvAD (tCons te ta) σ H (d :: ds) := fun H1 e Q q => h H1 e _ fun u H2 e2 hu => hr H2 (e.trans e2) _ fun us H3 e3 hus => q (u :: us) H3 (e2.trans e3) (.cons (hu.mono (fr_up e3)) (hus.mono (fr_dn e2)))
theorem d_tup (h : EvAD ta σ H ds) (hl : ds.length ≤ 1000) : EvD (tTup ta) σ H (.tuple ds) := fun H1 e Q q => h H1 e _ fun us H2 e2 hus => ⟨by have := hus.length; rw [sizeLine_eq]; omega, fun t ht => by
  have e3 := Ex.new (o := .tup us) ht
  exact q _ _ (e2.trans e3) (.tup (by rw [fr_at fun l z => by rw [e2 _ _ z] at ht; cases ht]; exact upd_same) (hus.mono (fr_up e3)))⟩
theorem d_lst (h : EvAD ta σ H ds) (hl : ds.length ≤ 1000) : EvLD (tLst ta) σ H ds := fun H1 e Q q => h H1 e _ fun us H2 e2 hus => ⟨by have := hus.length; rw [sizeLine_eq]; omega, fun t ht => by
  have e3 := Ex.new (o := .lst us) ht
  refine q t us _ (fresh_back e2 ht) (e2.trans e3) upd_same (hus.mono fun a o z => ?_)
  obtain ⟨z1, z2⟩ := fr_inv z
  rw [off_at (fun c => by rw [c, ht] at z1; cases z1), fr_at z2]
  exact e3 _ _ z1⟩
/-- lists put together -/
theorem d_cat (ha : EvLD te σ H ds) (hb : EvLD tb σ H es) (hl : ds.length + es.length ≤ 1000) : EvLD (tOp rCat te tb) σ H (ds ++ es) := fun H1 e Q q =>
  ha H1 e _ fun p us H2 np e2 hp hus => hb H2 (e.trans e2) _ fun r vs H3 nr e3 hr hvs => by
    have l1 := hus.length
    have l2 := hvs.length
    refine ⟨p, r, us, vs, rfl, rfl, e3 _ _ hp, hr, by rw [sizeLine_eq]; omega, fun t ht => ?_⟩
    have e4 := Ex.new (o := .lst (us ++ vs)) ht
    refine q t _ _ (fresh_back (e2.trans e3) ht) ((e2.trans e3).trans e4) upd_same ?_
    refine DqA.append (hus.mono fun a o z => ?_) (hvs.mono fun a o z => ?_)
    · obtain ⟨z1, z2⟩ := fr_inv (off_in p _ _ _ z)
      rw [off_at (fun c => by rw [c] at z1; rw [e3 _ _ z1] at ht; cases ht), fr_at z2]
      exact e4 _ _ (e3 _ _ z1)
    · obtain ⟨z1, z2⟩ := fr_inv (off_in r _ _ _ z)
      rw [off_at (fun c => by rw [c, ht] at z1; cases z1), fr_at fun l c => z2 l (e2 _ _ c)]
      exact e4 _ _ z1
end
/-! comprehensions whose items are new data -/
def Cn (H : Hp) (f : Nat → Bool) (d : Nat → PyData) (D : Addr) (i : Nat) (H' : Hp) : Prop := H D = none ∧ Ex H H' ∧ ∃ us, H' D = some (.lst us) ∧ DqA (off D (Fr H H')) us ((upTo f i).map d)
theorem cn_turn {H H' : Hp} {f : Nat → Bool} {d : Nat → PyData} {D : Addr} {i : Nat} {t : TT} {te : TE} {σ2 : L2.St} (p : Cn H f d D i H') (hi : i < 50000) (ht : EvT t σ2 H' (f i)) (he : f i = true → EvD te σ2 H' (d i)) :
    t σ2 H' fun b H3 => if b = true then te σ2 H3 fun y H4 => ∃ acc, H4 D = some (.lst acc) ∧ acc.length < sizeLine ∧ Cn H f d D (i + 1) (upd H4 D (.lst (acc ++ [y]))) else Cn H f d D (i + 1) H3 := by
  obtain ⟨p1, p2, us, p3, p4⟩ := p
  refine ht H' (Ex.refl _) _ fun H3 e3 => ?_
  cases hf : f i with
  | false =>
    refine ⟨p1, p2.trans e3, us, e3 _ _ p3, ?_⟩
    rw [upTo_no hf]
    exact p4.mono (off_ex (fr_up e3))
  | true =>
    refine he hf H3 e3 _ fun u H4 e4 y => ?_
    have d4 := e4 _ _ (e3 _ _ p3)
    have l1 := p4.length
    rw [List.length_map] at l1
    have l2 := upTo_len f i
    refine ⟨us, d4, sz_lt (by omega), p1, Ex.mut ((p2.trans e3).trans e4) p1, us ++ [u], upd_same, ?_⟩
    rw [upTo_yes hf, List.map_append]
    have k1 : Ex (off D (Fr H H')) (off D (Fr H (upd H4 D (.lst (us ++ [u]))))) := fun a o z => by
      by_cases c : a = D
      · rw [c] at z; unfold off at z; rw [if_pos rfl] at z; cases z
      · rw [off_at c] at z ⊢
        obtain ⟨z1, z2⟩ := fr_inv z
        rw [fr_at z2, upd_ne c]
        exact e4 _ _ (e3 _ _ z1)
    have k2 : Ex (Fr H3 H4) (off D (Fr H (upd H4 D (.lst (us ++ [u]))))) := fun a o z => by
      obtain ⟨z1, z2⟩ := fr_inv z
      have c : a ≠ D := fun c => by rw [c] at z2; exact z2 us (e3 _ _ p3)
      rw [off_at c, fr_at fun l w => z2 l (e3 _ _ (p2 _ _ w)), upd_ne c]
      exact z1
    exact (p4.mono k1).append (.cons (y.mono k2) .nil)
theorem lc_new {J : It} {n : Nat} {Gd : Hp → Prop} {Yx : Nat → V → Prop} {f : Nat → Bool} {d : Nat → PyData} {g : TG} {vs : List Nat} {σ : L2.St} {H : Hp} {D : Addr} {Qd : Hp → Prop} {t : TT} {te : TE} (S : Nat → V → L2.St)
    (w : Walk J n Gd (fun i H x H' => H' = H ∧ Yx i x)) (hD : H D = none) (hn : n ≤ 40000) (hG : ∀ H', Ex H H' → Gd H') (hg : ∀ i x H' (R : L2.St → Hp → Prop), Ex H H' → i < n → Yx i x → R (S i x) H' → g x (wipe σ vs) H' R) (hw : ∀ i x, wipe (S i x) vs = wipe σ vs)
    (ht : ∀ i x H', Ex H H' → i < n → Yx i x → EvT t (S i x) H' (f i)) (he : ∀ i x H', Ex H H' → i < n → Yx i x → f i = true → EvD te (S i x) H' (d i))
    (hq : ∀ us H', Ex H H' → H' D = some (.lst us) → DqA (off D (Fr H H')) us ((upTo f n).map d) → Qd H') :
    ∃ W : Nat → Nat → Hp → Prop, (∃ m, W 0 m (upd H D (.lst []))) ∧ ∀ i m H, W i m H →
      (J.stop i H ∧ Qd H) ∨ (J.go i H ∧ ∃ Nx : Hp → Prop, (∀ H', Nx H' → ∃ m', m' < m ∧ W (i + 1) m' H') ∧ ∀ x H', J.yld i H x H' → g x (wipe σ vs) H' fun σ2 H2 => wipe σ2 vs = wipe σ vs ∧ t σ2 H2 fun b H3 =>
        if b = true then te σ2 H3 fun y H4 => ∃ acc, H4 D = some (.lst acc) ∧ acc.length < sizeLine ∧ Nx (upd H4 D (.lst (acc ++ [y]))) else Nx H3) := by
  refine lc_it w (Cn H f d D) ⟨hD, Ex.new hD, [], upd_same, .nil⟩ (fun i H' _ p => hG H' p.2.1) (fun i x H' H2 hi p y => ?_) (fun H' p => ?_)
  · obtain ⟨rfl, yx⟩ := y
    exact hg i x _ _ p.2.1 hi yx ⟨hw i x, cn_turn p (by omega) (ht i x _ p.2.1 hi yx) (fun hf => he i x _ p.2.1 hi yx hf)⟩
  · obtain ⟨_, e, us, d, g⟩ := p
    exact hq us H' e d g
section
variable {K : PySem.W.Frag} {t : TT} {te tl : TE} {σ : L2.St} {H : Hp} {a : Addr} {xs : List V} {j : Nat} {vs : List Nat}
/-- over a list, a tuple, range(n), range(lo, n) -/
theorem dl_L (f : Nat → Bool) (d : Nat → PyData) (h : Ev tl σ H (.ref a)) (hx : SqL K H a xs) (hz : xs.length ≤ 40000) (hw : ∀ x, wipe ((wipe σ vs).set j (some x)) vs = wipe σ vs)
    (ht : ∀ (i : Nat) (x : V) H1, Ex H H1 → xs[i]? = some x → EvT t ((wipe σ vs).set j (some x)) H1 (f i)) (he : ∀ (i : Nat) (x : V) H1, Ex H H1 → xs[i]? = some x → f i = true → EvD te ((wipe σ vs).set j (some x)) H1 (d i)) :
    EvLD (tLc (iList K tl) (gName j) t te vs) σ H ((upTo f xs.length).map d) := fun H1 e Q q => h H1 e _ fun H2 e2 => ⟨a, rfl, ⟨xs, ex_l (e.trans e2) hx⟩, fun D hD =>
  lc_new (Yx := fun i x => xs[i]? = some x) (fun i x => (wipe σ vs).set j (some x)) (walk_list (K := K) (a := a) (xs := xs)) hD hz (fun H' e' => ex_l ((e.trans e2).trans e') hx) (fun i x H' R _ _ _ r => r) (fun i x => hw x) (fun i x H' e' _ hi => ht i x H' ((e.trans e2).trans e') hi) (fun i x H' e' _ hi => he i x H' ((e.trans e2).trans e') hi)
    (fun us H' e' hD' g => q D us H' (fresh_back e2 hD) (e2.trans e') hD' (g.mono (off_ex (fr_dn e2))))⟩
theorem dl_T (f : Nat → Bool) (d : Nat → PyData) (h : Ev tl σ H (.ref a)) (hx : SqT K H a xs) (hz : xs.length ≤ 40000) (hw : ∀ x, wipe ((wipe σ vs).set j (some x)) vs = wipe σ vs)
    (ht : ∀ (i : Nat) (x : V) H1, Ex H H1 → xs[i]? = some x → EvT t ((wipe σ vs).set j (some x)) H1 (f i)) (he : ∀ (i : Nat) (x : V) H1, Ex H H1 → xs[i]? = some x → f i = true → EvD te ((wipe σ vs).set j (some x)) H1 (d i)) :
    EvLD (tLc (iTup K tl) (gName j) t te vs) σ H ((upTo f xs.length).map d) := fun H1 e Q q => h H1 e _ fun H2 e2 => ⟨a, rfl, ⟨xs, ex_t (e.trans e2) hx⟩, fun D hD =>
  lc_new (Yx := fun i x => xs[i]? = some x) (fun i x => (wipe σ vs).set j (some x)) (walk_tup (K := K) (a := a) (xs := xs)) hD hz (fun H' e' => ex_t ((e.trans e2).trans e') hx) (fun i x H' R _ _ _ r => r) (fun i x => hw x) (fun i x H' e' _ hi => ht i x H' ((e.trans e2).trans e') hi) (fun i x H' e' _ hi => he i x H' ((e.trans e2).trans e') hi)
    (fun us H' e' hD' g => q D us H' (fresh_back e2 hD) (e2.trans e') hD' (g.mono (off_ex (fr_dn e2))))⟩
theorem dl_R1 {ta : TA} {n : Int} (f : Nat → Bool) (d : Nat → PyData) (h : EvA ta σ H [.int n]) (hn : 0 ≤ n ∧ n ≤ 40000) (hw : ∀ x, wipe ((wipe σ vs).set j (some x)) vs = wipe σ vs)
    (ht : ∀ (i : Nat) H1, Ex H H1 → (i : Int) < n → EvT t ((wipe σ vs).set j (some (.int (i : Int)))) H1 (f i)) (he : ∀ (i : Nat) H1, Ex H H1 → (i : Int) < n → f i = true → EvD te ((wipe σ vs).set j (some (.int (i : Int)))) H1 (d i)) :
    EvLD (tLc (iRng1 ta) (gName j) t te vs) σ H ((upTo f n.toNat).map d) := fun H1 e Q q => h H1 e _ fun H2 e2 => ⟨n, rfl, by omega, by omega, fun D hD =>
  lc_new (Yx := fun i x => x = .int ((0 : Int) + (i : Int))) (fun i x => (wipe σ vs).set j (some x)) walk_range hD (by omega) (fun H' e' => trivial) (fun i x H' R _ _ _ r => r) (fun i x => hw x)
    (fun i x H' e' hi hx => by rw [hx, Int.zero_add]; exact ht i H' ((e.trans e2).trans e') (by omega)) (fun i x H' e' hi hx hf => by rw [hx, Int.zero_add]; exact he i H' ((e.trans e2).trans e') (by omega) hf)
    (fun us H' e' hD' g => q D us H' (fresh_back e2 hD) (e2.trans e') hD' (g.mono (off_ex (fr_dn e2))))⟩
theorem dl_R2 {ta : TA} {lo n : Int} (f : Nat → Bool) (d : Nat → PyData) (h : EvA ta σ H [.int lo, .int n]) (hn : 0 ≤ lo ∧ lo ≤ 40000 ∧ 0 ≤ n ∧ n ≤ 40000) (hw : ∀ x, wipe ((wipe σ vs).set j (some x)) vs = wipe σ vs)
    (ht : ∀ (i : Nat) H1, Ex H H1 → lo + (i : Int) < n → EvT t ((wipe σ vs).set j (some (.int (lo + (i : Int))))) H1 (f i)) (he : ∀ (i : Nat) H1, Ex H H1 → lo + (i : Int) < n → f i = true → EvD te ((wipe σ vs).set j (some (.int (lo + (i : Int))))) H1 (d i)) :
    EvLD (tLc (iRng2 ta) (gName j) t te vs) σ H ((upTo f (n - lo).toNat).map d) := fun H1 e Q q => h H1 e _ fun H2 e2 => ⟨lo, n, rfl, ⟨by omega, by omega, by omega, by omega⟩, fun D hD =>
  lc_new (Yx := fun i x => x = .int (lo + (i : Int))) (fun i x => (wipe σ vs).set j (some x)) (walk_range (lo := lo) (n := (n - lo).toNat)) hD (by omega) (fun H' e' => trivial) (fun i x H' R _ _ _ r => r) (fun i x => hw x)
    (fun i x H' e' hi hx => by rw [hx]; exact ht i H' ((e.trans e2).trans e') (by omega)) (fun i x H' e' hi hx hf => by rw [hx]; exact he i H' ((e.trans e2).trans e') (by omega) hf)
    (fun us H' e' hD' g => q D us H' (fresh_back e2 hD) (e2.trans e') hD' (g.mono (off_ex (fr_dn e2))))⟩
end
theorem upTo_map {α : Type} (d : PyData) (l : List α) (c : α) (f : α → PyData) : (upTo (fun _ => true) l.length).map (fun i => f (l.getD i c)) = l.map f := by
  unfold upTo
  rw [List.filter_eq_self.mpr fun _ _ => rfl]
  apply List.ext_getElem (by simp)
  intro i h1 h2
  have h3 : i < l.length := by simpa using h2
  simp [List.getD_eq_getElem?_getD, List.getElem?_eq_getElem h3]
theorem upTo_filt {α : Type} (l : List α) (c : α) (p : α → Bool) (f : α → PyData) : (upTo (fun i => p (l.getD i c)) l.length).map (fun i => f (l.getD i c)) = (l.filter p).map f := by
  have h : ∀ (l r : List α), ((List.range' r.length l.length).filter fun i => p ((r ++ l).getD i c)).map (fun i => f ((r ++ l).getD i c)) = (l.filter p).map f := by
    intro l
    induction l with
    | nil => intro r; rfl
    | cons x l ih =>
      intro r
      have e : (r ++ x :: l).getD r.length c = x := by simp [List.getD_eq_getElem?_getD]
      have ih2 := ih (r ++ [x])
      rw [List.append_assoc, List.length_append] at ih2
      change ((List.range' (r.length + 1) l.length).filter fun i => p ((r ++ x :: l).getD i c)).map (fun i => f ((r ++ x :: l).getD i c)) = (l.filter p).map f at ih2
      rw [List.length_cons, List.range'_succ, List.filter_cons, List.filter_cons, e]
      cases hp : p x with
      | true =>
        simp only [if_true, List.map_cons, e]
        rw [ih2]
      | false =>
        simp only [Bool.false_eq_true, if_false]
        exact ih2
  have := h l []
  simp only [List.length_nil, List.nil_append] at this
  unfold upTo
  rw [List.range_eq_range']
  exact this
end Wk

set_option Elab.async false
set_option linter.all false
set_option maxRecDepth 100000
set_option maxHeartbeats 400000
namespace Wk
open PySem PySem.Spec PyProof.Rows L2 Evl
theorem ix_tupK {X : Cx} {K : PySem.W.Frag} (hK : X.K = K) : IxR X (rIxT K) := by
  subst hK
  exact ix_tup
/-! a row that is read -/
def EvRow (tl : TE) (σ : L2.St) (H : Hp) (row : List Wy) : Prop := ∀ H1, Ex H H1 → ∀ Q : VK, (∀ u H2, Ex H1 H2 → Dq H2 u (rd row) → Q u H2) → tl σ H1 Q
section
variable {K : PySem.W.Frag} {t : TT} {te tl : TE} {σ : L2.St} {H : Hp} {j : Nat} {vs : List Nat} {row : List Wy}
theorem dl_W (f : Nat → Bool) (d : Nat → PyData) (h : EvRow tl σ H row) (hz : row.length ≤ 40000) (hw : ∀ x, wipe ((wipe σ vs).set j (some x)) vs = wipe σ vs)
    (ht : ∀ (i : Nat) (a : Addr) (w : Wy) H1, Ex H H1 → row[i]? = some w → H1 a = some (.tup (w.map V.int)) → EvT t ((wipe σ vs).set j (some (.ref a))) H1 (f i)) (he : ∀ (i : Nat) (a : Addr) (w : Wy) H1, Ex H H1 → row[i]? = some w → H1 a = some (.tup (w.map V.int)) → f i = true → EvD te ((wipe σ vs).set j (some (.ref a))) H1 (d i)) :
    EvLD (tLc (iTup K tl) (gName j) t te vs) σ H ((upTo f row.length).map d) := fun H1 e Q q => h H1 e _ fun u H2 e2 hu => by
  unfold rd at hu
  cases hu with
  | @tup a xs _ a1 a2 =>
    have l1 := a2.length
    rw [List.length_map] at l1
    refine ⟨a, rfl, ⟨xs, st_of a1⟩, fun D hD => ?_⟩
    have at_ : ∀ {i : Nat} {x : V} {H' : Hp}, Ex H2 H' → xs[i]? = some x → ∃ b w, row[i]? = some w ∧ x = .ref b ∧ H' b = some (.tup (w.map V.int)) := fun {i x H'} e' hx => by
      obtain ⟨w, w1, w2⟩ := a2.wds_inv hx
      obtain ⟨b, rfl, hb⟩ := wd_ref w2
      exact ⟨b, w, w1, rfl, e' _ _ hb⟩
    exact lc_new (Yx := fun i x => xs[i]? = some x) (fun i x => (wipe σ vs).set j (some x)) (walk_tup (K := K) (a := a) (xs := xs)) hD (by omega) (fun H' e' => st_of (e' _ _ a1)) (fun i x H' R _ _ _ r => r) (fun i x => hw x)
      (fun i x H' e' _ hi => by
        obtain ⟨b, w, w1, rfl, w2⟩ := at_ e' hi
        exact ht i b w H' ((e.trans e2).trans e') w1 w2) (fun i x H' e' _ hi hf => by
        obtain ⟨b, w, w1, rfl, w2⟩ := at_ e' hi
        exact he i b w H' ((e.trans e2).trans e') w1 w2 hf)
      (fun us H' e' hD' g => q D us H' (fresh_back e2 hD) (e2.trans e') hD' (by rw [l1] at g; exact g.mono (off_ex (fr_dn e2))))
theorem row_ways {CW CN : Addr} {W : L2.St → XK} {ta ti : TE} {v : V} {rows : List (List Wy)} {i : Nat} (ha : Ev ta σ H v) (hw : WO CW H v rows) (hi : Ev ti σ H (.int (i : Int))) (hr : rows[i]? = some row) : EvRow (tMeAt CW "ways" (spWays CW CN) W ta (tCons ti tNil)) σ H row := fun H1 e Q q =>
  t_ways (ha.mono e) (hw.up e) (hi.mono e) hr fun u H' e' hu => q u H' e' hu
/-- way[1:] -/
theorem d_tail {tw : TE} {a : Addr} {w : Wy} (hw : Ev tw σ H (.ref a)) (ha : H a = some (.tup (w.map V.int))) : EvD (tSl (rSlA K) tw (tPart (tC (.int 1))) tNoPart) σ H (wd (w.drop 1)) := fun H1 e Q q =>
  hw H1 e _ fun H2 e2 => by
    have h2 := (e.trans e2) _ _ ha
    have hc : cutV (w.map V.int) (some 1) none = (w.drop 1).map V.int := drop1 w
    refine ⟨1, rfl, a, _, rfl, st_of h2, fun hz => ?_, fun hz p hp => ?_⟩
    · have ec : cutV (w.map V.int) (some 1) none = w.map V.int := by
        unfold cutV
        rw [hz.1, hz.2]
        simp
        exact List.take_of_length_le (by simp)
      rw [hc] at ec
      refine q _ H2 e2 (dq_fr e2 (noL_wd _) (wd_of ?_))
      rw [ec]
      exact h2
    · rw [hc]
      have e3 := Ex.new (o := .tup ((w.drop 1).map V.int)) hp
      exact q _ _ (e2.trans e3) (dq_fr (e2.trans e3) (noL_wd _) (wd_of upd_same))
end
/-! heard_ways, offered -/
def restsW (rows : List (List Wy)) (p : Wy) : List Wy := ((rows.getD (p.getD 1 0).toNat []).filter fun w => decide (w.getD 1 0 = p.getD 0 0)).map (List.drop 1)
section
variable {P : Program} {w : World} {K : PySem.W.Frag} {mg : Str → Option Value} {base : Heap} {f : Addr} {fd : FuncData} {CW CN : Addr}
def spHeard (CW : Addr) : Sp := fun vs H Q _ => ∃ (wv pv : V) (rows : List (List Wy)) (u v : Nat), vs = [wv, pv] ∧ WO CW H wv rows ∧ Dq H pv (wd [(u : Int), (v : Int)]) ∧ v < rows.length ∧ ∀ H' l us, H l = none → Ex H H' → H' l = some (.lst us) → DqA (off l (Fr H H')) us ((restsW rows [(u : Int), (v : Int)]).map wd) → Q (.ref l) H'
abbrev sHeard : Stmt := top 34
abbrev nHeard : List Str := ["wishes", "pair", "way"]
theorem scHeard : FnScope nHeard ["wishes", "pair"] (defScope sHeard) := ⟨rfl, rfl, rfl, by decide +kernel, rfl, by decide +kernel, by decide +kernel⟩
theorem ok_heard (W : WC P w K mg base CW CN) (F : FnP K "heard_ways" sHeard f fd) : FnOk P w K mg base CX0 6 f fd ["wishes", "pair"] (spHeard CW) := by
  obtain ⟨fM, fdM, me, FM, bM⟩ := W.wy
  refine F.ok scHeard (fun vs H Q E h => ?_) (fun cdv A outer s H vs Q E hr h => ?_)
  · obtain ⟨wv, pw, rows, u, v, rfl, _⟩ := h
    rfl
  · obtain ⟨wv, pw, rows, u, v, rfl, hw, hp, hv, k⟩ := h
    refine ⟨_, pss_one (ps_ret (pe_lc (own := [("way", 2)]) (g := gName 2) rfl scHeard.nd (pi_tupK (K := K) rfl (pe_meAt (pv 0) W.tx.cl me FM hr bM (fun σ => passAt takes0 σ) (pa_cons (pe_ix ix_tup (pv 1) pe_int (fun _ _ => rfl)) pa_nil))) (blkOk_by (N := nHeard) (sc := defScope sHeard) (by decide +kernel))
      (fun _ _ _ _ _ => pg_name (i := 2) scHeard.nd rfl (Or.inl rfl)) (fun _ _ _ _ _ => pts_one (pt_cmpR op_eq (pe_ix (ix_tupK (K := K) rfl) (pv 2) pe_int (fun _ _ => rfl)) (pe_ix (ix_tupK (K := K) rfl) (pv 1) pe_int (fun _ _ => rfl)) (nomark _)))
      (fun _ _ _ _ _ => pe_slice (sl_tupK (K := K) rfl) (pv 2) (po_some pe_int) po_none))), ?_⟩
    obtain ⟨pa, rfl, hpa⟩ := wd_ref hp
    have hrw : rows[v]? = some rows[v] := List.getElem?_eq_getElem hv
    have h6 := hw.r6 _ (List.getElem_mem hv)
    have hok : ∀ x ∈ rows[v], WyOk rows.length v x := hw.g.ok v _ hrw
    have hrest : restsW rows [(u : Int), (v : Int)] = (rows[v].filter fun w => decide (w.getD 1 0 = (u : Int))).map (List.drop 1) := by
      unfold restsW
      have e : rows.getD (([(u : Int), (v : Int)] : Wy).getD 1 0).toNat [] = rows[v] := by
        show rows.getD ((v : Int)).toNat [] = _
        rw [Int.toNat_natCast, List.getD_eq_getElem?_getD, hrw]
        rfl
      rw [e]
      rfl
    generalize rows[v] = row at *
    refine ret_any ?_
    refine dl_W (K := K) (row := row) (fun i => decide ((row.getD i []).getD 1 0 = (u : Int))) (fun i => wd ((row.getD i []).drop 1)) (row_ways (ev_var rfl) hw (ev_at (K := K) (j := 1) (ev_var (i := 1) rfl) (st_of hpa) (ev_is ev_c rfl) rfl) hrw) (by omega) (fun x => rfl) (fun i a w H1 e hi ha => ?_) (fun i a w H1 e hi ha _ => ?_) H (Ex.refl _) _ fun l us H' np e hl hus => k H' l us np e hl ?_
    · have eg : row.getD i [] = w := by rw [List.getD_eq_getElem?_getD, hi]; rfl
      have l2 := (hok w (List.mem_of_getElem? hi)).l2
      show EvT _ _ _ (decide ((row.getD i []).getD 1 0 = (u : Int)))
      rw [eg, ← int_dec]
      refine et_test (ev_op (ev_at (K := K) (j := 1) (ev_var (i := 2) rfl) (st_of ha) (ev_is ev_c rfl) ?_) (ev_at (K := K) (j := 0) (ev_var (i := 1) rfl) (st_of (e _ _ hpa)) (ev_is ev_c rfl) rfl) (rv_eq rfl))
      rw [List.getElem?_map, List.getD_eq_getElem?_getD, List.getElem?_eq_getElem (show 1 < w.length by omega)]
      rfl
    · have eg : row.getD i [] = w := by rw [List.getD_eq_getElem?_getD, hi]; rfl
      show EvD _ _ _ (wd ((row.getD i []).drop 1))
      rw [eg]
      exact d_tail (ev_var (i := 2) rfl) ha
    · rw [upTo_filt row [] (fun w => decide (w.getD 1 0 = (u : Int))) (fun w => wd (w.drop 1))] at hus
      rw [hrest, List.map_map]
      exact hus
/-! offered: each way with the place of the line that it hears -/
def plV (o : Option Nat) : V := match o with
  | some i => .int (i : Int)
  | none => .non
def plD (o : Option Nat) : PyData := match o with
  | some i => .int (i : Int)
  | none => .none
theorem dq_pl {H : Hp} (o : Option Nat) : Dq H (plV o) (plD o) := by
  cases o with
  | none => exact .non
  | some i => exact .int _
theorem noL_pl (o : Option Nat) : noL (plD o) = true := by cases o <;> rfl
/-- the place of a line -/
def plW (ls : List Wy) (p : Wy) : Option Nat := if p ∈ ls then some (ls.idxOf p) else none
/-- a dict that tells the places -/
def PlK (ls : List Wy) (kvs : List (List L2.Key × V)) : Prop := ∀ p : Wy, (valV kvs (keyW p)).getD .non = plV (plW ls p)
def offD (ls : List Wy) (r : Nat) (w : Wy) : PyData := .tuple [wd w, plD (plW ls [w.getD 1 0, (r : Int)])]
def spOffered (CW : Addr) : Sp := fun vs H Q _ => ∃ (wv : V) (D : Addr) (rows : List (List Wy)) (ls : List Wy) (kvs : List (List L2.Key × V)) (r : Nat), vs = [wv, .int (r : Int), .ref D] ∧ WO CW H wv rows ∧ r < rows.length ∧ H D = some (.dT kvs) ∧ PlK ls kvs ∧
  ∀ H' l us, H l = none → Ex H H' → H' l = some (.lst us) → DqA (off l (Fr H H')) us ((rows.getD r []).map (offD ls r)) → Q (.ref l) H'
abbrev sOffered : Stmt := top 35
abbrev nOffered : List Str := ["wishes", "router", "places", "way"]
theorem scOffered : FnScope nOffered ["wishes", "router", "places"] (defScope sOffered) := ⟨rfl, rfl, rfl, by decide +kernel, rfl, by decide +kernel, by decide +kernel⟩
theorem d_get {σ : L2.St} {H : Hp} {D : Addr} {kvs : List (List L2.Key × V)} {ls : List Wy} {td tk : TE} {p : Wy} (hd : Ev td σ H (.ref D)) (hD : H D = some (.dT kvs)) (hp : PlK ls kvs) (hk : EvU tk σ H (p.map V.int)) : EvD (tDGet1 td tk) σ H (plD (plW ls p)) := fun H1 e Q q =>
  hd H1 e _ fun H2 e2 => ⟨D, rfl, .inr ⟨kvs, .inl ((e.trans e2) _ _ hD)⟩, hk H2 (e.trans e2) _ fun b H3 nb e3 hb => ⟨_, DGet.t (k := keyW p) (((e.trans e2).trans e3) _ _ hD) (by rw [keyW_kV]; exact hb), by
    rw [hp p]
    exact q _ H3 (e2.trans e3) (dq_fr (e2.trans e3) (noL_pl _) (dq_pl _))⟩⟩
theorem ok_offered (W : WC P w K mg base CW CN) (F : FnP K "offered" sOffered f fd) : FnOk P w K mg base CX0 6 f fd ["wishes", "router", "places"] (spOffered CW) := by
  obtain ⟨fM, fdM, me, FM, bM⟩ := W.wy
  refine F.ok scOffered (fun vs H Q E h => ?_) (fun cdv A outer s H vs Q E hr h => ?_)
  · obtain ⟨wv, D, rows, ls, kvs, r, rfl, _⟩ := h
    rfl
  · obtain ⟨wv, D, rows, ls, kvs, r, rfl, hw, hr1, hD, hpk, k⟩ := h
    have hu : (A.deeper (envOfC "offered" (defScope sOffered) s.heap.objs.size f cdv)).units + 1 < cLine := by have := hr.un; omega
    refine ⟨_, pss_one (ps_ret (pe_lc (own := [("way", 3)]) (g := gName 3) (tt := tYes) rfl scOffered.nd (pi_tupK (K := K) rfl (pe_meAt (pv 0) W.tx.cl me FM hr bM (fun σ => passAt takes0 σ) (pa_cons (pv 1) pa_nil))) (blkOk_by (N := nOffered) (sc := defScope sOffered) (by decide +kernel))
      (fun _ _ _ _ _ => pg_name (i := 3) scOffered.nd rfl (Or.inl rfl)) (fun _ _ _ _ _ => pts_nil)
      (fun _ _ _ _ _ => pe_tup (pa_cons (pv 3) (pa_cons (pe_dget1 hu (pv 2) (pe_tup (pa_cons (pe_ix (ix_tupK (K := K) rfl) (pv 3) pe_int (fun _ _ => rfl)) (pa_cons (pv 1) pa_nil))) ⟨rfl, rfl, rfl, rfl⟩) pa_nil))))), ?_⟩
    have hrw : rows[r]? = some rows[r] := List.getElem?_eq_getElem hr1
    have h6 := hw.r6 _ (List.getElem_mem hr1)
    have hok : ∀ x ∈ rows[r], WyOk rows.length r x := hw.g.ok r _ hrw
    have er : rows.getD r [] = rows[r] := by rw [List.getD_eq_getElem?_getD, hrw]; rfl
    rw [er] at k
    generalize rows[r] = row at *
    refine ret_any ?_
    refine dl_W (K := K) (row := row) (fun i => true) (fun i => offD ls r (row.getD i [])) (row_ways (ev_var rfl) hw (ev_var (i := 1) rfl) hrw) (by omega) (fun x => rfl) (fun i a w H1 e hi ha => et_yes) (fun i a w H1 e hi ha _ => ?_) H (Ex.refl _) _ fun l us H' np e hl hus => k H' l us np e hl ?_
    · have eg : row.getD i [] = w := by rw [List.getD_eq_getElem?_getD, hi]; rfl
      have l2 := (hok w (List.mem_of_getElem? hi)).l2
      show EvD _ _ _ (offD ls r (row.getD i []))
      rw [eg]
      refine d_tup (d_cons (d_ev (ev_var (i := 3) rfl) (noL_wd w) fun H2 e2 => wd_of (e2 _ _ ha)) (d_cons (d_get (p := [w.getD 1 0, (r : Int)]) (ev_var (i := 2) rfl) (e _ _ hD) hpk (eu_tup (ea_cons (ev_at (K := K) (j := 1) (ev_var (i := 3) rfl) (st_of ha) (ev_is ev_c rfl) ?_) (ea_cons (ev_var (i := 1) rfl) ea_nil)) (by simp))) d_nil)) (by simp)
      rw [List.getElem?_map, List.getD_eq_getElem?_getD, List.getElem?_eq_getElem (show 1 < w.length by omega)]
      rfl
    · rw [upTo_map .none row [] (offD ls r)] at hus
      exact hus
end
end Wk

set_option Elab.async false
set_option linter.all false
set_option maxRecDepth 100000
set_option maxHeartbeats 400000
namespace Wk
open PySem PySem.Spec PyProof.Rows L2 Evl
/-! lines -/
theorem ln_in {rows : List (List Wy)} (hG : GW rows) (h8 : rows.length ≤ 8) (p : Wy) : p ∈ linesW rows ↔ p ∈ pairsW rows := by
  unfold linesW
  rw [List.mem_map]
  constructor
  · rintro ⟨c, hc, rfl⟩
    exact of_decide_eq_true (List.mem_filter.mp hc).2
  · intro h
    obtain ⟨u, v, hu, hv, rfl⟩ := pairs_bd hG h8 p h
    exact ⟨u * 8 + v, List.mem_filter.mpr ⟨List.mem_range.mpr (by omega), decide_eq_true (by rw [cd_pair hv]; exact h)⟩, cd_pair hv⟩
theorem ln_shape {rows : List (List Wy)} (hG : GW rows) (h8 : rows.length ≤ 8) {p : Wy} (h : p ∈ linesW rows) : ∃ u v : Nat, p = [(u : Int), (v : Int)] ∧ 1 ≤ u ∧ u < rows.length ∧ 1 ≤ v ∧ v < rows.length := by
  obtain ⟨w, hw, rfl⟩ := List.mem_map.mp ((ln_in hG h8 p).mp h)
  obtain ⟨hw, hb⟩ := List.mem_filter.mp hw
  obtain ⟨row, hr, hwr⟩ := List.mem_flatten.mp hw
  obtain ⟨i, hi, rfl⟩ := List.getElem_of_mem hr
  have hri : rows[i]? = some rows[i] := List.getElem?_eq_getElem hi
  have ok := hG.ok i _ hri w hwr
  have l2 := ok.l2
  have h1 : w.getD 1 0 = w[1] := by rw [List.getD_eq_getElem?_getD, List.getElem?_eq_getElem (show 1 < w.length by omega)]; rfl
  have h0 : w.getD 0 0 = (i : Int) := by rw [List.getD_eq_getElem?_getD, ok.hd]; rfl
  have b := ok.rg _ (List.getElem_mem (show 1 < w.length by omega))
  have hi1 : 1 ≤ i := by
    rcases Nat.eq_zero_or_pos i with z | z
    · subst z
      have := hG.goal _ hri
      rw [this] at hwr
      cases hwr
    · exact z
  have hne : ¬ w[1] = 0 := by
    unfold lnB at hb
    rw [h1] at hb
    simpa using hb
  refine ⟨w[1].toNat, i, ?_, by omega, by omega, hi1, hi⟩
  unfold prW
  rw [h1, h0, Int.toNat_of_nonneg b.1]
theorem ln_nd (rows : List (List Wy)) : (linesW rows).Nodup := by
  unfold linesW List.Nodup
  rw [List.pairwise_map]
  refine List.Pairwise.imp (R := fun a b => a < b) ?_ (List.Pairwise.filter _ List.pairwise_lt_range)
  intro a b hab e
  unfold cdW at e
  injection e with e1 e2
  injection e2 with e2 _
  omega
theorem lnw_len (rows : List (List Wy)) : (linesW rows).length ≤ 64 := by
  unfold linesW
  rw [List.length_map]
  refine Nat.le_trans (List.length_filter_le _ _) ?_
  rw [List.length_range]
  exact Nat.le_refl _
theorem ln_way {rows : List (List Wy)} (hG : GW rows) (h8 : rows.length ≤ 8) {r : Nat} {row : List Wy} {w : Wy} (hr : rows[r]? = some row) (hw : w ∈ row) (hn : w.getD 1 0 ≠ 0) : [w.getD 1 0, (r : Int)] ∈ linesW rows := by
  rw [ln_in hG h8]
  have ok := hG.ok r _ hr w hw
  have h0 : w.getD 0 0 = (r : Int) := by rw [List.getD_eq_getElem?_getD, ok.hd]; rfl
  refine List.mem_map.mpr ⟨w, List.mem_filter.mpr ⟨List.mem_flatten.mpr ⟨row, List.mem_of_getElem? hr, hw⟩, by unfold lnB; simp only [Bool.not_eq_true', decide_eq_false_iff_not]; exact hn⟩, ?_⟩
  unfold prW
  rw [h0]
/-! data beside an object that changes -/
def Of1 (x : Addr) (H H' : Hp) : Prop := ∀ b o, b ≠ x → H b = some o → H' b = some o
theorem Of1.ex {x : Addr} {H H' : Hp} (e : Ex H H') : Of1 x H H' := fun b o _ h => e b o h
theorem Of1.trans {x : Addr} {H H1 H2 : Hp} (a : Of1 x H H1) (b : Of1 x H1 H2) : Of1 x H H2 := fun c o n h => b c o n (a c o n h)
theorem Of1.upd (x : Addr) (H : Hp) (o : HO) : Of1 x H (L2.upd H x o) := fun b u hb h => by rw [upd_ne hb]; exact h
mutual
theorem dq_of1 {x C dx : Addr} {fs : List (Str × V)} {H H' : Hp} (o : Of1 x H H') (hx : H x = some (.ins C dx fs)) : ∀ {d : PyData} {v : V}, Dq H v d → Dq H' v d
  | .none, _, .non => .non
  | .bool _, _, .bl b => .bl b
  | .int _, _, .int i => .int i
  | .str _, _, .str x => .str x
  | .list _, _, .lst h a => .lst (o _ _ (fun z => by rw [z, hx] at h; cases h) h) (dqa_of1 o hx a)
  | .tuple _, _, .tup h a => .tup (o _ _ (fun z => by rw [z, hx] at h; cases h) h) (dqa_of1 o hx a)
  | .dict _, _, .dic h => .dic (o _ _ (fun z => by rw [z, hx] at h; cases h) h)
theorem dqa_of1 {x C dx : Addr} {fs : List (Str × V)} {H H' : Hp} (o : Of1 x H H') (hx : H x = some (.ins C dx fs)) : ∀ {ds : List PyData} {vs : List V}, DqA H vs ds → DqA H' vs ds
  | [], _, .nil => .nil
  | _ :: _, _, .cons h t => .cons (dq_of1 o hx h) (dqa_of1 o hx t)
end
theorem WO.of1 {CW : Addr} {x C dx w : Addr} {fs : List (Str × V)} {H H' : Hp} {rows : List (List Wy)} (h : WO CW H (.ref w) rows) (nw : w ≠ x) (o : Of1 x H H') (hx : H x = some (.ins C dx fs)) : WO CW H' (.ref w) rows := by
  obtain ⟨w', dw, lv, h1, h2, h3⟩ := h.ex
  injection h1 with h1
  subst h1
  exact ⟨⟨w, dw, lv, rfl, o _ _ nw h2, dq_of1 o hx h3⟩, h.g, h.n2, h.n8, h.r6⟩
/-! {pair: place for place, pair in enumerate(pairs)} -/
def KPl (ls : List Wy) (i : Nat) (kvs : List (List L2.Key × V)) : Prop := ∀ q, (∃ j p, j < i ∧ ls[j]? = some p ∧ keyW p = q ∧ valV kvs q = some (.int (j : Int))) ∨ (valV kvs q = none ∧ ∀ j p, j < i → ls[j]? = some p → keyW p ≠ q)
theorem KPl.plk {ls : List Wy} {kvs : List (List L2.Key × V)} (h : KPl ls ls.length kvs) (nd : ls.Nodup) : PlK ls kvs := fun p => by
  unfold plW
  rcases h (keyW p) with ⟨j, p', hj, h1, h2, h3⟩ | ⟨h1, h2⟩
  · have e := keyW_inj h2
    subst e
    have hm := List.mem_of_getElem? h1
    rw [if_pos hm, h3]
    have : ls.idxOf p' = j := by
      have h4 := List.idxOf_lt_length_iff.mpr hm
      have h5 : ls[ls.idxOf p'] = p' := List.getElem_idxOf h4
      have h6 : ls[j] = p' := (List.getElem?_eq_some_iff.mp h1).2
      exact (List.getElem_inj nd).mp (h5.trans h6.symm)
    rw [this]
    rfl
  · rw [if_neg, h1]
    · rfl
    · intro hm
      obtain ⟨j, hj, e⟩ := List.getElem_of_mem hm
      exact h2 j p hj (by rw [List.getElem?_eq_getElem hj, e]) rfl
theorem t_places {K : PySem.W.Frag} {tl : TE} {σ : L2.St} {H : Hp} {a : Addr} {us : List V} {ls : List Wy} {i j : Nat} {vs : List Nat} {Q : VK} (h : Ev tl σ H (.ref a)) (ha : H a = some (.lst us)) (hus : DqA H us (ls.map wd)) (hz : ls.length ≤ 1000) (hw : ∀ x y, wipe (((wipe σ vs).set i (some x)).set j (some y)) vs = wipe σ vs)
    (hi : ∀ x y, (((wipe σ vs).set i (some x)).set j (some y))[i]? = some (some x)) (hj : ∀ x y, (((wipe σ vs).set i (some x)).set j (some y))[j]? = some (some y))
    (k : ∀ D kvs H', H D = none → Ex H H' → H' D = some (.dT kvs) → KPl ls ls.length kvs → Q (.ref D) H') : tDq (iEnum K (tCons tl tNil)) (gTup K 2 (gCons (gName i) (gCons (gName j) gNil))) tYes (tVar j) (tVar i) vs σ H Q := by
  refine h H (Ex.refl _) _ fun H1 e1 => ⟨a, us, rfl, sq_of (e1 _ _ ha), fun D hD => ?_⟩
  have hul := hus.length
  rw [List.length_map] at hul
  have w := walk_enum (K := K) (a := a) (xs := us)
  have hGd : ∀ {H' : Hp}, Ex H1 H' → SqL K H' a us := fun e => sq_of (e _ _ (e1 _ _ ha))
  refine ⟨fun n m H' => m = us.length - n ∧ n ≤ us.length ∧ Ex H1 H' ∧ ∃ kvs, H' D = some (.dT kvs) ∧ kvs.length ≤ n ∧ KPl ls n kvs, ⟨us.length, by simp, Nat.zero_le _, Ex.new hD, [], upd_same, Nat.le_refl _, fun q => .inr ⟨rfl, fun j p hj => absurd hj (Nat.not_lt_zero _)⟩⟩, ?_⟩
  rintro n m H2 ⟨rfl, hn, p2, kvs, p3, p4, p5⟩
  by_cases lt : n < us.length
  · refine .inr ⟨w.goes n H2 lt (hGd p2), fun H' => Ex H1 H' ∧ ∃ kvs, H' D = some (.dT kvs) ∧ kvs.length ≤ n + 1 ∧ KPl ls (n + 1) kvs, fun Ha q => ⟨us.length - (n + 1), by omega, rfl, lt, q⟩, fun x Ha y => ?_⟩
    obtain ⟨T, x1, y1, rfl, hT, rfl, hx1, hy1⟩ := w.yields n H2 x Ha lt (hGd p2) y
    cases hx1
    obtain ⟨p, hp1, hp2⟩ := hus.wds_inv hy1
    obtain ⟨b, rfl, hb⟩ := wd_ref hp2
    have eT := Ex.new (o := .tup [V.int (n : Int), .ref b]) hT
    refine ⟨T, _, rfl, st_of upd_same, rfl, g_two ⟨hw _ _, ?_⟩⟩
    refine ⟨.ref b, hj _ _, .int (n : Int), hi _ _, ?_⟩
    have d3 := eT _ _ p3
    refine ⟨_, DPut.t (k := keyW p) d3 (by rw [keyW_kV]; exact eT _ _ (p2 _ _ (e1 _ _ hb))) (sz_lt (by omega)), Ex.mut (p2.trans eT) hD, _, upd_same, ?_, fun q => ?_⟩
    · have := length_putK kvs (keyW p) (V.int (n : Int))
      omega
    · rw [valV_put]
      by_cases e : q = keyW p
      · rw [if_pos e]
        exact .inl ⟨n, p, Nat.lt_succ_self n, hp1, e.symm, rfl⟩
      · rw [if_neg e]
        rcases p5 q with ⟨j', p', z1, z2, z3, z4⟩ | ⟨z, z2⟩
        · exact .inl ⟨j', p', by omega, z2, z3, z4⟩
        · refine .inr ⟨z, fun j' p' hj' hp' => ?_⟩
          rcases Nat.lt_succ_iff_lt_or_eq.mp hj' with z3 | z3
          · exact z2 j' p' z3 hp'
          · subst z3
            rw [hp1] at hp'
            cases hp'
            exact fun z4 => e z4.symm
  · have e : n = us.length := by omega
    subst e
    refine .inl ⟨w.stops H2 (hGd p2), k D kvs H2 (fresh_back e1 hD) (e1.trans p2) p3 (by rw [← hul]; exact p5)⟩
end Wk

set_option Elab.async false
set_option linter.all false
set_option maxRecDepth 100000
set_option maxHeartbeats 400000
namespace Wk
open PySem PySem.Spec PyProof.Rows L2 Evl
theorem lk_putF {f g : Str} {v : V} {fs : List (Str × V)} (h : ¬ g = f) : (putF f v fs).lookup g = fs.lookup g := by rw [lookup_putF, if_neg h]
theorem lk_putS {f : Str} {v : V} {fs : List (Str × V)} : (putF f v fs).lookup f = some v := by rw [lookup_putF, if_pos rfl]
theorem len_putF (f : Str) (v : V) : ∀ fs : List (Str × V), (putF f v fs).length ≤ fs.length + 1
  | [] => Nat.le_refl _
  | (g, x) :: r => by
    have ih := len_putF f v r
    unfold putF
    split
    · simp
    · simp only [List.length_cons]; omega
theorem pe_fldK {X : Cx} {K : PySem.W.Frag} {e : Expr} {ta : TE} {f : Str} {pos : Pos} (hK : X.K = K) (he : PE X e ta) (hb : attributeBase e f X.env (eval e X.env) = eval e X.env) : PE X (.Attribute e f pos) (tFld K ta f) := by
  subst hK
  exact pe_fld he hb
theorem q_fldU {K : PySem.W.Frag} {ta tv : TE} {f : Str} {tz : TS} {D : Ends} {σ : L2.St} {H : Hp} (h : tv σ H fun y H1 => ta σ H1 fun x H2 => ∃ a C dx fs, x = .ref a ∧ H2 a = some (.ins C dx fs) ∧ Cls K C ∧ NoAttr K C f ∧ fs.length < 1000 ∧ tz D σ (upd H2 a (.ins C dx (putF f y fs)))) : tSeq (sFld K ta tv f) tz D σ H := h
theorem s_fldU {K : PySem.W.Frag} {ta tv : TE} {f : Str} {D : Ends} {σ : L2.St} {H : Hp} (h : tv σ H fun y H1 => ta σ H1 fun x H2 => ∃ a C dx fs, x = .ref a ∧ H2 a = some (.ins C dx fs) ∧ Cls K C ∧ NoAttr K C f ∧ fs.length < 1000 ∧ D.nx σ (upd H2 a (.ins C dx (putF f y fs)))) : sFld K ta tv f D σ H := h
/-- over a list of pairs -/
theorem dl_P {K : PySem.W.Frag} {te tl : TE} {σ : L2.St} {H : Hp} {a : Addr} {us : List V} {ls : List Wy} {i j : Nat} {vs : List Nat} (d : Nat → PyData) (h : Ev tl σ H (.ref a)) (ha : H a = some (.lst us)) (hus : DqA H us (ls.map wd)) (h2 : ∀ p ∈ ls, ∃ u v : Int, p = [u, v]) (hz : ls.length ≤ 40000)
    (hw : ∀ x y, wipe (((wipe σ vs).set i (some x)).set j (some y)) vs = wipe σ vs) (he : ∀ n u v H1, Ex H H1 → ls[n]? = some [u, v] → EvD te (((wipe σ vs).set i (some (.int u))).set j (some (.int v))) H1 (d n)) :
    EvLD (tLc (iList K tl) (gTup K 2 (gCons (gName i) (gCons (gName j) gNil))) tYes te vs) σ H ((upTo (fun _ => true) ls.length).map d) := fun H1 e Q q => h H1 e _ fun H2 e2 => by
  have hul := hus.length
  rw [List.length_map] at hul
  refine ⟨a, rfl, ⟨us, sq_of ((e.trans e2) _ _ ha)⟩, fun D hD => ?_⟩
  have at_ : ∀ {n : Nat} {x : V} {H' : Hp}, Ex H2 H' → us[n]? = some x → ∃ b u v, ls[n]? = some [u, v] ∧ x = .ref b ∧ H' b = some (.tup [.int u, .int v]) := fun {n x H'} e' hx => by
    obtain ⟨p, p1, p2⟩ := hus.wds_inv hx
    obtain ⟨b, rfl, hb⟩ := wd_ref p2
    obtain ⟨u, v, rfl⟩ := h2 p (List.mem_of_getElem? p1)
    exact ⟨b, u, v, p1, rfl, ((e.trans e2).trans e') _ _ hb⟩
  refine lc_new (Yx := fun n x => us[n]? = some x) (f := fun _ => true) (d := d) (fun n x => ((wipe σ vs).set i (some (.int ((ls.getD n []).getD 0 0)))).set j (some (.int ((ls.getD n []).getD 1 0)))) (walk_list (K := K) (a := a) (xs := us)) hD (by omega) (fun H' e' => sq_of (((e.trans e2).trans e') _ _ ha))
    (fun n x H' R e' _ hx r => ?_) (fun n x => hw _ _) (fun n x H' e' _ hx => et_yes) (fun n x H' e' _ hx _ => ?_) (fun us' H' e' hD' g => q D us' H' (fresh_back e2 hD) (e2.trans e') hD' (by rw [hul] at g; exact g.mono (off_ex (fr_dn e2))))
  · obtain ⟨b, u, v, p1, rfl, hb⟩ := at_ e' hx
    have eg : ls.getD n [] = [u, v] := by rw [List.getD_eq_getElem?_getD, p1]; rfl
    rw [eg] at r
    exact ⟨b, _, rfl, st_of hb, rfl, g_two r⟩
  · obtain ⟨b, u, v, p1, rfl, hb⟩ := at_ e' hx
    have eg : ls.getD n [] = [u, v] := by rw [List.getD_eq_getElem?_getD, p1]; rfl
    show EvD te (((wipe σ vs).set i (some (.int ((ls.getD n []).getD 0 0)))).set j (some (.int ((ls.getD n []).getD 1 0)))) H' (d n)
    rw [eg]
    exact he n u v H' ((e.trans e2).trans e') p1
theorem upTo_range (n : Nat) : upTo (fun _ => true) n = List.range n := by
  unfold upTo
  exact List.filter_eq_self.mpr fun _ _ => rfl
/-! works -/
structure KTx (K : PySem.W.Frag) (mg : Str → Option Value) (CK : Addr) : Prop where
  cl : Cls K CK
  n1 : NoAttr K CK "wishes"
  n2 : NoAttr K CK "places"
  n3 : NoAttr K CK "heard"
  n4 : NoAttr K CK "offers"
  n5 : NoAttr K CK "steps"
  g : mg "Works" = some (.ref CK)
def heardD (rows : List (List Wy)) : List PyData := (linesW rows).map fun p => .list ((restsW rows p).map wd)
def offersD (rows : List (List Wy)) : List PyData := (List.range rows.length).map fun r => .list ((rows.getD r []).map (offD (linesW rows) r))
def tellD (p : Wy) : PyData := .tuple (.str "tell" :: p.map PyData.int)
def stepsD (rows : List (List Wy)) : List PyData := (linesW rows).map tellD ++ (List.range (rows.length - 1)).map fun i => .tuple [.str "choose", .int ((i + 1 : Nat) : Int)]
structure WkO (CK CW : Addr) (H : Hp) (x : Addr) (wv : V) (rows : List (List Wy)) : Prop where
  ex : ∃ (dx P S : Addr) (fs : List (Str × V)) (kvs : List (List L2.Key × V)) (hv ov : V) (us : List V), H x = some (.ins CK dx fs) ∧ fs.lookup ("wishes" : Str) = some wv ∧ fs.lookup ("places" : Str) = some (.ref P) ∧ fs.lookup ("heard" : Str) = some hv ∧ fs.lookup ("offers" : Str) = some ov ∧ fs.lookup ("steps" : Str) = some (.ref S) ∧
    H P = some (.dT kvs) ∧ PlK (linesW rows) kvs ∧ Dq H hv (.list (heardD rows)) ∧ Dq H ov (.list (offersD rows)) ∧ H S = some (.lst us) ∧ DqA (off S H) us (stepsD rows)
  wo : WO CW H wv rows
section
variable {P : Program} {w : World} {K : PySem.W.Frag} {mg : Str → Option Value} {base : Heap} {f : Addr} {fd : FuncData} {CW CN CK : Addr}
abbrev sWkI : Stmt := inClass (top 33) 0
abbrev nWkI : List Str := ["self", "wishes", "pairs", "tells", "place", "pair", "router", "teller", "hearer"]
theorem scWkI : FnScope nWkI ["self", "wishes"] (defScope sWkI) := ⟨rfl, rfl, rfl, by decide +kernel, rfl, by decide +kernel, by decide +kernel⟩
def spWkI (CK CW : Addr) : Sp := fun vs H Q _ => ∃ (x dx wv : Addr) (rows : List (List Wy)), vs = [.ref x, .ref wv] ∧ H x = some (.ins CK dx []) ∧ wv ≠ x ∧ WO CW H (.ref wv) rows ∧ ∀ H', Of1 x H H' → WkO CK CW H' x (.ref wv) rows → (∀ dx fs S, H' x = some (.ins CK dx fs) → fs.lookup ("steps" : Str) = some (.ref S) → H S = none) → Q .non H'
/-- lines as a method -/
structure ML (P : Program) (w : World) (K : PySem.W.Frag) (mg : Str → Option Value) (base : Heap) (CW : Addr) : Prop where
  tx : WTx K mg CW
  ln : ∃ (fM : Addr) (fd : FuncData), Meth K CW "lines" fM ∧ FnOk P w K mg base CX0 7 fM fd ["self"] (spLines CW) ∧ Binds K fd ["self"] []
theorem ok_wkI (B : Bl mg) (T : KTx K mg CK) (M : ML P w K mg base CW) (CH : Cal P w K mg base "heard_ways" ["wishes", "pair"] 6 (spHeard CW)) (CO : Cal P w K mg base "offered" ["wishes", "router", "places"] 6 (spOffered CW)) (F : FnM K "__init__" "Works.__init__" sWkI f fd) : FnOk P w K mg base CX0 8 f fd ["self", "wishes"] (spWkI CK CW) := by
  obtain ⟨fL, fdL, meL, FL, bL⟩ := M.ln
  refine F.ok scWkI (fun vs H Q E h => ?_) (fun cdv A outer s H vs Q E hr h => ?_)
  · obtain ⟨x, dx, wv, rows, rfl, _⟩ := h
    rfl
  · obtain ⟨x, dx, wv, rows, rfl, hx, nwx, hw, k⟩ := h
    have hu : (A.deeper (envOfC "Works.__init__" (defScope sWkI) s.heap.objs.size f cdv)).units + 1 < cLine := by have := hr.un; omega
    have r6 : Room 6 (A.deeper (envOfC "Works.__init__" (defScope sWkI) s.heap.objs.size f cdv)) := hr.mono (by decide)
    refine ⟨_, pss_cons (ps_set (i := 2) scWkI.nd rfl (Or.inl rfl) (pe_meth0 (pv 1) M.tx.cl meL FL hr bL .nil pass0))
      (pss_cons (ps_fld (pv 0) (pv 1) rfl)
      (pss_cons (ps_fld (pv 0) (pe_dq (own := [("place", 4), ("pair", 5)]) (g := gTup K 2 (gCons (gName 4) (gCons (gName 5) gNil))) (tt := tYes) rfl hu scWkI.nd (pi_enum (by rfl) B.enum (pa_cons (pv 2) pa_nil)) (blkOk_by (N := nWkI) (sc := defScope sWkI) (by decide +kernel))
          (fun _ _ _ _ _ => pg_tup rfl (pgs_cons (pg_name (i := 4) scWkI.nd rfl (Or.inl rfl)) (pgs_cons (pg_name (i := 5) scWkI.nd rfl (Or.inl rfl)) pgs_nil))) (fun _ _ _ _ _ => pts_nil) (fun _ _ _ _ _ => pv 5) (fun _ _ _ _ _ => pv 4)) rfl)
      (pss_cons (ps_fld (pv 0) (pe_lc (own := [("pair", 5)]) (g := gName 5) (tt := tYes) rfl scWkI.nd (pi_list (pv 2)) (blkOk_by (N := nWkI) (sc := defScope sWkI) (by decide +kernel))
          (fun _ _ _ _ _ => pg_name (i := 5) scWkI.nd rfl (Or.inl rfl)) (fun _ _ _ _ _ => pts_nil) (fun _ _ _ _ _ => pe_cal CH r6 (by rfl) (pa_cons (pv 1) (pa_cons (pv 5) pa_nil)))) rfl)
      (pss_cons (ps_fld (pv 0) (pe_lc (own := [("router", 6)]) (g := gName 6) (tt := tYes) rfl scWkI.nd (pi_range1 (by rfl) B.range (pa_cons (pe_fld (pv 1) rfl) pa_nil)) (blkOk_by (N := nWkI) (sc := defScope sWkI) (by decide +kernel))
          (fun _ _ _ _ _ => pg_name (i := 6) scWkI.nd rfl (Or.inl rfl)) (fun _ _ _ _ _ => pts_nil) (fun _ _ _ _ _ => pe_cal CO r6 (by rfl) (pa_cons (pv 1) (pa_cons (pv 6) (pa_cons (pe_fldK (K := K) rfl (pv 0) rfl) pa_nil))))) rfl)
      (pss_cons (ps_setLc (i := 3) (own := [("teller", 7), ("hearer", 8)]) (g := gTup K 2 (gCons (gName 7) (gCons (gName 8) gNil))) (tt := tYes) rfl scWkI.nd rfl rfl (sw_true rfl rfl rfl (by decide +kernel)) (pi_list (pv 2)) (blkOk_by (N := nWkI) (sc := defScope sWkI) (by decide +kernel))
          (fun _ _ _ _ _ => pg_tup rfl (pgs_cons (pg_name (i := 7) scWkI.nd rfl (Or.inl rfl)) (pgs_cons (pg_name (i := 8) scWkI.nd rfl (Or.inl rfl)) pgs_nil))) (fun _ _ _ _ _ => pts_nil) (fun _ _ _ _ _ => pe_tup (pa_cons pe_str (pa_cons (pv 7) (pa_cons (pv 8) pa_nil)))))
      (pss_one (ps_fld (pv 0) (pe_op op_cat (pv 3) (pe_lc (own := [("router", 6)]) (g := gName 6) (tt := tYes) rfl scWkI.nd (pi_range2 (by rfl) B.range (pa_cons pe_int (pa_cons (pe_fld (pv 1) rfl) pa_nil))) (blkOk_by (N := nWkI) (sc := defScope sWkI) (by decide +kernel))
          (fun _ _ _ _ _ => pg_name (i := 6) scWkI.nd rfl (Or.inl rfl)) (fun _ _ _ _ _ => pts_nil) (fun _ _ _ _ _ => pe_tup (pa_cons pe_str (pa_cons (pv 6) pa_nil))))) rfl))))))), ?_⟩
    obtain ⟨w', dw, lv, ew, hwa, hlv⟩ := hw.ex
    injection ew with ew
    subst ew
    have hG := hw.g
    have h8 := hw.n8
    have hsh := fun p (hp : p ∈ linesW rows) => ln_shape hG h8 hp
    have hll := lnw_len rows
    refine q_asgW ⟨.ref wv, rfl, wv, dw, _, rfl, hwa, wf_no _ _ (by decide +kernel) (by decide +kernel), .ref wv, rows, rfl, hw, fun H1 l us e1 gl hl1 hus1 => ?_⟩
    have hx1 := e1 _ _ hx
    have nlx : l ≠ x := fun z => by rw [z, hx] at gl; cases gl
    have hul := hus1.length
    rw [List.length_map] at hul
    change tSeq _ _ _ [some (.ref x), some (.ref wv), some (.ref l), none, none, none, none, none, none] H1
    -- wishes
    refine q_fldU ⟨.ref wv, rfl, .ref x, rfl, x, CK, dx, [], rfl, hx1, T.cl, T.n1, by decide, ?_⟩
    have o2 := (Of1.ex (x := x) e1).trans (Of1.upd x H1 (.ins CK dx (putF "wishes" (.ref wv) [])))
    have hx2 : (upd H1 x (.ins CK dx (putF "wishes" (.ref wv) []))) x = some (.ins CK dx (putF "wishes" (.ref wv) [])) := upd_same
    have hl2 := Of1.upd x H1 (.ins CK dx (putF "wishes" (.ref wv) [])) _ _ nlx hl1
    have hus2 := dqa_of1 (Of1.upd x H1 (.ins CK dx (putF "wishes" (.ref wv) []))) hx1 hus1
    have f1 : (putF "wishes" (.ref wv) ([] : List (Str × V))).length ≤ 1 := len_putF _ _ _
    have a1 : (putF "wishes" (.ref wv) ([] : List (Str × V))).lookup ("wishes" : Str) = some (.ref wv) := lk_putS
    generalize putF "wishes" (.ref wv) ([] : List (Str × V)) = fs1 at *
    generalize upd H1 x (.ins CK dx fs1) = H2 at *
    have hw2 := hw.of1 nwx o2 hx
    -- places
    refine q_fldU (t_places (K := K) (i := 4) (j := 5) (vs := [4, 5]) (ev_var (i := 2) rfl) hl2 hus2 (by omega) (fun x y => rfl) (fun x y => rfl) (fun x y => rfl) fun P kvs H3 gP e3 hP3 hk => ⟨.ref x, rfl, x, CK, dx, fs1, rfl, e3 _ _ hx2, T.cl, T.n2, by omega, ?_⟩)
    have hpk := hk.plk (ln_nd rows)
    have nPx : P ≠ x := fun z => by rw [z, hx2] at gP; cases gP
    have o34 := Of1.upd x H3 (.ins CK dx (putF "places" (.ref P) fs1))
    have o4 := (o2.trans (Of1.ex e3)).trans o34
    have hx4 : (upd H3 x (.ins CK dx (putF "places" (.ref P) fs1))) x = some (.ins CK dx (putF "places" (.ref P) fs1)) := upd_same
    have hl4 := o34 _ _ nlx (e3 _ _ hl2)
    have hP4 := o34 _ _ nPx hP3
    have hus4 := dqa_of1 o34 (e3 _ _ hx2) (hus2.mono e3)
    have f2 : (putF "places" (.ref P) fs1).length ≤ 2 := by have := len_putF "places" (.ref P) fs1; omega
    have b1 : (putF "places" (.ref P) fs1).lookup ("wishes" : Str) = some (.ref wv) := by rw [lk_putF (by decide +kernel)]; exact a1
    have b2 : (putF "places" (.ref P) fs1).lookup ("places" : Str) = some (.ref P) := lk_putS
    generalize putF "places" (.ref P) fs1 = fs2 at *
    generalize upd H3 x (.ins CK dx fs2) = H4 at *
    have hw4 := hw.of1 nwx o4 hx
    clear o34 hl2 hus2 hP3 hw2
    -- heard
    refine q_fldU (dl_L (K := K) (j := 5) (vs := [5]) (fun _ => true) (fun i => .list ((restsW rows ((linesW rows).getD i [])).map wd)) (ev_var (i := 2) rfl) (sq_of hl4) (by omega) (fun x => rfl) (fun i y H5 e5 hi => et_yes) (fun i y H5 e5 hi _ => ?_) H4 (Ex.refl _) _ fun ha ush H5 gha e5 hha hush => ⟨.ref x, rfl, x, CK, dx, fs2, rfl, e5 _ _ hx4, T.cl, T.n3, by omega, ?_⟩)
    · obtain ⟨p, p1, p2⟩ := hus4.wds_inv hi
      have eg : (linesW rows).getD i [] = p := by rw [List.getD_eq_getElem?_getD, p1]; rfl
      show EvD _ _ _ (.list ((restsW rows ((linesW rows).getD i [])).map wd))
      rw [eg]
      obtain ⟨u, v, rfl, _, _, _, hv⟩ := hsh p (List.mem_of_getElem? p1)
      exact fun H6 e6 Q q => ⟨.ref wv, rfl, y, rfl, .ref wv, y, rows, u, v, rfl, hw4.up (e5.trans e6), p2.mono (e5.trans e6), hv, fun H7 l7 us7 n7 e7 hl7 hus7 => q _ H7 e7 (.lst (fr_new n7 hl7) (hus7.mono (off_in _ _)))⟩
    rw [hul, upTo_map .none (linesW rows) [] (fun p => .list ((restsW rows p).map wd))] at hush
    have hh5 : Dq H5 (.ref ha) (.list (heardD rows)) := .lst hha (hush.mono ((off_in _ _).trans fr_sub))
    have o56 := Of1.upd x H5 (.ins CK dx (putF "heard" (.ref ha) fs2))
    have hx6 : (upd H5 x (.ins CK dx (putF "heard" (.ref ha) fs2))) x = some (.ins CK dx (putF "heard" (.ref ha) fs2)) := upd_same
    have o6 := (o4.trans (Of1.ex e5)).trans o56
    have hl6 := o56 _ _ nlx (e5 _ _ hl4)
    have hP6 := o56 _ _ nPx (e5 _ _ hP4)
    have hus6 := dqa_of1 o56 (e5 _ _ hx4) (hus4.mono e5)
    have hh6 := dq_of1 o56 (e5 _ _ hx4) hh5
    have f3 : (putF "heard" (.ref ha) fs2).length ≤ 3 := by have := len_putF "heard" (.ref ha) fs2; omega
    have c1 : (putF "heard" (.ref ha) fs2).lookup ("wishes" : Str) = some (.ref wv) := by rw [lk_putF (by decide +kernel)]; exact b1
    have c2 : (putF "heard" (.ref ha) fs2).lookup ("places" : Str) = some (.ref P) := by rw [lk_putF (by decide +kernel)]; exact b2
    have c3 : (putF "heard" (.ref ha) fs2).lookup ("heard" : Str) = some (.ref ha) := lk_putS
    generalize putF "heard" (.ref ha) fs2 = fs3 at *
    generalize upd H5 x (.ins CK dx fs3) = H6 at *
    have hw6 := hw.of1 nwx o6 hx
    clear o56 hl4 hus4 hP4 hw4 hh5 hush
    -- offers
    refine q_fldU (dl_R1 (j := 6) (vs := [6]) (n := (rows.length : Int)) (fun _ => true) (fun r => .list ((rows.getD r []).map (offD (linesW rows) r))) (ea_cons (ev_wsize M.tx (ev_var (i := 1) rfl) hw6) ea_nil) (by omega) (fun x => rfl) (fun i H7 e7 hi => et_yes) (fun i H7 e7 hi _ => ?_) H6 (Ex.refl _) _ fun oa uso H7 goa e7 hoa huso => ⟨.ref x, rfl, x, CK, dx, fs3, rfl, e7 _ _ hx6, T.cl, T.n4, by omega, ?_⟩)
    · exact fun H8 e8 Q q => ⟨.ref wv, rfl, .int (i : Int), rfl, .ref x, rfl, x, CK, dx, fs3, _, rfl, (e7.trans e8) _ _ hx6, T.cl, T.n2, c2, .ref wv, P, rows, linesW rows, kvs, i, rfl, hw6.up (e7.trans e8), by omega, (e7.trans e8) _ _ hP6, hpk, fun H9 l9 us9 n9 e9 hl9 hus9 => q _ H9 e9 (.lst (fr_new n9 hl9) (hus9.mono (off_in _ _)))⟩
    rw [Int.toNat_natCast, upTo_range] at huso
    have ho7 : Dq H7 (.ref oa) (.list (offersD rows)) := .lst hoa (huso.mono ((off_in _ _).trans fr_sub))
    have o78 := Of1.upd x H7 (.ins CK dx (putF "offers" (.ref oa) fs3))
    have hx8 : (upd H7 x (.ins CK dx (putF "offers" (.ref oa) fs3))) x = some (.ins CK dx (putF "offers" (.ref oa) fs3)) := upd_same
    have o8 := (o6.trans (Of1.ex e7)).trans o78
    have hl8 := o78 _ _ nlx (e7 _ _ hl6)
    have hP8 := o78 _ _ nPx (e7 _ _ hP6)
    have hus8 := dqa_of1 o78 (e7 _ _ hx6) (hus6.mono e7)
    have hh8 := dq_of1 o78 (e7 _ _ hx6) (hh6.mono e7)
    have ho8 := dq_of1 o78 (e7 _ _ hx6) ho7
    have f4 : (putF "offers" (.ref oa) fs3).length ≤ 4 := by have := len_putF "offers" (.ref oa) fs3; omega
    have d1 : (putF "offers" (.ref oa) fs3).lookup ("wishes" : Str) = some (.ref wv) := by rw [lk_putF (by decide +kernel)]; exact c1
    have d2 : (putF "offers" (.ref oa) fs3).lookup ("places" : Str) = some (.ref P) := by rw [lk_putF (by decide +kernel)]; exact c2
    have d3 : (putF "offers" (.ref oa) fs3).lookup ("heard" : Str) = some (.ref ha) := by rw [lk_putF (by decide +kernel)]; exact c3
    have d4 : (putF "offers" (.ref oa) fs3).lookup ("offers" : Str) = some (.ref oa) := lk_putS
    generalize putF "offers" (.ref oa) fs3 = fs4 at *
    generalize upd H7 x (.ins CK dx fs4) = H8 at *
    have hw8 := hw.of1 nwx o8 hx
    clear o78 hl6 hus6 hP6 hw6 hh6 ho7 huso
    -- tells
    refine q_asgW (dl_P (K := K) (i := 7) (j := 8) (vs := [7, 8]) (fun n => tellD ((linesW rows).getD n [])) (ev_var (i := 2) rfl) hl8 hus8 (fun p hp => ?_) (by omega) (fun x y => rfl) (fun n u v H9 e9 hn => ?_) H8 (Ex.refl _) _ fun ta ust H9 gta e9 hta hust => ?_)
    · obtain ⟨u, v, e, _⟩ := hsh p hp
      exact ⟨_, _, e⟩
    · have eg : (linesW rows).getD n [] = [u, v] := by rw [List.getD_eq_getElem?_getD, hn]; rfl
      show EvD _ _ _ (tellD ((linesW rows).getD n []))
      rw [eg]
      exact d_tup (d_cons (d_str _) (d_cons (d_ev (ev_var (i := 7) rfl) rfl fun H _ => .int _) (d_cons (d_ev (ev_var (i := 8) rfl) rfl fun H _ => .int _) d_nil))) (by simp)
    rw [upTo_map .none (linesW rows) [] tellD] at hust
    have ht9 : DqA H9 ust ((linesW rows).map tellD) := hust.mono ((off_in _ _).trans fr_sub)
    have htl := ht9.length
    rw [List.length_map] at htl
    change sFld _ _ _ _ _ [some (.ref x), some (.ref wv), some (.ref l), some (.ref ta), none, none, none, none, none] H9
    -- steps
    refine s_fldU ⟨.ref ta, rfl, dl_R2 (j := 6) (vs := [6]) (lo := 1) (n := (rows.length : Int)) (fun _ => true) (fun i => .tuple [.str "choose", .int ((i + 1 : Nat) : Int)]) (ea_cons ev_c (ea_cons (ev_wsize M.tx (ev_var (i := 1) rfl) (hw8.up e9)) ea_nil)) (by omega) (fun x => rfl) (fun i H7 e7 hi => et_yes) (fun i H7 e7 hi _ => ?_) H9 (Ex.refl _) _ fun ca usc H10 gca e10 hca husc => ?_⟩
    · rw [show (1 : Int) + (i : Int) = ((i + 1 : Nat) : Int) by omega]
      exact d_tup (d_cons (d_str _) (d_cons (d_ev (ev_var (i := 6) rfl) rfl fun H _ => .int _) d_nil)) (by simp)
    rw [upTo_range, show ((rows.length : Int) - 1).toNat = rows.length - 1 by omega] at husc
    have hc10 : DqA H10 usc ((List.range (rows.length - 1)).map fun i => .tuple [.str "choose", .int ((i + 1 : Nat) : Int)]) := husc.mono ((off_in _ _).trans fr_sub)
    have hcl := hc10.length
    rw [List.length_map, List.length_range] at hcl
    refine ⟨ta, ca, ust, usc, rfl, rfl, e10 _ _ hta, hca, by rw [sizeLine_eq]; omega, fun S hS => ?_⟩
    have e11 := Ex.new (o := .lst (ust ++ usc)) hS
    have hx11 := e11 _ _ (e10 _ _ (e9 _ _ hx8))
    refine ⟨.ref x, rfl, x, CK, dx, fs4, rfl, hx11, T.cl, T.n5, by omega, ?_⟩
    have hS11 : (upd H10 S (.lst (ust ++ usc))) S = some (.lst (ust ++ usc)) := upd_same
    have nSx : S ≠ x := fun z => by rw [z, e10 _ _ (e9 _ _ hx8)] at hS; cases hS
    generalize hHf : upd (upd H10 S (.lst (ust ++ usc))) x (.ins CK dx (putF "steps" (.ref S) fs4)) = Hf
    have oF : Of1 x (upd H10 S (.lst (ust ++ usc))) Hf := by rw [← hHf]; exact Of1.upd x _ _
    have e811 := (e9.trans e10).trans e11
    have hxF : Hf x = some (.ins CK dx (putF "steps" (.ref S) fs4)) := by rw [← hHf]; exact upd_same
    have o10 : Of1 x H10 (off S Hf) := fun b u nb hb => by
      have nS : b ≠ S := fun z => by rw [z, hS] at hb; cases hb
      rw [off_at nS]
      exact oF b u nb (e11 _ _ hb)
    have hx10 := e10 _ _ (e9 _ _ hx8)
    refine k Hf ((o8.trans (Of1.ex e811)).trans oF) ⟨⟨dx, P, S, _, kvs, .ref ha, .ref oa, ust ++ usc, hxF, ?_, ?_, ?_, ?_, lk_putS, oF _ _ nPx (e811 _ _ hP8), hpk, dq_of1 oF hx11 (hh8.mono e811), dq_of1 oF hx11 (ho8.mono e811), oF _ _ nSx hS11, (dqa_of1 o10 hx10 (ht9.mono e10)).append (dqa_of1 o10 hx10 hc10)⟩, hw.of1 nwx ((o8.trans (Of1.ex e811)).trans oF) hx⟩ (fun dx' fs' S' q1 q2 => ?_)
    · rw [lk_putF (by decide +kernel)]; exact d1
    · rw [lk_putF (by decide +kernel)]; exact d2
    · rw [lk_putF (by decide +kernel)]; exact d3
    · rw [lk_putF (by decide +kernel)]; exact d4
    · rw [hxF] at q1
      injection q1 with q1
      injection q1 with _ _ q1
      rw [← q1, lk_putS] at q2
      injection q2 with q2
      injection q2 with q2
      subst q2
      cases hz : H S with
      | none => rfl
      | some o =>
        have z := ((e9.trans e10) _ _ (o8 _ _ nSx hz))
        rw [hS] at z
        cases z
end
end Wk

set_option Elab.async false
set_option linter.all false
set_option maxRecDepth 100000
set_option maxHeartbeats 1000000
namespace Wk
open PySem PySem.Spec PyProof.Rows L2 Evl
theorem tuple_mul1 (l : Addr) (items : Array Value) (n : Nat) (dd : Option Addr) (sl : Array (Option Value)) (u : Tok) :
    Meets (Builtin.«tuple.__mul__» ⟨[.ref l, .int 1 u], []⟩) (fun _ R s => s.heap.get? l = some { cls := .type "tuple", dict := dd, data := .seq items n, slots := sl } ∧ R (.ok (.ret (Value.ref l))) s) :=
  .of_wp fun prog w A R s h => by
    obtain ⟨hp, g, d, tk, os⟩ := s
    obtain ⟨hl, h⟩ := h
    have f1 := AutoSeq1.idx_int
    wp_walk using wpAny_loadPart' hl
    exact ⟨_, rfl, h⟩
theorem tuple_mul0 (l : Addr) (items : Array Value) (n : Nat) (dd : Option Addr) (sl : Array (Option Value)) (u : Tok) (c1 : (items.isEmpty || (0 : Int) == 1) = false) :
    Meets (Builtin.«tuple.__mul__» ⟨[.ref l, .int 0 u], []⟩) (fun _ R s => s.heap.get? l = some { cls := .type "tuple", dict := dd, data := .seq items n, slots := sl } ∧
      R (.ok (.ret (Value.ref s.heap.objs.size))) { s with heap := s.heap.push { cls := Value.type "tuple", data := Data.seq #[] }, toks := s.toks }) :=
  .of_wp fun prog w A R s h => by
    obtain ⟨hp, g, d, tk, os⟩ := s
    obtain ⟨hl, h⟩ := h
    have f1 := AutoSeq1.idx_int
    wp_walk using wpAny_loadPart' hl
    repeat (first
      | (refine wpAny_ite_false (decide_eq_false (by rw [c1]; exact Bool.false_ne_true)) ?_; wp_walk using wpAny_loadPart' hl))
    exact ⟨_, rfl, h⟩
end Wk
namespace L2
open PySem PySem.Spec PyProof.Rows
def rRepV (K : PySem.W.Frag) : R2 := fun x y H Q => ∃ l k xs, x = .ref l ∧ y = .int k ∧ SqT K H l xs ∧ xs ≠ [] ∧ 0 ≤ k ∧ k ≤ 1000 ∧ xs.length ≤ 1000 ∧ (k = 0 → ∀ p, H p = none → Q (.ref p) (upd H p (.tup []))) ∧ (k = 1 → Q (.ref l) H) ∧ (2 ≤ k → ∀ p, H p = none → Q (.ref p) (upd H p (.tup (List.replicate k.toNat xs).flatten)))
theorem op_repV {X : Cx} {K : PySem.W.Frag} (hK : X.K = K) : OpR X (binaryOp .Mult) (rRepV K) := by
  subst hK
  intro pins s σ H x y v u Q I rx ry h
  obtain ⟨l, k, xs, rfl, rfl, hT, hne, h1, h2, hz, q0, q1, q⟩ := h
  by_cases hk : 2 ≤ k
  · exact op_repT pins s σ H (.ref l) (.int k) v u Q I rx ry ⟨l, k, xs, rfl, rfl, hT, hne, hk, h2, hz, q hk⟩
  · cases rx
    obtain ⟨t, rfl⟩ := ry
    obtain ⟨its, r, ⟨⟨cls, dd, data, sl⟩, ho, hc, n, hd⟩, hs⟩ := I.tuple hT
    simp only at hc hd
    subst hc hd
    have hle : its.length = xs.length := r.length.symm
    have hn : its ≠ [] := fun e => hne (by
      rw [e] at hle
      exact List.eq_nil_of_length_eq_zero hle.symm)
    have hi : its.toArray.isEmpty = false := by
      cases its with
      | nil => exact absurd rfl hn
      | cons a b => rfl
    by_cases k0 : k = 0
    · subst k0
      refine wpAny_binaryOp_repeat_ref (T := "tuple") (U := "int") (by decide) ⟨_, ho, rfl⟩ (fun s' => typeIs_int s' 0 t) noFill_tuple_mul F.fills_int_mul F.slot_int_rmul repeat_tuple F.slot_int_index.lookup
        (call_meets F.slot_int_rmul (typeIs_int s 0 t) F.entry_int_rmul (F.args_int_rmul_2 _ _) (int_rmul_tuple 0 t l its.toArray n dd sl)
          ⟨ho, rfl, ⟨_, ho, rfl⟩, call_meets F.slot_tuple_mul ⟨_, ho, rfl⟩ F.entry_tuple_mul (F.args_tuple_mul_2 _ _) (Wk.tuple_mul0 l its.toArray n dd sl t (by rw [hi]; rfl)) ⟨ho, ?_⟩⟩)
      refine ⟨.ref s.heap.objs.size, _, I.laid (t' := s.toks) (o := .tup []) (fun b ob q => Heap.get?_push_of_some _ q) (Nat.le_refl _) ?_, rfl, q0 rfl _ (I.hok.fresh (Nat.le_refl _))⟩
      exact ⟨Nat.zero_le _, _, .nil, IsTup.new _ _⟩
    · have e : k = 1 := by omega
      subst e
      exact wpAny_binaryOp_repeat_ref (T := "tuple") (U := "int") (by decide) ⟨_, ho, rfl⟩ (fun s' => typeIs_int s' 1 t) noFill_tuple_mul F.fills_int_mul F.slot_int_rmul repeat_tuple F.slot_int_index.lookup
        (call_meets F.slot_int_rmul (typeIs_int s 1 t) F.entry_int_rmul (F.args_int_rmul_2 _ _) (int_rmul_tuple 1 t l its.toArray n dd sl)
          ⟨ho, rfl, ⟨_, ho, rfl⟩, call_meets F.slot_tuple_mul ⟨_, ho, rfl⟩ F.entry_tuple_mul (F.args_tuple_mul_2 _ _) (Wk.tuple_mul1 l its.toArray n dd sl t) ⟨ho, ⟨.ref l, H, I, rfl, q1 rfl⟩⟩⟩)
end L2
namespace Wk
open PySem PySem.Spec PyProof.Rows L2 Evl
theorem flat_rep {α : Type} (x : α) : ∀ n, (List.replicate n [x]).flatten = List.replicate n x
  | 0 => rfl
  | n + 1 => by rw [List.replicate_succ, List.flatten_cons, flat_rep x n, List.replicate_succ]; rfl
/-- ((),) * n -/
theorem t_emRep {K : PySem.W.Frag} {σ : L2.St} {H : Hp} {tn : TE} {n : Nat} {Q : VK} (hn : ∀ H1, Ex H H1 → Ev tn σ H1 (.int (n : Int))) (h9 : n ≤ 1000) (k : ∀ t e H', Ex H H' → H' e = some (.tup []) → H' t = some (.tup (List.replicate n (.ref e))) → Q (.ref t) H') :
    tOp (rRepV K) (tTup (tCons (tTup tNil) tNil)) tn σ H Q := by
  refine ⟨by show 0 ≤ sizeLine; decide, fun e he => ⟨by show 1 ≤ sizeLine; decide, fun c hc => ?_⟩⟩
  have e1 := Ex.new (o := .tup ([] : List V)) he
  have e2 := Ex.new (o := .tup [V.ref e]) hc
  have hee : (upd (upd H e (.tup [])) c (.tup [V.ref e])) e = some (.tup []) := e2 _ _ upd_same
  have hcc : (upd (upd H e (.tup [])) c (.tup [V.ref e])) c = some (.tup [V.ref e]) := upd_same
  have e12 := e1.trans e2
  generalize upd (upd H e (.tup [])) c (.tup [V.ref e]) = H2 at *
  refine hn H2 e12 H2 (Ex.refl _) _ fun H3 e3 => ?_
  refine ⟨c, (n : Int), [.ref e], rfl, rfl, st_of (e3 _ _ hcc), by simp, by omega, by omega, by simp, fun z p hp => ?_, fun z => ?_, fun z p hp => ?_⟩
  · have e4 := Ex.new (o := .tup ([] : List V)) hp
    refine k p e _ (e12.trans (e3.trans e4)) (e4 _ _ (e3 _ _ hee)) ?_
    rw [show n = 0 by omega]
    exact upd_same
  · refine k c e H3 (e12.trans e3) (e3 _ _ hee) ?_
    rw [show n = 1 by omega]
    exact e3 _ _ hcc
  · have e4 := Ex.new (o := .tup (List.replicate (n : Int).toNat [V.ref e]).flatten) hp
    refine k p e _ (e12.trans (e3.trans e4)) (e4 _ _ (e3 _ _ hee)) ?_
    rw [upd_same, flat_rep, Int.toNat_natCast]
end Wk

set_option Elab.async false
set_option linter.all false
set_option maxRecDepth 100000
set_option maxHeartbeats 4000000
namespace Wk
open PySem PySem.Spec PyProof.Rows L2 Evl SeqAt
/-! zip(list, tuple) -/
def ItzM (K : PySem.W.Frag) (a b : Addr) : It where
  go := fun i H => ∃ xs ys x y, SqL K H a xs ∧ SqT K H b ys ∧ xs[i]? = some x ∧ ys[i]? = some y ∧ xs.length = ys.length
  yld := fun i H v H' => ∃ T x y, v = V.ref T ∧ H T = none ∧ H' = upd H T (.tup [x, y]) ∧ (∀ l, SqL K H a l → l[i]? = some x) ∧ (∀ l, SqT K H b l → l[i]? = some y)
  stop := fun i H => ∃ xs ys, SqL K H a xs ∧ SqT K H b ys ∧ xs.length = i ∧ ys.length = i
theorem sep_new {n a b : Nat} (ha : a < n) (hb : b < n) : ZipSep2 (n + 4) (n + 2) (n + 3) n (n + 1) [n, a] [n + 1, b] := by
  constructor <;> simp only [List.mem_cons, List.not_mem_nil, or_false, ne_eq, not_or, true_or] <;> first | exact trivial | (show ¬ @Eq Nat _ _; omega) | (constructor <;> (show ¬ @Eq Nat _ _; omega))
/-- where such an iterator stands -/
def stM (z TI TO i1 i2 a b : Addr) (i : Nat) (h : Heap) : Prop := IsZip h z TI TO .none ∧ IsTupOf2 h TI (.ref i1) (.ref i2) ∧ (∃ u v, IsTupOf2 h TO u v) ∧ h.IsListIter i1 a i ∧ h.IsTupleIter i2 b i
theorem stM.keep {z TI TO i1 i2 a b : Addr} {i : Nat} {h h' : Heap} (st : stM z TI TO i1 i2 a b i h) (k : ∀ c o, c ∈ [z, TI, TO, i1, i2] → h.get? c = some o → h'.get? c = some o) : stM z TI TO i1 i2 a b i h' := by
  obtain ⟨s1, s2, ⟨u, v, s3⟩, s4, s5⟩ := st
  exact ⟨k _ _ (by simp) s1, k _ _ (by simp) s2, ⟨u, v, k _ _ (by simp) s3⟩, s4.at fun o q => k _ o (by simp) q, s5.at fun o q => k _ o (by simp) q⟩
theorem turnM {P : Program} {w : World} {K : PySem.W.Frag} {es : List Expr} {n : Nat} {ps : Pos} {a b z TI TO i1 i2 : Addr} (S : ZipSep2 z TI TO i1 i2 [i1, a] [i2, b]) :
    Turn P w K (.Tuple es n ps) (ItzM K a b) [z, TI, TO, i1, i2] z (stM z TI TO i1 i2 a b) := by
  refine ⟨by simp, ?_, fun i h h' st k => st.keep fun c o hc q => k c hc o q, ?_, ?_, fun A i s Q E st q => wpAny_pyIter_zip st.1 q⟩
  · intro i h st c hc
    obtain ⟨s1, s2, ⟨u, v, s3⟩, ⟨o1, q1, _, d1⟩, ⟨o2, q2, _, d2⟩⟩ := st
    simp only [List.mem_cons, List.not_mem_nil, or_false] at hc
    rcases hc with rfl | rfl | rfl | rfl | rfl
    · exact ⟨_, s1, fun v q => by cases q⟩
    · exact ⟨_, s2, fun v q => by cases q⟩
    · exact ⟨_, s3, fun v q => by cases q⟩
    · exact ⟨o1, q1, fun v q => by rw [d1] at q; cases q⟩
    · exact ⟨o2, q2, fun v q => by rw [d2] at q; cases q⟩
  · intro X eP ew eK calm i pins s σ H E I hf st hg
    subst eP ew eK
    obtain ⟨xs, ys, x, y, hxs, hys, hx, hy, hl⟩ := hg
    obtain ⟨l1, r1, g1, _⟩ := I.list hxs
    obtain ⟨l2, r2, g2, _⟩ := I.tuple hys
    obtain ⟨u1, hu1, ru1⟩ := r1.get hx
    obtain ⟨u2, hu2, ru2⟩ := r2.get hy
    obtain ⟨s1, s2, ⟨u, v, s3⟩, s4, s5⟩ := st
    have hh : X.A.in1.handled = none := I.ok.hd calm
    have nai : a ≠ i1 := fun e => by
      obtain ⟨o, q, c, _⟩ := s4
      obtain ⟨o', q', c', _⟩ := g1.isList
      rw [← e, q'] at q
      injection q with q
      rw [← q, c'] at c
      simp at c
    have nbi : b ≠ i2 := fun e => by
      obtain ⟨o, q, c, _⟩ := s5
      obtain ⟨o', q', c', _⟩ := (show s.heap.IsTuple b l2.toArray from g2)
      rw [← e, q'] at q
      injection q with q
      rw [← q, c'] at c
      simp at c
    have D1 := Draws.list (prog := X.prog) (w := X.w) (A := X.A.in1) hh i1 a nai l1.toArray
    have D2 := Draws.tuple (prog := X.prog) (w := X.w) (A := X.A.in1) hh i2 b nbi l2.toArray
    have k1 : i < l1.toArray.size := by
      have := (List.getElem?_eq_some_iff.mp hu1).1
      simpa using this
    have k2 : i < l2.toArray.size := by
      have := (List.getElem?_eq_some_iff.mp hu2).1
      simpa using this
    have hzs : z < s.heap.objs.size := Heap.lt_size s1
    refine wpAny_pyNext_zipD2_item S D1 D2 s1 s2 s3 ⟨s4, g1.isList⟩ ⟨s5, g2⟩ k1 k2 fun v1 v2 h1 tk e1 e2 t1 t2 t3 t4 t5 hsz hk => ?_
    have ev1 : v1 = u1 := by
      have z : l1[i]? = some v1 := by simpa using e1
      rw [hu1] at z
      exact (Option.some.inj z).symm
    have ev2 : v2 = u2 := by
      have z : l2[i]? = some v2 := by simpa using e2
      rw [hu2] at z
      exact (Option.some.inj z).symm
    subst ev1 ev2
    refine ⟨_, rfl, wpAny_letOwnedTupleGo_zip (s := { s with heap := h1, toks := tk }) t1 fun h2 t6 sb => ?_⟩
    have up : ∀ c o, c ≠ z → h1.get? c = some o → h2.get? c = some o := fun c o nc q => (sb.2 c nc).trans q
    have hT := up _ _ (Nat.ne_of_gt hzs) t5
    have kk : ∀ c o, c ∉ [z, TI, TO, i1, i2] → s.heap.get? c = some o → h2.get? c = some o := fun c o nc q => by
      simp only [List.mem_cons, List.not_mem_nil, or_false, not_or] at nc
      exact up c o nc.1 (hk c o nc.1 nc.2.2.1 nc.2.2.2.1 nc.2.2.2.2 q)
    refine ⟨.ref s.heap.objs.size, _, I.turnedNew (t' := tk) (ob := .tup [x, y]) kk hf (Nat.le_refl _) ⟨by show 2 ≤ sizeLine; decide, [v1, v2], .cons ru1 (.cons ru2 .nil), _, hT, rfl, _, rfl⟩, rfl, ⟨_, x, y, rfl, I.hok.fresh (Nat.le_refl _), rfl, fun l q => ?_, fun l q => ?_⟩, ?_, fun c hc => ?_⟩
    · rw [I.list_inj q hxs]; exact hx
    · rw [I.tuple_inj q hys]; exact hy
    · have q1 : i1 ≠ z := fun e => S.zi1 e.symm
      have q2 : i2 ≠ z := fun e => S.zi2 e.symm
      have nTI : TI ≠ i2 := S.TIi2
      exact ⟨t6, up _ _ S.TIz (hk _ _ S.TIz S.TITO S.TIi1 nTI s2), ⟨_, _, up _ _ S.TOz t2⟩, t3.1.at fun o q => up _ o q1 q, t4.1.at fun o q => up _ o q2 q⟩
    · rw [upd_ne fun e => ?_]
      · exact (hf c hc).1
      · have hlt : c < s.heap.objs.size := by
          simp only [List.mem_cons, List.not_mem_nil, or_false] at hc
          rcases hc with rfl | rfl | rfl | rfl | rfl
          · exact hzs
          · exact Heap.lt_size s2
          · exact Heap.lt_size s3
          · obtain ⟨_, q, _⟩ := s4; exact Heap.lt_size q
          · obtain ⟨_, q, _⟩ := s5; exact Heap.lt_size q
        rw [e] at hlt
        exact Nat.lt_irrefl _ hlt
  · intro X eP ew eK calm i pins s σ H E I hf st hg
    subst eP ew eK
    obtain ⟨xs, ys, hxs, hys, e1, e2⟩ := hg
    obtain ⟨l1, r1, g1, _⟩ := I.list hxs
    obtain ⟨l2, r2, g2, _⟩ := I.tuple hys
    obtain ⟨s1, s2, ⟨u, v, s3⟩, s4, s5⟩ := st
    have hh : X.A.in1.handled = none := I.ok.hd calm
    have nai : a ≠ i1 := fun e => by
      obtain ⟨o, q, c, _⟩ := s4
      obtain ⟨o', q', c', _⟩ := g1.isList
      rw [← e, q'] at q
      injection q with q
      rw [← q, c'] at c
      simp at c
    have nbi : b ≠ i2 := fun e => by
      obtain ⟨o, q, c, _⟩ := s5
      obtain ⟨o', q', c', _⟩ := (show s.heap.IsTuple b l2.toArray from g2)
      rw [← e, q'] at q
      injection q with q
      rw [← q, c'] at c
      simp at c
    have D1 := Draws.list (prog := X.prog) (w := X.w) (A := X.A.in1) hh i1 a nai l1.toArray
    have D2 := Draws.tuple (prog := X.prog) (w := X.w) (A := X.A.in1) hh i2 b nbi l2.toArray
    have n1 := r1.length
    have n2 := r2.length
    have m1 : l1.toArray.size = i := by simp; omega
    have m2 : l2.toArray.size = i := by simp; omega
    refine wpAny_pyNext_zipD2_end S D1 D2 s1 s2 s3 ⟨s4, g1.isList⟩ ⟨s5, g2⟩ (by omega) (by omega) (.inl m1.symm) fun h1 tk hk => ⟨rfl, I.turnedL (t' := tk) (ch := [z, TI, TO, i1, i2]) (fun c o nc q => ?_) hf⟩
    simp only [List.mem_cons, List.not_mem_nil, or_false, not_or] at nc
    exact hk c o nc.1 nc.2.2.1 nc.2.2.2.1 nc.2.2.2.2 q
def iZipM (K : PySem.W.Frag) (ta : TA) : L2.TI := fun σ H R => ta σ H fun vs H1 => ∃ a b xs ys, vs = [V.ref a, V.ref b] ∧ SqL K H1 a xs ∧ SqT K H1 b ys ∧ R (ItzM K a b) H1
theorem pi_zipM {X : Cx} {e e2 : Expr} {ta : TA} {p pos tpos : Pos} {es : List Expr} {n : Nat} (hg : Gl X "zip") (hm : X.mg "zip" = none) (ha : PA X [e, e2] ta)
    (hs : starEach [e, e2] X.env = (false, eval e X.env) :: starEach [e2] X.env := by rfl) (hp : (backTo pos (starEach [e2] X.env)).any (·.1) = false := by rfl) : PI X (.Tuple es n tpos) (.Call (.Name "zip" p) [e, e2] [] pos) (iZipM X.K ta) := by
  constructor
  intro pins s σ H R I h
  refine Call_ (ld_blt I hg hm PyProof.Rows.boot_zip (PyProof.Rows.callWith_type1 (thn (ha.run pos pins s σ H _ I h) fun us s1 q => ?_) hs hp))
  obtain ⟨vs, H1, I1, rv, a, b, xs, ys, rfl, hxs, hys, hR⟩ := q
  obtain ⟨u1, u2, rfl, q1, q2⟩ := vals2 rv
  obtain rfl : u1 = Value.ref a := q1
  obtain rfl : u2 = Value.ref b := q2
  obtain ⟨l1, r1, g1, _⟩ := I1.list hxs
  obtain ⟨l2, r2, g2, _⟩ := I1.tuple hys
  have g2' : s1.heap.IsTuple b l2.toArray := g2
  have bl : b < s1.heap.objs.size := by
    obtain ⟨o, q, _⟩ := g2'
    exact Heap.lt_size q
  refine zip_begins2 (begins_list a l1.toArray) (begins_tuple b l2.toArray) g1.isList g2' fun h1 z1 z2 z3 z4 z5 hsz hk => wpAny_pyIter_zip z1 ?_
  have I2 : Inv X pins σ H1 { s1 with heap := h1 } := I1.kept (t' := s1.toks) hk
  refine ⟨_, [s1.heap.objs.size + 4, s1.heap.objs.size + 2, s1.heap.objs.size + 3, s1.heap.objs.size, s1.heap.objs.size + 1], _, _, H1, rfl, I2, turnM (sep_new g1.lt bl), ⟨z1, z2, ⟨_, _, z3⟩, ⟨_, z4, rfl, rfl⟩, ⟨_, z5, rfl, rfl⟩⟩, fun c hc => ?_, hR⟩
  have hle : s1.heap.objs.size ≤ c := by
    simp only [List.mem_cons, List.not_mem_nil, or_false] at hc
    rcases hc with rfl | rfl | rfl | rfl | rfl
    · exact Nat.le_add_right _ _
    · exact Nat.le_add_right _ _
    · exact Nat.le_add_right _ _
    · exact Nat.le_refl _
    · exact Nat.le_add_right _ _
  exact I1.fpOk hle (I1.hok.fresh hle)
theorem q_forZM {K : PySem.W.Frag} {ta : TA} {σ : L2.St} {H : Hp} {g : TG} {tu tz : TS} {D : Ends} {a b : Addr} {xs ys : List V} (h : EvA ta σ H [.ref a, .ref b]) (hxs : SqL K H a xs) (hys : SqT K H b ys) (hl : xs.length = ys.length) (Pv : Nat → L2.St → Hp → Prop) (h0 : ∀ H1, Ex H H1 → Pv 0 σ H1)
    (hk : ∀ i σ' H', Pv i σ' H' → SqL K H' a xs ∧ SqT K H' b ys) (hs : ∀ (i : Nat) (x y : V) (T : Addr) (σ' : L2.St) (H' : Hp), xs[i]? = some x → ys[i]? = some y → Pv i σ' H' → H' T = none → g (.ref T) σ' (upd H' T (.tup [x, y])) fun σ2 H2 => tu { D with nx := Pv (i + 1), ct := Pv (i + 1), bk := tz D } σ2 H2)
    (hd : ∀ σ' H', Pv xs.length σ' H' → tz D σ' H') : tSeq (tFor (iZipM K ta) g tu) tz D σ H := h H (Ex.refl H) _ fun H1 e1 => by
  refine ⟨a, b, xs, ys, rfl, ex_l e1 hxs, ex_t e1 hys, fun i m σ' H' => m = xs.length - i ∧ i ≤ xs.length ∧ Pv i σ' H', ⟨_, rfl, Nat.zero_le _, h0 H1 e1⟩, ?_⟩
  rintro i m σ' H' ⟨rfl, hi, p⟩
  obtain ⟨k1, k2⟩ := hk i σ' H' p
  by_cases c : i < xs.length
  · have c2 : i < ys.length := by omega
    refine .inr ⟨⟨xs, ys, xs[i], ys[i], k1, k2, List.getElem?_eq_getElem c, List.getElem?_eq_getElem c2, hl⟩, Pv (i + 1), fun σ2 H2 p2 => ⟨_, by omega, rfl, c, p2⟩, fun v H2 y => ?_⟩
    obtain ⟨T, x, y, rfl, hT, rfl, f1, f2⟩ := y
    exact hs i x y T σ' H' (f1 xs k1) (f2 ys k2) p hT
  · have e : i = xs.length := by omega
    subst e
    exact .inl ⟨⟨xs, ys, k1, k2, rfl, hl.symm⟩, hd σ' H' p⟩
end Wk

set_option Elab.async false
set_option linter.all false
set_option maxRecDepth 100000
set_option maxHeartbeats 1000000
namespace Wk
open PySem PySem.Spec PyProof.Rows L2 Evl
theorem walk_zipM {K : PySem.W.Frag} {a b : Addr} {xs ys : List V} (hl : xs.length = ys.length) : Walk (ItzM K a b) xs.length (fun H => SqL K H a xs ∧ SqT K H b ys) (YPair (fun i => xs[i]?) (fun i => ys[i]?)) := by
  refine ⟨fun i _ hi q => ?_, fun _ q => ⟨xs, ys, q.1, q.2, rfl, hl.symm⟩, fun i H v H' _ q y => ?_⟩
  · have h2 : i < ys.length := by omega
    exact ⟨xs, ys, xs[i], ys[i], q.1, q.2, by simp [hi], by simp [h2], hl⟩
  · obtain ⟨T, x, z, h1, h2, h3, h4, h5⟩ := y
    exact ⟨T, x, z, h1, h2, h3, h4 xs q.1, h5 ys q.2⟩
theorem ev_allZM {K : PySem.W.Frag} {σ : L2.St} {H : Hp} {te : TE} {ta : TA} {a b : Addr} {xs ys : List V} {i j : Nat} {vs : List Nat} (g : Nat → Bool) (h : EvA ta σ H [.ref a, .ref b]) (hx : SqL K H a xs) (hy : SqT K H b ys) (hl : xs.length = ys.length) (hz : xs.length ≤ 40000) (hw : ∀ x y, wipe (((wipe σ vs).set i (some x)).set j (some y)) vs = wipe σ vs)
    (he : ∀ (k : Nat) (x y : V) H1, Ex H H1 → xs[k]? = some x → ys[k]? = some y → Ev te (((wipe σ vs).set i (some x)).set j (some y)) H1 (.bl (g k))) :
    Ev (tCB (rAll K) (tCons (tLc (iZipM K ta) (gTup K 2 (gCons (gName i) (gCons (gName j) gNil))) tYes te vs) tNil)) σ H (.bl (((List.range xs.length).map g).all id)) :=
  ev_allL (by
    have q : EvL (tLc (iZipM K ta) (gTup K 2 (gCons (gName i) (gCons (gName j) gNil))) tYes te vs) σ H (given xs.length (fun _ => true) (fun k => .bl (g k))) := fun H0 e Q q => h H0 e _ fun H1 e1 => ⟨a, b, xs, ys, rfl, ex_l (e.trans e1) hx, ex_t (e.trans e1) hy, fun Dl hD =>
      lc_it (walk_zipM (K := K) (a := a) (b := b) hl) (Cw H1 (fun _ => true) (fun k => .bl (g k)) Dl) ⟨hD, Ex.new hD, upd_same⟩ (fun i H' _ p => ⟨ex_l ((e.trans e1).trans p.2.1) hx, ex_t ((e.trans e1).trans p.2.1) hy⟩)
        (fun k z H' H2 hk p y => by
          obtain ⟨T, u, y, rfl, hT, rfl, hu, hy⟩ := y
          have eT : Ex H' (upd H' T (.tup [u, y])) := Ex.new hT
          refine ⟨T, _, rfl, st_of upd_same, rfl, g_two ⟨hw _ _, ?_⟩⟩
          exact cw_turn ⟨p.1, p.2.1.trans eT, eT _ _ p.2.2⟩ (by omega) et_yes (fun _ => he k u y H1 (e.trans e1) hu hy))
        (fun H' p => q Dl H' (fresh_back e1 p.1) (e1.trans p.2.1) p.2.2)⟩
    rw [given_all] at q
    rw [List.map_map]
    exact q)
theorem ev_orV {a b : Bool} {ta tb : TE} {σ : L2.St} {H : Hp} (h1 : Ev ta σ H (.bl a)) (h2 : a = false → Ev tb σ H (.bl b)) : Ev (tOrV ta tb) σ H (.bl (a || b)) := fun H1 e Q q => h1 H1 e _ fun H2 e2 => ⟨a, rfl, by
  cases a with
  | true =>
    show Q (.bl true) H2
    exact q H2 e2
  | false =>
    show tb σ H2 Q
    exact h2 rfl H2 (e.trans e2) Q fun H3 e3 => q H3 (e2.trans e3)⟩
/-! first_stand -/
def begT (rows : List (List Wy)) : List Wy := [0] :: List.replicate (rows.length - 1) []
def begK (rows : List (List Wy)) : List Wy := List.replicate (linesW rows).length []
def standD (ts ks : List Wy) : PyData := .tuple [.tuple (ts.map wd), .tuple (ks.map wd)]
theorem dpa_em {K : PySem.W.Frag} {H : Hp} {e : Addr} (h : H e = some (.tup [])) : ∀ n, DpAll K H (List.replicate n (.ref e)) ((List.replicate n ([] : Wy)).map wd)
  | 0 => .nil
  | n + 1 => .cons (dp_of_wd (w := []) (st_of h)) (dpa_em h n)
/-- the fields of works -/
theorem ev_wf {K : PySem.W.Frag} {mg : Str → Option Value} {CK : Addr} {σ : L2.St} {H : Hp} {te : TE} {x dx : Addr} {fs : List (Str × V)} {v : V} {n : Str} (T : Cls K CK) (N : NoAttr K CK n) (h : Ev te σ H (.ref x)) (hx : H x = some (.ins CK dx fs)) (hl : fs.lookup n = some v) : Ev (tFld K te n) σ H v := fun H1 e Q q =>
  h H1 e _ fun H2 e2 => ⟨x, CK, dx, fs, v, rfl, (e.trans e2) _ _ hx, T, N, hl, q H2 e2⟩
theorem WkO.hv {CK CW : Addr} {H : Hp} {x : Addr} {wv : V} {rows : List (List Wy)} (h : WkO CK CW H x wv rows) : ∃ dx fs ha us, H x = some (.ins CK dx fs) ∧ fs.lookup ("wishes" : Str) = some wv ∧ fs.lookup ("heard" : Str) = some (.ref ha) ∧ H ha = some (.lst us) ∧ DqA H us (heardD rows) ∧ us.length = (linesW rows).length := by
  obtain ⟨dx, P, S, fs, kvs, hv, ov, us, hx, fw, fp, fh, fo, fs', hP, hpk, hh, ho, hS, hus⟩ := h.ex
  cases hh with
  | lst h1 h2 =>
    have := h2.length
    unfold heardD at this
    rw [List.length_map] at this
    exact ⟨dx, fs, _, _, hx, fw, fh, h1, h2, this⟩
section
variable {P : Program} {w : World} {K : PySem.W.Frag} {mg : Str → Option Value} {base : Heap} {f : Addr} {fd : FuncData} {CW CN CK : Addr}
def spFirstS (K : PySem.W.Frag) (CK CW : Addr) : Sp := fun vs H Q _ => ∃ (x wv : Addr) (rows : List (List Wy)), vs = [.ref x] ∧ WkO CK CW H x (.ref wv) rows ∧ ∀ H' u, Ex H H' → Dp K H' u (standD (begT rows) (begK rows)) → Q u H'
abbrev sFirstS : Stmt := top 36
theorem scFirstS : FnScope ["works", "takes"] ["works"] (defScope sFirstS) := ⟨rfl, rfl, rfl, by decide +kernel, rfl, by decide +kernel, by decide +kernel⟩
theorem ok_firstS (B : Bl mg) (T : KTx K mg CK) (TW : WTx K mg CW) {ag : Addr} (hG : mg "GOAL_WAY" = some (.ref ag)) (hGt : ∀ H, SqT K H ag [.int 0]) (F : FnP K "first_stand" sFirstS f fd) : FnOk P w K mg base CX0 1 f fd ["works"] (spFirstS K CK CW) := by
  refine F.ok scFirstS (fun vs H Q E h => ?_) (fun cdv A outer s H vs Q E hr h => ?_)
  · obtain ⟨x, wv, rows, rfl, _⟩ := h
    rfl
  · obtain ⟨x, wv, rows, rfl, hk, k⟩ := h
    refine ⟨_, pss_cons (ps_set (i := 1) scFirstS.nd rfl (Or.inl rfl) (pe_op op_catA (pe_tup (pa_cons (pe_glob (v := .ref ag) (by rfl) hG rfl) pa_nil)) (pe_op (op_repV (K := K) rfl) (pe_tup (pa_cons (pe_tup pa_nil) pa_nil)) (pe_op op_sub (pe_fld (pe_fld (pv 0) rfl) rfl) pe_int))))
      (pss_one (ps_ret (pe_tup (pa_cons (pv 1) (pa_cons (pe_op (op_repV (K := K) rfl) (pe_tup (pa_cons (pe_tup pa_nil) pa_nil)) (pe_callB call_len_seq (by rfl) B.len PySem.boot_len (pa_cons (pe_fld (pv 0) rfl) pa_nil))) pa_nil))))), ?_⟩
    obtain ⟨dx, fs, ha, us, hx, fw, fh, hha, hus, hul⟩ := hk.hv
    have hw := hk.wo
    have n8 := hw.n8
    have n2 := hw.n2
    have hll := lnw_len rows
    refine q_asgW ⟨by show 1 ≤ sizeLine; decide, fun t1 ht1 => ?_⟩
    have e1 := Ex.new (o := .tup [V.ref ag]) ht1
    have h1 : (upd H t1 (.tup [V.ref ag])) t1 = some (.tup [V.ref ag]) := upd_same
    generalize upd H t1 (.tup [V.ref ag]) = H1 at *
    refine t_emRep (K := K) (n := rows.length - 1) (fun H2 e2 => ?_) (by omega) fun t e H2 e2 he ht => ?_
    · have hx2 := (e1.trans e2) _ _ hx
      exact ev_is (ev_op (ev_wsize TW (ev_wf (mg := mg) T.cl T.n1 (ev_var (i := 0) rfl) hx2 fw) (hw.up (e1.trans e2))) ev_c rv_I0) (by rw [show ((rows.length : Int) - 1) = ((rows.length - 1 : Nat) : Int) by omega])
    refine ⟨t1, t, [.ref ag], List.replicate (rows.length - 1) (.ref e), rfl, rfl, st_of (e2 _ _ h1), st_of ht, by rw [List.length_replicate, sizeLine_eq]; show 1 + _ ≤ _; omega, (fun z => by cases z), fun _ z => ?_, fun _ _ b hb => ?_⟩
    · exfalso
      have := congrArg List.length z
      rw [List.length_replicate] at this
      simp at this
      omega
    have e3 := Ex.new (o := .tup ([V.ref ag] ++ List.replicate (rows.length - 1) (.ref e))) hb
    have hb3 : (upd H2 b (.tup ([V.ref ag] ++ List.replicate (rows.length - 1) (.ref e)))) b = some (.tup ([V.ref ag] ++ List.replicate (rows.length - 1) (.ref e))) := upd_same
    have he3 := e3 _ _ he
    generalize upd H2 b (.tup ([V.ref ag] ++ List.replicate (rows.length - 1) (.ref e))) = H3 at *
    have e03 := (e1.trans e2).trans e3
    change tRet _ _ [some (.ref x), some (.ref b)] H3
    refine ⟨.ref b, rfl, t_emRep (K := K) (n := (linesW rows).length) (fun H4 e4 => ?_) (by omega) fun t' e' H4 e4 he' ht' => ⟨by show 2 ≤ sizeLine; decide, fun T2 hT2 => ?_⟩⟩
    · have hx4 := (e03.trans e4) _ _ hx
      rw [← hul]
      exact ev_len (K := K) (ev_wf (mg := mg) T.cl T.n3 (ev_var (i := 0) rfl) hx4 fh) (sq_of ((e03.trans e4) _ _ hha))
    have e5 := Ex.new (o := .tup [V.ref b, .ref t']) hT2
    refine k _ _ ((e03.trans e4).trans e5) (.tup (st_of upd_same) (.cons (.tup (st_of ((e4.trans e5) _ _ hb3)) ?_) (.cons (.tup (st_of (e5 _ _ ht')) (dpa_em (e5 _ _ he') _)) .nil)))
    exact .cons (dp_of_wd (w := [0]) (hGt _)) (dpa_em ((e4.trans e5) _ _ he3) _)
/-! steps, begin -/
theorem call1 {sp : Sp} {E : XK} {te : TE} {σ : L2.St} {H : Hp} {Q : VK} (h : te σ H fun x H1 => sp [x] H1 Q E) : tCall sp [] E (tCons te tNil) σ H Q := h
theorem passAt0 {X : Cx} {σ : L2.St} : PassesAt CX0 X σ E0 := fun _ _ _ _ _ _ h => h.elim
theorem t_mkW {σ : L2.St} {H : Hp} {ta : TE} {wv : Addr} {rows : List (List Wy)} {Q : VK} {W : L2.St → XK} (ha : Ev ta σ H (.ref wv)) (hw : WO CW H (.ref wv) rows) (k : ∀ H' x, Ex H H' → H x = none → WkO CK CW H' x (.ref wv) rows → (∀ dx fs S, H' x = some (.ins CK dx fs) → fs.lookup ("steps" : Str) = some (.ref S) → H S = none) → Q (.ref x) H') : tMkAt CK (spWkI CK CW) W (tCons ta tNil) σ H Q := ha H (Ex.refl H) _ fun H1 e1 => fun x dx nx ndx nex => by
  have eU : Ex H1 (upd (upd H1 dx (.own x)) x (.ins CK dx [])) := fun b o hb => by
    rw [upd_ne (ne_of_none hb nx), upd_ne (ne_of_none hb ndx)]
    exact hb
  have nwx : wv ≠ x := fun z => by
    obtain ⟨w', _, _, h1, h2, _⟩ := (hw.up e1).ex
    injection h1 with h1
    rw [← h1, z, nx] at h2
    cases h2
  refine ⟨x, dx, wv, rows, rfl, upd_same, nwx, hw.up (e1.trans eU), fun H' o hK hS => ⟨rfl, k H' x (fun b u hb => ?_) (fresh_back e1 nx) hK fun dx' fs' S q1 q2 => fresh_back (e1.trans eU) (hS dx' fs' S q1 q2)⟩⟩
  have hb1 := e1 _ _ hb
  exact o b u (ne_of_none hb1 nx) (eU _ _ hb1)
/-- how works are made -/
structure MkK (P : Program) (w : World) (K : PySem.W.Frag) (mg : Str → Option Value) (base : Heap) (CK CW : Addr) : Prop where
  tx : KTx K mg CK
  ex : ∃ (fI : Addr) (fd : FuncData), Mk K CK fI ∧ FnOk P w K mg base CX0 8 fI fd ["self", "wishes"] (spWkI CK CW) ∧ Binds K fd ["self", "wishes"] []
def spBegin (K : PySem.W.Frag) (CW : Addr) : Sp := fun vs H Q _ => ∃ (wv : Addr) (rows : List (List Wy)), vs = [.ref wv] ∧ WO CW H (.ref wv) rows ∧ ∀ H' u, Ex H H' → Dp K H' u (standD (begT rows) (begK rows)) → Q u H'
abbrev sBegin : Stmt := top 47
theorem scBegin : FnScope ["wishes"] ["wishes"] (defScope sBegin) := ⟨rfl, rfl, rfl, by decide +kernel, rfl, by decide +kernel, by decide +kernel⟩
theorem ok_begin (M : MkK P w K mg base CK CW) (CF : Cal P w K mg base "first_stand" ["works"] 1 (spFirstS K CK CW)) (F : FnP K "begin" sBegin f fd) : FnOk P w K mg base CX0 10 f fd ["wishes"] (spBegin K CW) := by
  obtain ⟨fI, fdI, mk, FI, bI⟩ := M.ex
  refine F.ok scBegin (fun vs H Q E h => ?_) (fun cdv A outer s H vs Q E hr h => ?_)
  · obtain ⟨wv, rows, rfl, _⟩ := h
    rfl
  · obtain ⟨wv, rows, rfl, hw, k⟩ := h
    have r9 : Room 9 _ := hr
    have r1 : Room 1 _ := hr.mono (by decide)
    refine ⟨_, pss_one (ps_ret (pe_cal CF r1 (by rfl) (pa_cons (pe_mkAt mk FI r9 (by rfl) M.tx.g bI (W := fun _ => E0) (fun σ => passAt0) (pa_cons (pv 0) pa_nil)) pa_nil))), ?_⟩
    refine ret_any (call1 (t_mkW (ev_var (i := 0) rfl) hw fun H1 x e1 nx hk _ => ?_))
    exact ⟨x, wv, rows, rfl, hk, fun H2 u e2 hu => k H2 u (e1.trans e2) hu⟩
end
end Wk

set_option Elab.async false
set_option linter.all false
set_option maxRecDepth 100000
set_option maxHeartbeats 1000000
namespace Wk
open PySem PySem.Spec PyProof.Rows L2 Evl
theorem dq_tup {G : Hp} {v : V} {d : PyData} (h : Dq G v d) (g : isTu d = true) : ∃ (ca : Addr) (cs : List V) (ds2 : List PyData), v = .ref ca ∧ d = .tuple ds2 ∧ G ca = some (.tup cs) ∧ DqA G cs ds2 := by
  cases h with
  | tup c1 c2 => exact ⟨_, _, _, rfl, rfl, c1, c2⟩
  | _ => simp [isTu] at g
def hdB (ws : List Wy) (x : PyData) : Bool := intsB x && (decide (rts x = []) || decide (rts x ∈ ws))
def stB (rows : List (List Wy)) : PyData → Bool
  | .tuple [a, b] => tkB rows (some a) && (tgN ((linesW rows).length : Int) (some b) && ((List.range (linesW rows).length).map fun i => (((itemsT b)[i]?).map (hdB (restsW rows ((linesW rows).getD i [])))).getD false).all id)
  | _ => false
def SmS (d : PyData) : Prop := ∀ a ∈ itemsT d, ∀ x ∈ itemsT a, (itemsT x).length ≤ 1000
theorem lay_list_wds (ws : List Wy) : (PyData.list (ws.map wd)).canLay0 = true := by
  simp only [PyData.canLay0]
  exact lay_wds ws
section
variable {P : Program} {w : World} {K : PySem.W.Frag} {mg : Str → Option Value} {base : Heap} {f : Addr} {fd : FuncData} {CW CN CK : Addr}
/-! is_heard -/
abbrev spHd : Sp := spP fun H vs z => ∃ (wl v : V) (ws : List Wy) (d : PyData), vs = [wl, v] ∧ Dq H wl (.list (ws.map wd)) ∧ Dq H v d ∧ (itemsT d).length ≤ 1000 ∧ z = .bl (hdB ws d)
abbrev spHd1 (K : PySem.W.Frag) : Sp := spP fun H vs z => ∃ (wl v : V) (ws : List Wy) (x : Wy), vs = [wl, v] ∧ Dq H wl (.list (ws.map wd)) ∧ Dp K H v (wd x) ∧ x.length ≤ 1000 ∧ (x = [] ∨ x ∈ ws) ∧ z = .bl true
abbrev sHd : Stmt := top 38
theorem scHd : FnScope ["ways", "thing"] ["ways", "thing"] (defScope sHd) := ⟨rfl, rfl, rfl, by decide +kernel, rfl, by decide +kernel, by decide +kernel⟩
theorem rv_eqEm {σ : L2.St} {H : Hp} {tv : TE} {v : V} {x : Wy} (h : Ev tv σ H v) (hx : ∀ H1, Ex H H1 → Dp K H1 v (wd x)) : Ev (tOp (rEqD K) tv (tTup tNil)) σ H (.bl (decide (x = []))) :=
  ev_opU h (eu_tup ea_nil (by simp)) fun p H1 hp e1 => fun H2 e2 Q q => ⟨wd x, .tuple [], hx H2 (e1.trans e2), .tup (st_of (e2 _ _ hp)) .nil, shaped_wd _, shaped_wd [], by
    have := eqv_wd x []
    rw [show PyData.eqv (wd x) (.tuple []) = decide (x = []) from this]
    exact q H2 (Ex.refl _)⟩
theorem rv_inWs {σ : L2.St} {H : Hp} {tv tw : TE} {v wl : V} {x : Wy} {ws : List Wy} (h : Ev tv σ H v) (hw : Ev tw σ H wl) (hx : ∀ H1, Ex H H1 → Dp K H1 v (wd x)) (hws : ∀ H1, Ex H H1 → Dq H1 wl (.list (ws.map wd))) : Ev (tOp (rInD K) tv tw) σ H (.bl (decide (x ∈ ws))) :=
  ev_op h hw fun H1 e1 Q q => by
    refine ⟨wd x, ws.map wd, hx H1 e1, Dq.dp (lay_list_wds ws) (hws H1 e1), shaped_wd _, shaped_wds _, ?_⟩
    rw [any_wd]
    exact q H1 (Ex.refl _)
theorem ok_hd (C : Cal P w K mg base "is_integer_tuple" ["thing"] 2 spIntTup) (F : FnP K "is_heard" sHd f fd) : FnOk P w K mg base CX0 3 f fd ["ways", "thing"] spHd := by
  refine F.ok scHd (fun vs H Q E h => ?_) (fun cdv A outer s H vs Q E hr h => ?_)
  · obtain ⟨z, ⟨wl, v, ws, d, rfl, _⟩, _⟩ := h
    rfl
  · obtain ⟨z, ⟨wl, v, ws, d, rfl, hws, hv, hl, rfl⟩, k⟩ := h
    have hu : (A.deeper (envOfC "is_heard" (defScope sHd) s.heap.objs.size f cdv)).units + 65 < cLine := by have := hr.un; omega
    have hu4 : (A.deeper (envOfC "is_heard" (defScope sHd) s.heap.objs.size f cdv)).units + 64 < cLine := by omega
    refine ⟨_, pss_one (ps_ret (pe_and (pe_cal C hr (by rfl) (pa_cons (pv 1) pa_nil)) (pe_one (pe_or (pe_cmpR (op_eqD hu4) (pv 1) (pe_tup pa_nil) (nomark _)) (pe_one (pe_cmpR (op_inD hu) (pv 1) (pv 0) rfl)))))), ?_⟩
    refine s_ret (ev_andV (a := intsB d) (ev_call (ea_cons (ev_var rfl) ea_nil) (spP_v fun H1 e => ⟨v, d, rfl, hv.mono e, hl, rfl⟩)) fun hb => ?_) k
    have ed := intsB_wd hb
    have hx : ∀ H1, Ex H H1 → Dp K H1 v (wd (rts d)) := fun H1 e => by
      have h2 := hv.mono e
      rw [ed] at h2
      exact Dq.dp (SeqAt.canLay_of_shaped (shaped_wd _)) h2
    exact ev_orV (rv_eqEm (ev_var (i := 1) rfl) hx) fun _ => rv_inWs (ev_var (i := 1) rfl) (ev_var (i := 0) rfl) hx fun H1 e => hws.mono e
theorem ok_hd1 (C : Cal P w K mg base "is_integer_tuple" ["thing"] 2 (spIntTup1 K)) (F : FnP K "is_heard" sHd f fd) : FnOk P w K mg base CX0 3 f fd ["ways", "thing"] (spHd1 K) := by
  refine F.ok scHd (fun vs H Q E h => ?_) (fun cdv A outer s H vs Q E hr h => ?_)
  · obtain ⟨z, ⟨wl, v, ws, d, rfl, _⟩, _⟩ := h
    rfl
  · obtain ⟨z, ⟨wl, v, ws, x, rfl, hws, hv, hl, hm, rfl⟩, k⟩ := h
    have hu : (A.deeper (envOfC "is_heard" (defScope sHd) s.heap.objs.size f cdv)).units + 65 < cLine := by have := hr.un; omega
    have hu4 : (A.deeper (envOfC "is_heard" (defScope sHd) s.heap.objs.size f cdv)).units + 64 < cLine := by omega
    refine ⟨_, pss_one (ps_ret (pe_and (pe_cal C hr (by rfl) (pa_cons (pv 1) pa_nil)) (pe_one (pe_or (pe_cmpR (op_eqD hu4) (pv 1) (pe_tup pa_nil) (nomark _)) (pe_one (pe_cmpR (op_inD hu) (pv 1) (pv 0) rfl)))))), ?_⟩
    have e : (true && (decide (x = []) || decide (x ∈ ws))) = true := by
      rcases hm with z | z
      · rw [decide_eq_true z]; rfl
      · rw [decide_eq_true z]; simp
    rw [← e] at k
    have hx : ∀ H1, Ex H H1 → Dp K H1 v (wd x) := fun H1 e => Dp.up e hv
    exact s_ret (ev_andV (a := true) (ev_call (ea_cons (ev_var rfl) ea_nil) (spP_v fun H1 e => ⟨v, x, rfl, Dp.up e hv, hl, rfl⟩)) fun _ => ev_orV (rv_eqEm (ev_var (i := 1) rfl) hx) fun _ => rv_inWs (ev_var (i := 1) rfl) (ev_var (i := 0) rfl) hx fun H1 e => hws.mono e) k
/-! is_stand_of -/
abbrev spSO (CK CW : Addr) : Sp := spP fun H vs z => ∃ (x wv : Addr) (rows : List (List Wy)) (v : V) (d : PyData), vs = [.ref x, v] ∧ WkO CK CW H x (.ref wv) rows ∧ Dq H v d ∧ SmS d ∧ z = .bl (stB rows d)
abbrev sSO : Stmt := top 37
abbrev nSO : List Str := ["works", "thing", "ways", "item"]
theorem scSO : FnScope nSO ["works", "thing"] (defScope sSO) := ⟨rfl, rfl, rfl, by decide +kernel, rfl, by decide +kernel, by decide +kernel⟩
theorem WkO.up {H H' : Hp} {x : Addr} {wv : V} {rows : List (List Wy)} (h : WkO CK CW H x wv rows) (e : Ex H H') : WkO CK CW H' x wv rows := by
  obtain ⟨dx, P, S, fs, kvs, hv, ov, us, hx, fw, fp, fh, fo, fs', hP, hpk, hh, ho, hS, hus⟩ := h.ex
  exact ⟨⟨dx, P, S, fs, kvs, hv, ov, us, e _ _ hx, fw, fp, fh, fo, fs', e _ _ hP, hpk, hh.mono e, ho.mono e, e _ _ hS, hus.mono (off_ex e)⟩, h.wo.up e⟩
theorem ok_so (B : Bl mg) (hz : mg "zip" = none) (T : KTx K mg CK) (CT : Cal P w K mg base "is_tuple_of" ["many", "thing"] 1 (spTupOf CW)) (CTk : Cal P w K mg base "is_taking" ["wishes", "thing"] 8 (spTaking CW)) (CH : Cal P w K mg base "is_heard" ["ways", "thing"] 3 spHd) (F : FnP K "is_stand_of" sSO f fd) : FnOk P w K mg base CX0 9 f fd ["works", "thing"] (spSO CK CW) := by
  refine F.ok scSO (fun vs H Q E h => ?_) (fun cdv A outer s H vs Q E hr h => ?_)
  · obtain ⟨z, ⟨x, wv, rows, v, d, rfl, _⟩, _⟩ := h
    rfl
  · obtain ⟨z, ⟨x, wv, rows, v, d, rfl, hk, hv, hsm, rfl⟩, k⟩ := h
    have r1 : Room 1 _ := hr.mono (by decide)
    have r3 : Room 3 _ := hr.mono (by decide)
    refine ⟨_, pss_cons (ps_if (PW.pt (pw_or (pt_not (pt_val (pe_cal CT r1 (by rfl) (pa_cons pe_int (pa_cons (pv 1) pa_nil))))) (pw_or1 (pt_not (pt_val (pe_cal CTk hr (by rfl) (pa_cons (pe_fld (pv 0) rfl) (pa_cons (pe_ix ix_tup (pv 1) pe_int (fun _ _ => rfl)) pa_nil)))))))) (pss_one (ps_ret pe_bl)) pss_nil)
      (pss_cons (ps_if (pt_not (pt_val (pe_cal CT r1 (by rfl) (pa_cons (pe_callB call_len_seq (by rfl) B.len PySem.boot_len (pa_cons (pe_fld (pv 0) rfl) pa_nil)) (pa_cons (pe_ix ix_tup (pv 1) pe_int (fun _ _ => rfl)) pa_nil))))) (pss_one (ps_ret pe_bl)) pss_nil)
      (pss_one (ps_ret (pe_callB (cr_all rfl) (by rfl) B.all boot_all (pa_cons (pe_lc (own := [("ways", 2), ("item", 3)]) (g := gTup K 2 (gCons (gName 2) (gCons (gName 3) gNil))) (tt := tYes) rfl scSO.nd (pi_zipM (by rfl) hz (pa_cons (pe_fld (pv 0) rfl) (pa_cons (pe_ix ix_tup (pv 1) pe_int (fun _ _ => rfl)) pa_nil))) (blkOk_by (N := nSO) (sc := defScope sSO) (by decide +kernel))
          (fun _ _ _ _ _ => pg_tup rfl (pgs_cons (pg_name (i := 2) scSO.nd rfl (Or.inl rfl)) (pgs_cons (pg_name (i := 3) scSO.nd rfl (Or.inl rfl)) pgs_nil))) (fun _ _ _ _ _ => pts_nil) (fun _ _ _ _ _ => pe_cal CH r3 (by rfl) (pa_cons (pv 2) (pa_cons (pv 3) pa_nil)))) pa_nil))))), ?_⟩
    obtain ⟨dx, fs, ha, us, hx, fw, fh, hha, hus, hul⟩ := hk.hv
    have hw := hk.wo
    have hll := lnw_len rows
    have v1 : ∀ {H1 : Hp} {o2 o3 : Option V}, Ev (tVar 1) [some (.ref x), some v, o2, o3] H1 v := ev_var rfl
    have evW : ∀ {H1 : Hp} {o2 o3 : Option V}, Ex H H1 → Ev (tFld K (tVar 0) "wishes") [some (.ref x), some v, o2, o3] H1 (.ref wv) := fun e => ev_wf (mg := mg) T.cl T.n1 (ev_var (i := 0) rfl) (e _ _ hx) fw
    have evH : ∀ {H1 : Hp} {o2 o3 : Option V}, Ex H H1 → Ev (tFld K (tVar 0) "heard") [some (.ref x), some v, o2, o3] H1 (.ref ha) := fun e => ev_wf (mg := mg) T.cl T.n3 (ev_var (i := 0) rfl) (e _ _ hx) fh
    have ct : Ev (tCall (spTupOf CW) [] E0 (tCons (tC (.int 2)) (tCons (tVar 1) tNil))) [some (.ref x), some v, none, none] H (.bl (tgN 2 (some d))) := ev_call (ea_cons ev_c (ea_cons v1 ea_nil)) (spP_v fun H1 e => ⟨2, v, some d, rfl, hv.mono e, rfl⟩)
    have kF : stB rows d = false → ∀ H', Ex H H' → Q (.bl false) H' := fun z H' e => by rw [z] at k; exact k H' e
    cases htg : tgN 2 (some d) with
    | false =>
      rw [htg] at ct
      have hf : stB rows d = false := by
        unfold stB
        split
        · exact absurd htg (by simp [tgN, isTu, itemsT])
        · rfl
      refine q_when (b := !false || true) (et_or (a := !false) (b := true) (et_not (et_B ct)) fun z => by cases z) (fun hb H1 e1 => s_ret ev_c fun H2 e2 => kF hf H2 (e1.trans e2)) (fun hb => by simp at hb)
    | true =>
      rw [htg] at ct
      obtain ⟨ht1, ht2⟩ := Bool.and_eq_true_iff.mp (show (isTu d && decide (V.int ((itemsT d).length : Int) = V.int (2 : Int))) = true from htg)
      obtain ⟨ta, ts, ds, rfl, rfl, s1, s2⟩ := dq_tup hv ht1
      have hl2 : ds.length = 2 := by have := of_decide_eq_true ht2; injection this with z; have z2 : (ds.length : Int) = 2 := z; omega
      match ds, hl2, s2 with
      | [a, b], _, s2 =>
      cases s2 with
      | cons q1 q2 =>
      cases q2 with
      | cons q3 q4 =>
      cases q4
      rename_i va vb
      have hst : stB rows (.tuple [a, b]) = (tkB rows (some a) && (tgN ((linesW rows).length : Int) (some b) && ((List.range (linesW rows).length).map fun i => (((itemsT b)[i]?).map (hdB (restsW rows ((linesW rows).getD i [])))).getD false).all id)) := rfl
      have t0 : ∀ {H1 : Hp} {o2 o3 : Option V}, Ex H H1 → Ev (tOp (rIxT K) (tVar 1) (tC (.int 0))) [some (.ref x), some (.ref ta), o2, o3] H1 va := fun e => ev_at (K := K) (j := 0) v1 (st_of (e _ _ s1)) (ev_is ev_c rfl) rfl
      have t1 : ∀ {H1 : Hp} {o2 o3 : Option V}, Ex H H1 → Ev (tOp (rIxT K) (tVar 1) (tC (.int 1))) [some (.ref x), some (.ref ta), o2, o3] H1 vb := fun e => ev_at (K := K) (j := 1) v1 (st_of (e _ _ s1)) (ev_is ev_c rfl) rfl
      have ctk : Ev (tCall (spTaking CW) [] E0 (tCons (tFld K (tVar 0) "wishes") (tCons (tOp (rIxT K) (tVar 1) (tC (.int 0))) tNil))) [some (.ref x), some (.ref ta), none, none] H (.bl (tkB rows (some a))) := ev_call (ea_cons (evW (Ex.refl H)) (ea_cons (t0 (Ex.refl H)) ea_nil)) (spP_v fun H1 e => ⟨.ref wv, va, some a, rows, rfl, hw.up e, q1.mono e, fun d' hd' => by injection hd' with hd'; subst hd'; exact hsm a List.mem_cons_self, rfl⟩)
      refine q_when (b := !true || !tkB rows (some a)) (et_or (et_not (et_B ct)) fun _ => et_not (et_B ctk)) (fun hb H1 e1 => s_ret ev_c fun H2 e2 => kF ?_ H2 (e1.trans e2)) (fun hb H1 e1 => ?_)
      · have z : tkB rows (some a) = false := by simpa using hb
        rw [hst, z]; rfl
      have htk : tkB rows (some a) = true := by simpa using hb
      have hlen : Ev (tCB (rLenS K) (tCons (tFld K (tVar 0) "heard") tNil)) [some (.ref x), some (.ref ta), none, none] H1 (.int ((linesW rows).length : Int)) := by
        rw [← hul]
        exact ev_len (K := K) (evH e1) (sq_of (e1 _ _ hha))
      have ctb : Ev (tCall (spTupOf CW) [] E0 (tCons (tCB (rLenS K) (tCons (tFld K (tVar 0) "heard") tNil)) (tCons (tOp (rIxT K) (tVar 1) (tC (.int 1))) tNil))) [some (.ref x), some (.ref ta), none, none] H1 (.bl (tgN ((linesW rows).length : Int) (some b))) := ev_call (ea_cons hlen (ea_cons (t1 e1) ea_nil)) (spP_v fun H2 e => ⟨_, vb, some b, rfl, q3.mono (e1.trans e), rfl⟩)
      refine q_when (b := !tgN ((linesW rows).length : Int) (some b)) (et_not (et_B ctb)) (fun hb H2 e2 => s_ret ev_c fun H3 e3 => kF ?_ H3 ((e1.trans e2).trans e3)) (fun hb H2 e2 => ?_)
      · have z : tgN ((linesW rows).length : Int) (some b) = false := by simpa using hb
        rw [hst, htk, z]; rfl
      have htb : tgN ((linesW rows).length : Int) (some b) = true := by simpa using hb
      rw [hst, htk, htb, Bool.true_and, Bool.true_and] at k
      obtain ⟨hb1, hb2⟩ := Bool.and_eq_true_iff.mp (show (isTu b && decide (V.int ((itemsT b).length : Int) = V.int ((linesW rows).length : Int))) = true from htb)
      obtain ⟨tb, bs, ds2, rfl, rfl, c1, c2⟩ := dq_tup q3 hb1
      have hbl : ds2.length = (linesW rows).length := by have := of_decide_eq_true hb2; injection this with z; have z2 : (ds2.length : Int) = ((linesW rows).length : Int) := z; omega
      have hcl := c2.length
      have hsm2 : ∀ x ∈ ds2, (itemsT x).length ≤ 1000 := fun x hx => hsm (.tuple ds2) (by simp [itemsT]) x hx
      have e02 := e1.trans e2
      rw [← hul] at k
      refine s_ret (ev_allZM (K := K) (i := 2) (j := 3) (vs := [2, 3]) (fun i => (((itemsT (.tuple ds2))[i]?).map (hdB (restsW rows ((linesW rows).getD i [])))).getD false) (ea_cons (evH e02) (ea_cons (t1 e02) ea_nil)) (sq_of (e02 _ _ hha)) (st_of (e02 _ _ c1)) (by omega) (by omega) (fun x y => rfl) (fun i xv yv H3 e3 hx3 hy3 => ?_)) fun H3 e3 => k H3 (e02.trans e3)
      obtain ⟨d3, d31, d32⟩ := c2.get hy3
      obtain ⟨d4, d41, d42⟩ := hus.get hx3
      have hil := (List.getElem?_eq_some_iff.mp d41).1
      have eg : ((itemsT (.tuple ds2))[i]?).map (hdB (restsW rows ((linesW rows).getD i []))) = some (hdB (restsW rows ((linesW rows).getD i [])) d3) := by
        show (ds2[i]?).map _ = _
        rw [d31]
        rfl
      have e4 : d4 = .list ((restsW rows ((linesW rows).getD i [])).map wd) := by
        unfold heardD at d41
        rw [List.getElem?_map] at d41
        cases hq : (linesW rows)[i]? with
        | none => rw [hq] at d41; cases d41
        | some p =>
          rw [hq] at d41
          rw [List.getD_eq_getElem?_getD, hq]
          exact (Option.some.inj d41).symm
      subst e4
      rw [eg]
      show Ev _ _ _ (.bl (hdB (restsW rows ((linesW rows).getD i [])) d3))
      exact ev_call (ea_cons (ev_var (i := 2) rfl) (ea_cons (ev_var (i := 3) rfl) ea_nil)) (spP_v fun H4 e4 => ⟨xv, yv, _, d3, rfl, d42.mono ((e02.trans e3).trans e4), d32.mono ((e02.trans e3).trans e4), hsm2 d3 (List.mem_of_getElem? d31), rfl⟩)
/-! is_stand_of of a stand that is one -/
structure StOk (rows : List (List Wy)) (ts ks : List Wy) : Prop where
  t : FullT rows ts
  kl : ks.length = (linesW rows).length
  ko : ∀ i x, ks[i]? = some x → (x = [] ∨ x ∈ restsW rows ((linesW rows).getD i [])) ∧ x.length ≤ 1000
theorem stOk_beg {rows : List (List Wy)} (h2 : 2 ≤ rows.length) : StOk rows (begT rows) (begK rows) := by
  refine ⟨⟨by unfold begT; rw [List.length_cons, List.length_replicate]; omega, fun i x h => ?_⟩, by unfold begK; rw [List.length_replicate], fun i x h => ?_⟩
  · unfold begT at h
    unfold chW
    cases i with
    | zero =>
      rw [if_pos rfl]
      simp at h
      simp [h]
    | succ i =>
      rw [if_neg (by omega)]
      rw [List.getElem?_cons_succ, List.getElem?_replicate] at h
      split at h
      · injection h with h
        rw [← h]
        simp
      · cases h
  · unfold begK at h
    rw [List.getElem?_replicate] at h
    split at h
    · injection h with h
      rw [← h]
      exact ⟨.inl rfl, by simp⟩
    · cases h
abbrev spSO1 (K : PySem.W.Frag) (CK CW : Addr) : Sp := spP fun H vs z => ∃ (x wv : Addr) (rows : List (List Wy)) (v : V) (ts ks : List Wy), vs = [.ref x, v] ∧ WkO CK CW H x (.ref wv) rows ∧ Dp K H v (standD ts ks) ∧ StOk rows ts ks ∧ z = .bl true
theorem ok_so1 (B : Bl mg) (hz : mg "zip" = none) (T : KTx K mg CK) (CT : Cal P w K mg base "is_tuple_of" ["many", "thing"] 1 (spTup1 K)) (CTk : Cal P w K mg base "is_taking" ["wishes", "thing"] 8 (spTaking1 K CW)) (CH : Cal P w K mg base "is_heard" ["ways", "thing"] 3 (spHd1 K)) (F : FnP K "is_stand_of" sSO f fd) : FnOk P w K mg base CX0 9 f fd ["works", "thing"] (spSO1 K CK CW) := by
  refine F.ok scSO (fun vs H Q E h => ?_) (fun cdv A outer s H vs Q E hr h => ?_)
  · obtain ⟨z, ⟨x, wv, rows, v, ts, ks, rfl, _⟩, _⟩ := h
    rfl
  · obtain ⟨z, ⟨x, wv, rows, v, ts, ks, rfl, hk, hv, hok, rfl⟩, k⟩ := h
    have r1 : Room 1 _ := hr.mono (by decide)
    have r3 : Room 3 _ := hr.mono (by decide)
    refine ⟨_, pss_cons (ps_if (PW.pt (pw_or (pt_not (pt_val (pe_cal CT r1 (by rfl) (pa_cons pe_int (pa_cons (pv 1) pa_nil))))) (pw_or1 (pt_not (pt_val (pe_cal CTk hr (by rfl) (pa_cons (pe_fld (pv 0) rfl) (pa_cons (pe_ix ix_tup (pv 1) pe_int (fun _ _ => rfl)) pa_nil)))))))) (pss_one (ps_ret pe_bl)) pss_nil)
      (pss_cons (ps_if (pt_not (pt_val (pe_cal CT r1 (by rfl) (pa_cons (pe_callB call_len_seq (by rfl) B.len PySem.boot_len (pa_cons (pe_fld (pv 0) rfl) pa_nil)) (pa_cons (pe_ix ix_tup (pv 1) pe_int (fun _ _ => rfl)) pa_nil))))) (pss_one (ps_ret pe_bl)) pss_nil)
      (pss_one (ps_ret (pe_callB (cr_all rfl) (by rfl) B.all boot_all (pa_cons (pe_lc (own := [("ways", 2), ("item", 3)]) (g := gTup K 2 (gCons (gName 2) (gCons (gName 3) gNil))) (tt := tYes) rfl scSO.nd (pi_zipM (by rfl) hz (pa_cons (pe_fld (pv 0) rfl) (pa_cons (pe_ix ix_tup (pv 1) pe_int (fun _ _ => rfl)) pa_nil))) (blkOk_by (N := nSO) (sc := defScope sSO) (by decide +kernel))
          (fun _ _ _ _ _ => pg_tup rfl (pgs_cons (pg_name (i := 2) scSO.nd rfl (Or.inl rfl)) (pgs_cons (pg_name (i := 3) scSO.nd rfl (Or.inl rfl)) pgs_nil))) (fun _ _ _ _ _ => pts_nil) (fun _ _ _ _ _ => pe_cal CH r3 (by rfl) (pa_cons (pv 2) (pa_cons (pv 3) pa_nil)))) pa_nil))))), ?_⟩
    obtain ⟨dx, fs, ha, us, hx, fw, fh, hha, hus, hul⟩ := hk.hv
    have hw := hk.wo
    have hll := lnw_len rows
    have hvv := hv
    unfold standD at hv
    cases hv with
    | tup s1 s2 =>
    rename_i ta tvs
    cases s2 with
    | cons q1 q2 =>
    cases q2 with
    | cons q3 q4 =>
    cases q4
    rename_i va vb
    have v1 : ∀ {H1 : Hp} {o2 o3 : Option V}, Ev (tVar 1) [some (.ref x), some (.ref ta), o2, o3] H1 (.ref ta) := ev_var rfl
    have evW : ∀ {H1 : Hp} {o2 o3 : Option V}, Ex H H1 → Ev (tFld K (tVar 0) "wishes") [some (.ref x), some (.ref ta), o2, o3] H1 (.ref wv) := fun e => ev_wf (mg := mg) T.cl T.n1 (ev_var (i := 0) rfl) (e _ _ hx) fw
    have evH : ∀ {H1 : Hp} {o2 o3 : Option V}, Ex H H1 → Ev (tFld K (tVar 0) "heard") [some (.ref x), some (.ref ta), o2, o3] H1 (.ref ha) := fun e => ev_wf (mg := mg) T.cl T.n3 (ev_var (i := 0) rfl) (e _ _ hx) fh
    have t0 : ∀ {H1 : Hp} {o2 o3 : Option V}, Ex H H1 → Ev (tOp (rIxT K) (tVar 1) (tC (.int 0))) [some (.ref x), some (.ref ta), o2, o3] H1 va := fun e => ev_at (K := K) (j := 0) v1 (ex_t e s1) (ev_is ev_c rfl) rfl
    have t1 : ∀ {H1 : Hp} {o2 o3 : Option V}, Ex H H1 → Ev (tOp (rIxT K) (tVar 1) (tC (.int 1))) [some (.ref x), some (.ref ta), o2, o3] H1 vb := fun e => ev_at (K := K) (j := 1) v1 (ex_t e s1) (ev_is ev_c rfl) rfl
    have ct : Ev (tCall (spTup1 K) [] E0 (tCons (tC (.int 2)) (tCons (tVar 1) tNil))) [some (.ref x), some (.ref ta), none, none] H (.bl true) := ev_call (ea_cons ev_c (ea_cons v1 ea_nil)) (spP_v fun H1 e => ⟨2, .ref ta, _, rfl, Dp.up e hvv, rfl⟩)
    have ctk : Ev (tCall (spTaking1 K CW) [] E0 (tCons (tFld K (tVar 0) "wishes") (tCons (tOp (rIxT K) (tVar 1) (tC (.int 0))) tNil))) [some (.ref x), some (.ref ta), none, none] H (.bl true) := ev_call (ea_cons (evW (Ex.refl H)) (ea_cons (t0 (Ex.refl H)) ea_nil)) (spP_v fun H1 e => ⟨.ref wv, va, ts, rows, rfl, hw.up e, Dp.up e q1, hok.t, rfl⟩)
    refine q_when (b := !true || !true) (et_or (et_not (et_B ct)) fun _ => et_not (et_B ctk)) (fun hb => by simp at hb) (fun _ H1 e1 => ?_)
    have hlen : Ev (tCB (rLenS K) (tCons (tFld K (tVar 0) "heard") tNil)) [some (.ref x), some (.ref ta), none, none] H1 (.int ((linesW rows).length : Int)) := by
      rw [← hul]
      exact ev_len (K := K) (evH e1) (sq_of (e1 _ _ hha))
    have ctb : Ev (tCall (spTup1 K) [] E0 (tCons (tCB (rLenS K) (tCons (tFld K (tVar 0) "heard") tNil)) (tCons (tOp (rIxT K) (tVar 1) (tC (.int 1))) tNil))) [some (.ref x), some (.ref ta), none, none] H1 (.bl (decide (V.int ((ks.map wd).length : Int) = V.int ((linesW rows).length : Int)))) := ev_call (ea_cons hlen (ea_cons (t1 e1) ea_nil)) (spP_v fun H2 e => ⟨_, vb, _, rfl, Dp.up (e1.trans e) q3, rfl⟩)
    rw [List.length_map, hok.kl, decide_eq_true rfl] at ctb
    refine q_when (b := !true) (et_not (et_B ctb)) (fun hb => by simp at hb) (fun _ H2 e2 => ?_)
    cases q3 with
    | tup c1 c2 =>
    rename_i tb bs
    have hcl := dpa_len c2
    rw [List.length_map, hok.kl] at hcl
    have e02 := e1.trans e2
    refine s_ret (ev_is (ev_allZM (K := K) (i := 2) (j := 3) (vs := [2, 3]) (fun i => true) (ea_cons (evH e02) (ea_cons (t1 e02) ea_nil)) (sq_of (e02 _ _ hha)) (ex_t e02 c1) (by omega) (by omega) (fun x y => rfl) (fun i xv yv H3 e3 hx3 hy3 => ?_)) (by rw [range_true])) fun H3 e3 => k H3 (e02.trans e3)
    obtain ⟨d3, d31, d32⟩ := dpa_get c2 hy3
    obtain ⟨d4, d41, d42⟩ := hus.get hx3
    have e4 : d4 = .list ((restsW rows ((linesW rows).getD i [])).map wd) := by
      unfold heardD at d41
      rw [List.getElem?_map] at d41
      cases hq : (linesW rows)[i]? with
      | none => rw [hq] at d41; cases d41
      | some p =>
        rw [hq] at d41
        rw [List.getD_eq_getElem?_getD, hq]
        exact (Option.some.inj d41).symm
    subst e4
    obtain ⟨o1, o2⟩ := hok.ko i d3 d31
    exact ev_call (ea_cons (ev_var (i := 2) rfl) (ea_cons (ev_var (i := 3) rfl) ea_nil)) (spP_v fun H4 e4 => ⟨xv, yv, _, d3, rfl, d42.mono ((e02.trans e3).trans e4), Dp.up ((e02.trans e3).trans e4) d32, o2, o1, rfl⟩)
/-! is_stand -/
abbrev spIS (CW : Addr) : Sp := spP fun H vs z => ∃ (wv : Addr) (rows : List (List Wy)) (v : V) (d : PyData), vs = [.ref wv, v] ∧ WO CW H (.ref wv) rows ∧ Dq H v d ∧ SmS d ∧ z = .bl (stB rows d)
abbrev spIS1 (K : PySem.W.Frag) (CW : Addr) : Sp := spP fun H vs z => ∃ (wv : Addr) (rows : List (List Wy)) (v : V) (ts ks : List Wy), vs = [.ref wv, v] ∧ WO CW H (.ref wv) rows ∧ Dp K H v (standD ts ks) ∧ StOk rows ts ks ∧ z = .bl true
abbrev sIS : Stmt := top 48
theorem scIS : FnScope ["wishes", "thing"] ["wishes", "thing"] (defScope sIS) := ⟨rfl, rfl, rfl, by decide +kernel, rfl, by decide +kernel, by decide +kernel⟩
theorem call2 {sp : Sp} {E : XK} {te : TE} {σ : L2.St} {H : Hp} {Q : VK} (h : te σ H fun x H1 => ∃ v, σ[1]? = some (some v) ∧ sp [x, v] H1 Q E) : tCall sp [] E (tCons te (tCons (tVar 1) tNil)) σ H Q := h
theorem ok_is (M : MkK P w K mg base CK CW) (CS : Cal P w K mg base "is_stand_of" ["works", "thing"] 9 (spSO CK CW)) (F : FnP K "is_stand" sIS f fd) : FnOk P w K mg base CX0 10 f fd ["wishes", "thing"] (spIS CW) := by
  obtain ⟨fI, fdI, mk, FI, bI⟩ := M.ex
  refine F.ok scIS (fun vs H Q E h => ?_) (fun cdv A outer s H vs Q E hr h => ?_)
  · obtain ⟨z, ⟨wv, rows, v, d, rfl, _⟩, _⟩ := h
    rfl
  · obtain ⟨z, ⟨wv, rows, v, d, rfl, hw, hv, hsm, rfl⟩, k⟩ := h
    have r9 : Room 9 _ := hr
    refine ⟨_, pss_one (ps_ret (pe_cal CS r9 (by rfl) (pa_cons (pe_mkAt mk FI r9 (by rfl) M.tx.g bI (W := fun _ => E0) (fun σ => passAt0) (pa_cons (pv 0) pa_nil)) (pa_cons (pv 1) pa_nil)))), ?_⟩
    refine ret_any (call2 (t_mkW (ev_var (i := 0) rfl) hw fun H1 x e1 nx hk _ => ⟨v, rfl, ?_⟩))
    exact ⟨_, ⟨x, wv, rows, v, d, rfl, hk, hv.mono e1, hsm, rfl⟩, fun H2 e2 => k H2 (e1.trans e2)⟩
theorem ok_is1 (M : MkK P w K mg base CK CW) (CS : Cal P w K mg base "is_stand_of" ["works", "thing"] 9 (spSO1 K CK CW)) (F : FnP K "is_stand" sIS f fd) : FnOk P w K mg base CX0 10 f fd ["wishes", "thing"] (spIS1 K CW) := by
  obtain ⟨fI, fdI, mk, FI, bI⟩ := M.ex
  refine F.ok scIS (fun vs H Q E h => ?_) (fun cdv A outer s H vs Q E hr h => ?_)
  · obtain ⟨z, ⟨wv, rows, v, ts, ks, rfl, _⟩, _⟩ := h
    rfl
  · obtain ⟨z, ⟨wv, rows, v, ts, ks, rfl, hw, hv, hok, rfl⟩, k⟩ := h
    have r9 : Room 9 _ := hr
    refine ⟨_, pss_one (ps_ret (pe_cal CS r9 (by rfl) (pa_cons (pe_mkAt mk FI r9 (by rfl) M.tx.g bI (W := fun _ => E0) (fun σ => passAt0) (pa_cons (pv 0) pa_nil)) (pa_cons (pv 1) pa_nil)))), ?_⟩
    refine ret_any (call2 (t_mkW (ev_var (i := 0) rfl) hw fun H1 x e1 nx hk _ => ⟨v, rfl, ?_⟩))
    exact ⟨_, ⟨x, wv, rows, v, ts, ks, rfl, hk, Dp.up e1 hv, hok, rfl⟩, fun H2 e2 => k H2 (e1.trans e2)⟩
end
end Wk

set_option Elab.async false
set_option linter.all false
set_option maxRecDepth 100000
set_option maxHeartbeats 1000000
namespace Wk
open PySem PySem.Spec PyProof.Rows L2 Evl
theorem op_catAK {X : Cx} {K : PySem.W.Frag} (hK : X.K = K) : OpR X (binaryOp .Add) (rCatA K) := by
  subst hK
  exact op_catA
/-! a list that is made, of ways or pairs -/
def EvLn (tl : TE) (σ : L2.St) (H : Hp) (ls : List Wy) : Prop := ∀ H1, Ex H H1 → ∀ Q : VK, (∀ a us H2, Ex H1 H2 → H1 a = none → H2 a = some (.lst us) → DqA H2 us (ls.map wd) → Q (.ref a) H2) → tl σ H1 Q
section
variable {K : PySem.W.Frag} {t : TT} {te tl : TE} {σ : L2.St} {H : Hp} {j : Nat} {vs : List Nat} {row : List Wy}
theorem dl_LW (f : Nat → Bool) (d : Nat → PyData) (h : EvLn tl σ H row) (hz : row.length ≤ 40000) (hw : ∀ x, wipe ((wipe σ vs).set j (some x)) vs = wipe σ vs)
    (ht : ∀ (i : Nat) (a : Addr) (w : Wy) H1, Ex H H1 → row[i]? = some w → H1 a = some (.tup (w.map V.int)) → EvT t ((wipe σ vs).set j (some (.ref a))) H1 (f i)) (he : ∀ (i : Nat) (a : Addr) (w : Wy) H1, Ex H H1 → row[i]? = some w → H1 a = some (.tup (w.map V.int)) → f i = true → EvD te ((wipe σ vs).set j (some (.ref a))) H1 (d i)) :
    EvLD (tLc (iList K tl) (gName j) t te vs) σ H ((upTo f row.length).map d) := fun H1 e Q q => h H1 e _ fun a xs H2 e2 na a1 a2 => by
  have l1 := a2.length
  rw [List.length_map] at l1
  refine ⟨a, rfl, ⟨xs, sq_of a1⟩, fun D hD => ?_⟩
  have at_ : ∀ {i : Nat} {x : V} {H' : Hp}, Ex H2 H' → xs[i]? = some x → ∃ b w, row[i]? = some w ∧ x = .ref b ∧ H' b = some (.tup (w.map V.int)) := fun {i x H'} e' hx => by
    obtain ⟨w, w1, w2⟩ := a2.wds_inv hx
    obtain ⟨b, rfl, hb⟩ := wd_ref w2
    exact ⟨b, w, w1, rfl, e' _ _ hb⟩
  exact lc_new (Yx := fun i x => xs[i]? = some x) (fun i x => (wipe σ vs).set j (some x)) (walk_list (K := K) (a := a) (xs := xs)) hD (by omega) (fun H' e' => sq_of (e' _ _ a1)) (fun i x H' R _ _ _ r => r) (fun i x => hw x)
    (fun i x H' e' _ hi => by
      obtain ⟨b, w, w1, rfl, w2⟩ := at_ e' hi
      exact ht i b w H' ((e.trans e2).trans e') w1 w2) (fun i x H' e' _ hi hf => by
      obtain ⟨b, w, w1, rfl, w2⟩ := at_ e' hi
      exact he i b w H' ((e.trans e2).trans e') w1 w2 hf)
    (fun us H' e' hD' g => q D us H' (fresh_back e2 hD) (e2.trans e') hD' (by rw [l1] at g; exact g.mono (off_ex (fr_dn e2))))
/-- ("tell",) + line -/
theorem d_tell {s : Str} {tv : TE} {a : Addr} {p : Wy} (hv : Ev tv σ H (.ref a)) (ha : H a = some (.tup (p.map V.int))) (h0 : p ≠ []) (h9 : p.length ≤ 1000) : EvD (tOp (rCatA K) (tTup (tCons (tC (.str s)) tNil)) tv) σ H (.tuple (.str s :: p.map PyData.int)) := fun H1 e Q q => by
  refine ⟨by show 1 ≤ sizeLine; decide, fun t ht => ?_⟩
  have e1 := Ex.new (o := .tup [V.str s]) ht
  refine hv _ (e.trans e1) _ fun H2 e2 => ?_
  refine ⟨t, a, [.str s], p.map V.int, rfl, rfl, st_of (e2 _ _ upd_same), st_of (((e.trans e1).trans e2) _ _ ha), by rw [List.length_map, sizeLine_eq]; show 1 + p.length ≤ _; omega, (fun z => by cases z), fun _ z => absurd (List.map_eq_nil_iff.mp z) h0, fun _ _ r hr => ?_⟩
  have e3 := Ex.new (o := .tup ([V.str s] ++ p.map V.int)) hr
  refine q _ _ ((e1.trans e2).trans e3) (.tup ?_ (.cons (.str s) (DqA.ints p)))
  rw [fr_at fun l z => by rw [(e1.trans e2) _ _ z] at hr; cases hr]
  exact upd_same
end
section
variable {P : Program} {w : World} {K : PySem.W.Frag} {mg : Str → Option Value} {base : Heap} {f : Addr} {fd : FuncData}
/-! _law_rests -/
def spRests : Sp := fun vs H Q _ => ∃ (lv pv : V) (rows : List (List Wy)) (u v : Nat), vs = [lv, pv] ∧ Dq H lv (pd rows) ∧ GW rows ∧ (∀ row ∈ rows, row.length ≤ 6) ∧ Dq H pv (wd [(u : Int), (v : Int)]) ∧ v < rows.length ∧ ∀ H' l us, H l = none → Ex H H' → H' l = some (.lst us) → DqA (off l (Fr H H')) us ((restsW rows [(u : Int), (v : Int)]).map wd) → Q (.ref l) H'
abbrev sRests : Stmt := top 74
abbrev nRests : List Str := ["_law_lists_here", "_law_line", "_law_way"]
theorem scRests : FnScope nRests ["_law_lists_here", "_law_line"] (defScope sRests) := ⟨rfl, rfl, rfl, by decide +kernel, rfl, by decide +kernel, by decide +kernel⟩
theorem rests_eq {rows : List (List Wy)} {u v : Nat} {row : List Wy} (h : rows[v]? = some row) : restsW rows [(u : Int), (v : Int)] = (row.filter fun w => decide (w.getD 1 0 = (u : Int))).map (List.drop 1) := by
  unfold restsW
  have e : rows.getD (([(u : Int), (v : Int)] : Wy).getD 1 0).toNat [] = row := by
    show rows.getD ((v : Int)).toNat [] = _
    rw [Int.toNat_natCast, List.getD_eq_getElem?_getD, h]
    rfl
  rw [e]
  rfl
theorem ok_rests (F : FnP K "_law_rests" sRests f fd) : FnOk P w K mg base CX0 1 f fd ["_law_lists_here", "_law_line"] spRests := by
  refine F.ok scRests (fun vs H Q E h => ?_) (fun cdv A outer s H vs Q E hr h => ?_)
  · obtain ⟨lv, pw, rows, u, v, rfl, _⟩ := h
    rfl
  · obtain ⟨lv, pw, rows, u, v, rfl, hl, hG, h6, hp, hv, k⟩ := h
    refine ⟨_, pss_one (ps_ret (pe_lc (own := [("_law_way", 2)]) (g := gName 2) rfl scRests.nd (pi_tup (pe_ix (ix_tupK (K := K) rfl) (pv 0) (pe_ix (ix_tupK (K := K) rfl) (pv 1) pe_int (fun _ _ => rfl)) (fun _ _ => rfl))) (blkOk_by (N := nRests) (sc := defScope sRests) (by decide +kernel))
      (fun _ _ _ _ _ => pg_name (i := 2) scRests.nd rfl (Or.inl rfl)) (fun _ _ _ _ _ => pts_one (pt_cmpR op_eq (pe_ix (ix_tupK (K := K) rfl) (pv 2) pe_int (fun _ _ => rfl)) (pe_ix (ix_tupK (K := K) rfl) (pv 1) pe_int (fun _ _ => rfl)) (nomark _)))
      (fun _ _ _ _ _ => pe_slice (sl_tupK (K := K) rfl) (pv 2) (po_some pe_int) po_none))), ?_⟩
    obtain ⟨pa, rfl, hpa⟩ := wd_ref hp
    have hrw : rows[v]? = some rows[v] := List.getElem?_eq_getElem hv
    have hr6 := h6 _ (List.getElem_mem hv)
    have hok : ∀ x ∈ rows[v], WyOk rows.length v x := hG.ok v _ hrw
    have hrest := rests_eq (u := u) hrw
    unfold pd at hl
    cases hl with
    | tup l1 l2 =>
    rename_i la lxs
    obtain ⟨rv, hrv, hdr⟩ := l2.at (i := v) (d := rd rows[v]) (by rw [List.getElem?_map, hrw]; rfl)
    generalize rows[v] = row at *
    have hrow : EvRow (tOp (rIxT K) (tVar 0) (tOp (rIxT K) (tVar 1) (tC (.int 1)))) (start nRests [V.ref la, .ref pa]) H row := fun H1 e Q q =>
      (ev_at (K := K) (ev_var (i := 0) rfl) (st_of l1) (ev_at (K := K) (j := 1) (ev_var (i := 1) rfl) (st_of hpa) (ev_is ev_c rfl) rfl) hrv : Ev _ (start nRests [V.ref la, .ref pa]) H rv) H1 e _ fun H2 e2 => q rv H2 e2 (hdr.mono (e.trans e2))
    refine ret_any ?_
    refine dl_W (K := K) (row := row) (fun i => decide ((row.getD i []).getD 1 0 = (u : Int))) (fun i => wd ((row.getD i []).drop 1)) hrow (by omega) (fun x => rfl) (fun i a w H1 e hi ha => ?_) (fun i a w H1 e hi ha _ => ?_) H (Ex.refl _) _ fun l us H' np e hl hus => k H' l us np e hl ?_
    · have eg : row.getD i [] = w := by rw [List.getD_eq_getElem?_getD, hi]; rfl
      have l2 := (hok w (List.mem_of_getElem? hi)).l2
      show EvT _ _ _ (decide ((row.getD i []).getD 1 0 = (u : Int)))
      rw [eg, ← int_dec]
      refine et_test (ev_op (ev_at (K := K) (j := 1) (ev_var (i := 2) rfl) (st_of ha) (ev_is ev_c rfl) ?_) (ev_at (K := K) (j := 0) (ev_var (i := 1) rfl) (st_of (e _ _ hpa)) (ev_is ev_c rfl) rfl) (rv_eq rfl))
      rw [List.getElem?_map, List.getD_eq_getElem?_getD, List.getElem?_eq_getElem (show 1 < w.length by omega)]
      rfl
    · have eg : row.getD i [] = w := by rw [List.getD_eq_getElem?_getD, hi]; rfl
      show EvD _ _ _ (wd ((row.getD i []).drop 1))
      rw [eg]
      exact d_tail (ev_var (i := 2) rfl) ha
    · rw [upTo_filt row [] (fun w => decide (w.getD 1 0 = (u : Int))) (fun w => wd (w.drop 1))] at hus
      rw [hrest, List.map_map]
      exact hus
/-! _law_steps -/
def spLSteps : Sp := fun vs H Q _ => ∃ (lv : V) (rows : List (List Wy)), vs = [lv] ∧ Dq H lv (pd rows) ∧ GW rows ∧ 2 ≤ rows.length ∧ rows.length ≤ 8 ∧ (∀ row ∈ rows, row.length ≤ 6) ∧ ∀ H' l us, Ex H H' → H l = none → H' l = some (.lst us) → DqA (off l (Fr H H')) us (stepsD rows) → Q (.ref l) H'
abbrev sLSteps : Stmt := top 75
abbrev nLSteps : List Str := ["_law_lists_here", "_law_line", "_law_k"]
theorem scLSteps : FnScope nLSteps ["_law_lists_here"] (defScope sLSteps) := ⟨rfl, rfl, rfl, by decide +kernel, rfl, by decide +kernel, by decide +kernel⟩
theorem evln_lines {lv : V} {rows : List (List Wy)} {σ : L2.St} {H : Hp} (h0 : σ[0]? = some (some lv)) (hl : Dq H lv (pd rows)) (hG : GW rows) (h8 : rows.length ≤ 8) (h6 : ∀ row ∈ rows, row.length ≤ 6) : EvLn (tCall spLLines [] E0 (tCons (tVar 0) tNil)) σ H (linesW rows) := fun H1 e Q q =>
  ⟨lv, h0, lv, rows, rfl, hl.mono e, hG, h8, h6, fun H' l us e' nl hl hus => q l us H' e' nl hl hus⟩
theorem ok_lSteps (B : Bl mg) (CL : Cal P w K mg base "_law_lines" ["_law_lists_here"] 1 spLLines) (F : FnP K "_law_steps" sLSteps f fd) : FnOk P w K mg base CX0 2 f fd ["_law_lists_here"] spLSteps := by
  refine F.ok scLSteps (fun vs H Q E h => ?_) (fun cdv A outer s H vs Q E hr h => ?_)
  · obtain ⟨lv, rows, rfl, _⟩ := h
    rfl
  · obtain ⟨lv, rows, rfl, hl, hG, h2, h8, h6, k⟩ := h
    refine ⟨_, pss_one (ps_ret (pe_op op_cat (pe_lc (own := [("_law_line", 1)]) (g := gName 1) (tt := tYes) rfl scLSteps.nd (pi_list (pe_cal CL hr (by rfl) (pa_cons (pv 0) pa_nil))) (blkOk_by (N := nLSteps) (sc := defScope sLSteps) (by decide +kernel))
        (fun _ _ _ _ _ => pg_name (i := 1) scLSteps.nd rfl (Or.inl rfl)) (fun _ _ _ _ _ => pts_nil) (fun _ _ _ _ _ => pe_op (op_catAK (K := K) rfl) (pe_tup (pa_cons pe_str pa_nil)) (pv 1)))
      (pe_lc (own := [("_law_k", 2)]) (g := gName 2) (tt := tYes) rfl scLSteps.nd (pi_range2 (by rfl) B.range (pa_cons pe_int (pa_cons (pe_callB call_len_seq (by rfl) B.len PySem.boot_len (pa_cons (pv 0) pa_nil)) pa_nil))) (blkOk_by (N := nLSteps) (sc := defScope sLSteps) (by decide +kernel))
        (fun _ _ _ _ _ => pg_name (i := 2) scLSteps.nd rfl (Or.inl rfl)) (fun _ _ _ _ _ => pts_nil) (fun _ _ _ _ _ => pe_tup (pa_cons pe_str (pa_cons (pv 2) pa_nil)))))), ?_⟩
    have hll := lnw_len rows
    have hlw : ∃ la lxs, lv = .ref la ∧ H la = some (.tup lxs) ∧ lxs.length = rows.length := by
      have hl' := hl
      unfold pd at hl'
      cases hl' with
      | tup z1 z2 =>
        have := z2.length
        rw [List.length_map] at this
        exact ⟨_, _, rfl, z1, this⟩
    obtain ⟨la, lxs, rfl, l1, lxl⟩ := hlw
    refine ret_any ?_
    have d1 := dl_LW (K := K) (t := tYes) (te := tOp (rCatA K) (tTup (tCons (tC (.str "tell")) tNil)) (tVar 1)) (j := 1) (vs := [1]) (σ := start nLSteps [V.ref la]) (row := linesW rows) (fun i => true) (fun i => tellD ((linesW rows).getD i [])) (evln_lines rfl hl hG h8 h6) (by omega) (fun x => rfl) (fun i a w H1 e hi ha => et_yes) (fun i a w H1 e hi ha _ => by
      have eg : (linesW rows).getD i [] = w := by rw [List.getD_eq_getElem?_getD, hi]; rfl
      show EvD _ _ _ (tellD ((linesW rows).getD i []))
      rw [eg]
      obtain ⟨u, v, rfl, _⟩ := ln_shape hG h8 (List.mem_of_getElem? hi)
      exact d_tell (ev_var (i := 1) rfl) ha (by simp) (by simp))
    rw [upTo_map .none (linesW rows) [] tellD] at d1
    have d2 := dl_R2 (t := tYes) (te := tTup (tCons (tC (.str "choose")) (tCons (tVar 2) tNil))) (ta := tCons (tC (.int 1)) (tCons (tCB (rLenS K) (tCons (tVar 0) tNil)) tNil)) (j := 2) (vs := [2]) (σ := start nLSteps [V.ref la]) (H := H) (lo := 1) (n := (rows.length : Int)) (fun _ => true) (fun i => .tuple [.str "choose", .int ((i + 1 : Nat) : Int)]) (ea_cons ev_c (ea_cons (by rw [← lxl]; exact ev_lenT (K := K) (ev_var (i := 0) rfl) (st_of l1)) ea_nil)) (by omega) (fun x => rfl) (fun i H7 e7 hi => et_yes) (fun i H7 e7 hi _ => by
      rw [show (1 : Int) + (i : Int) = ((i + 1 : Nat) : Int) by omega]
      exact d_tup (d_cons (d_str _) (d_cons (d_ev (ev_var (i := 2) rfl) rfl fun H _ => .int _) d_nil)) (by simp))
    rw [upTo_range, show ((rows.length : Int) - 1).toNat = rows.length - 1 by omega] at d2
    exact d_cat d1 d2 (by rw [List.length_map, List.length_map, List.length_range]; omega) H (Ex.refl _) _ fun p us H2 np e2 hp hus => k H2 p us e2 np hp hus
/-! _law_begin -/
def spLBegin : Sp := fun vs H Q _ => ∃ (lv : V) (rows : List (List Wy)), vs = [lv] ∧ Dq H lv (pd rows) ∧ GW rows ∧ 2 ≤ rows.length ∧ rows.length ≤ 8 ∧ (∀ row ∈ rows, row.length ≤ 6) ∧ ∀ H' u, Ex H H' → Dq H' u (standD (begT rows) (begK rows)) → Q u H'
abbrev sLBegin : Stmt := top 76
theorem scLBegin : FnScope ["_law_lists_here"] ["_law_lists_here"] (defScope sLBegin) := ⟨rfl, rfl, rfl, by decide +kernel, rfl, by decide +kernel, by decide +kernel⟩
theorem dqa_em {H : Hp} {e : Addr} (h : H e = some (.tup [])) : ∀ n, DqA H (List.replicate n (.ref e)) ((List.replicate n ([] : Wy)).map wd)
  | 0 => .nil
  | n + 1 => .cons (wd_of (w := []) h) (dqa_em h n)
theorem ok_lBegin (B : Bl mg) (CL : Cal P w K mg base "_law_lines" ["_law_lists_here"] 1 spLLines) (F : FnP K "_law_begin" sLBegin f fd) : FnOk P w K mg base CX0 2 f fd ["_law_lists_here"] spLBegin := by
  refine F.ok scLBegin (fun vs H Q E h => ?_) (fun cdv A outer s H vs Q E hr h => ?_)
  · obtain ⟨lv, rows, rfl, _⟩ := h
    rfl
  · obtain ⟨lv, rows, rfl, hl, hG, h2, h8, h6, k⟩ := h
    refine ⟨_, pss_one (ps_ret (pe_tup (pa_cons (pe_op op_catA (pe_tup (pa_cons (pe_tup (pa_cons pe_int pa_nil)) pa_nil)) (pe_op (op_repV (K := K) rfl) (pe_tup (pa_cons (pe_tup pa_nil) pa_nil)) (pe_op op_sub (pe_callB call_len_seq (by rfl) B.len PySem.boot_len (pa_cons (pv 0) pa_nil)) pe_int)))
      (pa_cons (pe_op (op_repV (K := K) rfl) (pe_tup (pa_cons (pe_tup pa_nil) pa_nil)) (pe_callB call_len_seq (by rfl) B.len PySem.boot_len (pa_cons (pe_cal CL hr (by rfl) (pa_cons (pv 0) pa_nil)) pa_nil))) pa_nil)))), ?_⟩
    have hll := lnw_len rows
    have hlw : ∃ la lxs, lv = .ref la ∧ H la = some (.tup lxs) ∧ lxs.length = rows.length := by
      have hl' := hl
      unfold pd at hl'
      cases hl' with
      | tup z1 z2 =>
        have := z2.length
        rw [List.length_map] at this
        exact ⟨_, _, rfl, z1, this⟩
    obtain ⟨la, lxs, rfl, l1, lxl⟩ := hlw
    refine ⟨by show 1 ≤ sizeLine; decide, fun z hz => ⟨by show 1 ≤ sizeLine; decide, fun t1 ht1 => ?_⟩⟩
    have e0 := Ex.new (o := .tup [V.int 0]) hz
    have e1 := Ex.new (o := .tup [V.ref z]) ht1
    have hz1 := e1 _ _ (show (upd H z (.tup [.int 0])) z = some (.tup [.int 0]) from upd_same)
    have h1 : (upd (upd H z (.tup [.int 0])) t1 (.tup [V.ref z])) t1 = some (.tup [V.ref z]) := upd_same
    have e01 := e0.trans e1
    generalize upd (upd H z (.tup [.int 0])) t1 (.tup [V.ref z]) = H1 at *
    refine t_emRep (K := K) (n := rows.length - 1) (fun H2 e2 => ?_) (by omega) fun t e H2 e2 he ht => ?_
    · have hl2 := (e01.trans e2) _ _ l1
      exact ev_is (ev_op (ev_lenT (K := K) (ev_var (i := 0) rfl) (st_of hl2)) ev_c rv_I0) (by rw [lxl, show ((rows.length : Int) - 1) = ((rows.length - 1 : Nat) : Int) by omega])
    refine ⟨t1, t, [.ref z], List.replicate (rows.length - 1) (.ref e), rfl, rfl, st_of (e2 _ _ h1), st_of ht, by rw [List.length_replicate, sizeLine_eq]; show 1 + _ ≤ _; omega, (fun z => by cases z), fun _ z => ?_, fun _ _ b hb => ?_⟩
    · exfalso
      have := congrArg List.length z
      rw [List.length_replicate] at this
      simp at this
      omega
    have e3 := Ex.new (o := .tup ([V.ref z] ++ List.replicate (rows.length - 1) (.ref e))) hb
    have hb3 : (upd H2 b (.tup ([V.ref z] ++ List.replicate (rows.length - 1) (.ref e)))) b = some (.tup ([V.ref z] ++ List.replicate (rows.length - 1) (.ref e))) := upd_same
    have he3 := e3 _ _ he
    generalize upd H2 b (.tup ([V.ref z] ++ List.replicate (rows.length - 1) (.ref e))) = H3 at *
    have e03 := (e01.trans e2).trans e3
    refine t_emRep (K := K) (n := (linesW rows).length) (fun H4 e4 => ?_) (by omega) fun t' e' H4 e4 he' ht' => ⟨by show 2 ≤ sizeLine; decide, fun T2 hT2 => ?_⟩
    · exact fun H5 e5 Q5 q5 => evln_lines (σ := start ["_law_lists_here"] [V.ref la]) rfl (hl.mono (e03.trans e4)) hG h8 h6 H5 e5 _ fun l us H6 e6 nl hl6 hus6 => ⟨l, us, rfl, .inl (sq_of hl6), by
        have := hus6.length
        rw [List.length_map] at this
        rw [this]
        exact q5 H6 e6⟩
    have e5 := Ex.new (o := .tup [V.ref b, .ref t']) hT2
    refine k _ _ ((e03.trans e4).trans e5) (.tup upd_same (.cons (.tup ((e4.trans e5) _ _ hb3) ?_) (.cons (.tup (e5 _ _ ht') (dqa_em (e5 _ _ he') _)) .nil)))
    exact .cons (wd_of (w := [0]) (((e2.trans e3).trans (e4.trans e5)) _ _ hz1)) (dqa_em ((e4.trans e5) _ _ he3) _)
end
end Wk

set_option Elab.async false
set_option linter.all false
set_option maxRecDepth 100000
set_option maxHeartbeats 1000000
namespace Wk
open PySem PySem.Spec PyProof.Rows L2 Evl
section
variable {P : Program} {w : World} {K : PySem.W.Frag} {mg : Str → Option Value} {base : Heap} {f : Addr} {fd : FuncData} {CW : Addr}
/-! _law_is_stand -/
def WS (rows : List (List Wy)) (x : Wy) : Prop := x.length ≤ 8 ∧ ∀ i ∈ x, 0 ≤ i ∧ i < (rows.length : Int)
theorem WyOk.ws {rows : List (List Wy)} {r : Nat} {x : Wy} (h : WyOk rows.length r x) : WS rows x := ⟨h.l8, h.rg⟩
theorem ws_nil (rows : List (List Wy)) : WS rows [] := ⟨by simp, fun i h => by cases h⟩
theorem restWS {rows : List (List Wy)} {p : Wy} (hG : GW rows) {x : Wy} (h : x ∈ restsW rows p) : WS rows x := by
  unfold restsW at h
  obtain ⟨w, hw, rfl⟩ := List.mem_map.mp h
  obtain ⟨hw, _⟩ := List.mem_filter.mp hw
  rw [List.getD_eq_getElem?_getD] at hw
  cases hr : rows[(p.getD 1 0).toNat]? with
  | none => rw [hr] at hw; cases hw
  | some row =>
    rw [hr] at hw
    have ok := hG.ok _ row hr w hw
    have := ok.l8
    exact ⟨by rw [List.length_drop]; omega, fun i hi => ok.rg i (List.mem_of_mem_drop hi)⟩
theorem restLen {rows : List (List Wy)} {p : Wy} (hG : GW rows) {x : Wy} (h : x ∈ restsW rows p) : x.length ≤ 8 := by
  unfold restsW at h
  obtain ⟨w, hw, rfl⟩ := List.mem_map.mp h
  obtain ⟨hw, _⟩ := List.mem_filter.mp hw
  rw [List.getD_eq_getElem?_getD] at hw
  cases hr : rows[(p.getD 1 0).toNat]? with
  | none => rw [hr] at hw; cases hw
  | some row =>
    rw [hr] at hw
    have := (hG.ok _ row hr w hw).l8
    rw [List.length_drop]
    omega
end
end Wk

set_option Elab.async false
set_option linter.all false
set_option maxRecDepth 100000
set_option maxHeartbeats 1000000
namespace Wk
open PySem PySem.Spec PyProof.Rows L2 Evl
/-! moves as mathematics -/
abbrev Stp := Wy ⊕ Nat
def stepD : Stp → PyData
  | .inl p => tellD p
  | .inr r => .tuple [.str "choose", .int (r : Int)]
def StpOk (rows : List (List Wy)) : Stp → Prop
  | .inl p => p ∈ linesW rows
  | .inr r => 1 ≤ r ∧ r < rows.length
def hrB (rows : List (List Wy)) (ks : List Wy) (r : Nat) (w : Wy) : Bool := decide (w.length = 2) || decide (ks.getD ((linesW rows).idxOf [w.getD 1 0, (r : Int)]) [] = w.drop 1)
def chooseW (rows : List (List Wy)) (ks : List Wy) (r : Nat) : Wy := ((rows.getD r []).find? (hrB rows ks r)).getD []
def tellW (rows : List (List Wy)) (ts : List Wy) (p : Wy) : Wy := if (p.getD 1 0 :: ts.getD (p.getD 0 0).toNat []) ∈ rows.getD (p.getD 1 0).toNat [] then ts.getD (p.getD 0 0).toNat [] else []
def mvW (rows : List (List Wy)) (ts ks : List Wy) : Stp → List Wy × List Wy
  | .inl p => (ts, ks.set ((linesW rows).idxOf p) (tellW rows ts p))
  | .inr r => (ts.set r (chooseW rows ks r), ks)
structure ShS (rows : List (List Wy)) (ts ks : List Wy) : Prop where
  tl : ts.length = rows.length
  kl : ks.length = (linesW rows).length
  t8 : ∀ x ∈ ts, WS rows x
  k8 : ∀ x ∈ ks, WS rows x
theorem idxOf_ne : ∀ {ls : List Wy} {p w : Wy} {m : Nat}, m < ls.idxOf p → ls[m]? = some w → w ≠ p
  | [], p, w, m, h, e => by cases e
  | x :: ls, p, w, m, h, e => by
    rw [List.idxOf_cons] at h
    by_cases c : x == p
    · rw [c] at h
      simp at h
    · have c' : (x == p) = false := by simpa using c
      rw [c'] at h
      cases m with
      | zero =>
        simp at e
        subst e
        intro z
        rw [z] at c
        simp at c
      | succ m => exact idxOf_ne (ls := ls) (by simpa using h) (by simpa using e)
theorem wy_sec {n r : Nat} {w : Wy} (h : WyOk n r w) (hl : w.length ≠ 2) : w.getD 1 0 ≠ 0 := by
  have l2 := h.l2
  have h1 : w.getD 1 0 = w[1] := by rw [List.getD_eq_getElem?_getD, List.getElem?_eq_getElem (show 1 < w.length by omega)]; rfl
  intro z
  rw [h1] at z
  have hlast := h.lt
  rw [List.getLast?_eq_getElem?, List.getElem?_eq_getElem (show w.length - 1 < w.length by omega)] at hlast
  injection hlast with hlast
  have := (List.getElem_inj h.nd).mp (z.trans hlast.symm)
  omega
theorem mem_setW {ts : List Wy} {i : Nat} {x : Wy} {y : Wy} (h : y ∈ ts.set i x) : y ∈ ts ∨ y = x := List.mem_or_eq_of_mem_set h
theorem ShS.mv {rows : List (List Wy)} {ts ks : List Wy} (hG : GW rows) (h : ShS rows ts ks) (s : Stp) : ShS rows (mvW rows ts ks s).1 (mvW rows ts ks s).2 := by
  cases s with
  | inl p =>
    refine ⟨h.tl, by show (ks.set _ _).length = _; rw [List.length_set]; exact h.kl, h.t8, fun x hx => ?_⟩
    rcases mem_setW hx with z | z
    · exact h.k8 x z
    · rw [z]
      unfold tellW
      split
      · rw [List.getD_eq_getElem?_getD]
        cases hq : ts[(p.getD 0 0).toNat]? with
        | none => exact ws_nil rows
        | some y => exact h.t8 y (List.mem_of_getElem? hq)
      · exact ws_nil rows
  | inr r =>
    refine ⟨by show (ts.set _ _).length = _; rw [List.length_set]; exact h.tl, h.kl, fun x hx => ?_, h.k8⟩
    rcases mem_setW hx with z | z
    · exact h.t8 x z
    · rw [z]
      unfold chooseW
      cases hq : (rows.getD r []).find? (hrB rows ks r) with
      | none => exact ws_nil rows
      | some w =>
        have hm := List.mem_of_find?_eq_some hq
        rw [List.getD_eq_getElem?_getD] at hm
        cases hr : rows[r]? with
        | none => rw [hr] at hm; cases hm
        | some row =>
          rw [hr] at hm
          exact (hG.ok r row hr w hm).ws
section
variable {K : PySem.W.Frag} {σ : L2.St} {H : Hp}
/-- lines.index((x, y)) -/
theorem ev_idxW {tl ty : TE} {L : Addr} {lls : List V} {ls : List Wy} {p : Wy} (hl : Ev tl σ H (.ref L)) (hL : H L = some (.lst lls)) (hd : DqA H lls (ls.map wd)) (hp : EvU ty σ H (p.map V.int)) (hm : p ∈ ls) : Ev (tBM K "list" (rIndexD K) tl (tCons ty tNil)) σ H (.int ((ls.idxOf p : Nat) : Int)) := fun H1 e Q q =>
  hl H1 e _ fun H2 e2 => ⟨.inl ⟨rfl, lls, sq_of ((e.trans e2) _ _ hL)⟩, hp H2 (e.trans e2) _ fun b H3 nb e3 hb => by
    have e03 := (e.trans e2).trans e3
    have hlt := List.idxOf_lt_length_iff.mpr hm
    refine ⟨L, .ref b, wd p, ls.map wd, ls.idxOf p, wd p, rfl, rfl, .lst (sq_of (e03 _ _ hL)) (DqA.dp (lay_wds ls) (hd.mono e03)), dp_of_wd (st_of hb), shaped_wds _, shaped_wd _, ?_, by rw [eqv_wd]; simp, fun m z' hmi hz => ?_, q H3 (e2.trans e3)⟩
    · rw [List.getElem?_map, List.getElem?_eq_getElem hlt, List.getElem_idxOf hlt]
      rfl
    · rw [List.getElem?_map] at hz
      cases hq : ls[m]? with
      | none => rw [hq] at hz; cases hz
      | some w =>
        rw [hq] at hz
        have e : z' = wd w := (Option.some.inj hz).symm
        subst e
        rw [eqv_wd]
        exact decide_eq_false (idxOf_ne hmi hq)⟩
/-- (v,) + t in row -/
theorem ev_inCat {tv tt tr : TE} {v : Int} {x : V} {w : Wy} {row : List Wy} {rv : V} (hv : Ev tv σ H (.int v)) (ht : Ev tt σ H x) (hx : Dq H x (wd w)) (hl : w.length ≤ 1000) (hr : Ev tr σ H rv) (hrow : Dq H rv (rd row)) :
    Ev (tOp (rInU K) (tOp (rCatA K) (tTup (tCons tv tNil)) tt) tr) σ H (.bl (decide ((v :: w) ∈ row))) := fun H1 e Q q => by
  refine hv H1 e _ fun H2 e2 => ⟨by show 1 ≤ sizeLine; decide, fun t1 ht1 => ?_⟩
  have e3 := Ex.new (o := .tup [V.int v]) ht1
  have h1 : (upd H2 t1 (.tup [V.int v])) t1 = some (.tup [V.int v]) := upd_same
  have e03 := (e.trans e2).trans e3
  generalize upd H2 t1 (.tup [V.int v]) = H3 at *
  refine ht H3 e03 _ fun H4 e4 => ?_
  obtain ⟨a, rfl, ha⟩ := wd_ref (hx.mono (e03.trans e4))
  have fin : ∀ (H5 : Hp) (b : Addr), Ex H4 H5 → H5 b = some (.tup ((v :: w).map V.int)) → tr σ H5 fun y H6 => rInU K (.ref b) y H6 Q := fun H5 b e5 hb => by
    have e05 := (e03.trans e4).trans e5
    refine hr H5 e05 _ fun H6 e6 => ?_
    refine ⟨wd (v :: w), row.map wd, dp_of_wd (st_of (e6 _ _ hb)), ?_, shaped_wd _, lay_wds row, ?_⟩
    · exact Dq.dp (by simp only [PyData.canLay0]; exact lay_wds row) (hrow.mono (e05.trans e6))
    · rw [any_wd]
      exact q H6 (((e2.trans e3).trans e4).trans (e5.trans e6))
  refine ⟨t1, a, [.int v], w.map V.int, rfl, rfl, st_of (e4 _ _ h1), st_of ha, by rw [List.length_map, sizeLine_eq]; show 1 + w.length ≤ _; omega, (fun z => by cases z), fun _ z => ?_, fun _ _ r hr => ?_⟩
  · have : w = [] := List.map_eq_nil_iff.mp z
    subst this
    exact fin H4 t1 (Ex.refl _) (e4 _ _ h1)
  · exact fin _ r (Ex.new hr) upd_same
/-- (tuple(takes), tuple(kept)) -/
theorem t_pairTup {i j : Nat} {A B : Addr} {us vs : List V} {ts ks : List Wy} {Q : VK} (hi : σ[i]? = some (some (.ref A))) (hj : σ[j]? = some (some (.ref B))) (hA : H A = some (.lst us)) (hB : H B = some (.lst vs)) (du : DqA H us (ts.map wd)) (dv : DqA H vs (ks.map wd)) (k : ∀ H' u, Ex H H' → Dq H' u (standD ts ks) → Q u H') :
    tTup (tCons (tCB (fun xs H Q => ∃ p ys, xs = [.ref p] ∧ ((SqL K H p ys ∧ ∀ l, H l = none → Q (.ref l) (upd H l (.tup ys))) ∨ (SqT K H p ys ∧ Q (.ref p) H))) (tCons (tVar i) tNil)) (tCons (tCB (fun xs H Q => ∃ p ys, xs = [.ref p] ∧ ((SqL K H p ys ∧ ∀ l, H l = none → Q (.ref l) (upd H l (.tup ys))) ∨ (SqT K H p ys ∧ Q (.ref p) H))) (tCons (tVar j) tNil)) tNil)) σ H Q := by
  refine ⟨.ref A, hi, A, us, rfl, .inl ⟨sq_of hA, fun t1 ht1 => ?_⟩⟩
  have e1 := Ex.new (o := .tup us) ht1
  refine ⟨.ref B, hj, B, vs, rfl, .inl ⟨sq_of (e1 _ _ hB), fun t2 ht2 => ⟨by show 2 ≤ sizeLine; decide, fun T hT => ?_⟩⟩⟩
  have e2 := Ex.new (o := .tup vs) ht2
  have e3 := Ex.new (o := .tup [V.ref t1, .ref t2]) hT
  exact k _ _ ((e1.trans e2).trans e3) (.tup upd_same (.cons (.tup ((e2.trans e3) _ _ upd_same) (du.mono ((e1.trans e2).trans e3))) (.cons (.tup (e3 _ _ upd_same) (dv.mono ((e1.trans e2).trans e3))) .nil)))
end
end Wk

set_option Elab.async false
set_option linter.all false
set_option maxRecDepth 100000
set_option maxHeartbeats 1000000
namespace Wk
open PySem PySem.Spec PyProof.Rows L2 Evl
theorem dqa_set {H : Hp} {v : V} {x : Wy} (hv : Dq H v (wd x)) : ∀ {us : List V} {ws : List Wy} (i : Nat), DqA H us (ws.map wd) → DqA H (us.set i v) ((ws.set i x).map wd)
  | [], [], _, _ => .nil
  | [], _ :: _, _, h => by cases h
  | _ :: _, [], _, h => by cases h
  | u :: us, w :: ws, 0, .cons _ t => .cons hv t
  | u :: us, w :: ws, i + 1, .cons h t => .cons h (dqa_set hv i t)
theorem el_listT {K : PySem.W.Frag} {σ : L2.St} {H : Hp} {te : TE} {a : Addr} {xs : List V} (h : Ev te σ H (.ref a)) (ha : H a = some (.tup xs)) : EvL (tCB (rListS K) (tCons te tNil)) σ H xs := fun H1 e Q q =>
  h H1 e _ fun H2 e2 => ⟨a, xs, rfl, .inr (st_of ((e.trans e2) _ _ ha)), fun l hl => q l _ (fresh_back e2 hl) (e2.trans (Ex.new hl)) upd_same⟩
theorem q_setLU {te ta tb : TE} {tz : TS} {D : Ends} {σ : L2.St} {H : Hp} {l : Addr} {xs ys : List V} {j : Nat} (hl : H l = some (.lst xs)) (h : EvU te σ H ys) (ho : Ev ta σ H (.ref l)) (hi : Ev tb σ H (.int (j : Int))) (hj : j < xs.length) (k : ∀ p H1, Ex H H1 → H1 p = some (.tup ys) → tz D σ (upd H1 l (.lst (xs.set j (.ref p))))) : tSeq (tAsg te (gSub ta tb rSetL)) tz D σ H :=
  h H (Ex.refl H) _ fun p H1 np e1 hp => ho H1 e1 _ fun H2 e2 => hi H2 (e1.trans e2) _ fun H3 e3 => ⟨l, xs, (j : Int), j, rfl, rfl, ((e1.trans e2).trans e3) l _ hl, ixN_nat hj, k p H3 ((e1.trans e2).trans e3) ((e2.trans e3) _ _ hp)⟩
/-- the first of a row that is heard, or () -/
def fstW (f : Wy → Bool) (row : List Wy) : Wy := (row.find? f).getD []
theorem fst_step {f : Wy → Bool} {row : List Wy} {i : Nat} {w : Wy} (h : row[i]? = some w) (hne : ∀ x ∈ row, x ≠ []) : fstW f (row.take (i + 1)) = if (f w && decide (fstW f (row.take i) = [])) = true then w else fstW f (row.take i) := by
  unfold fstW
  rw [take_snoc h, List.find?_append]
  cases hq : (row.take i).find? f with
  | some x =>
    have hx := hne x (List.mem_of_mem_take (List.mem_of_find?_eq_some hq))
    show x = if (f w && decide (x = [])) = true then w else x
    rw [decide_eq_false hx, Bool.and_false]
    rfl
  | none =>
    show ([w].find? f).getD [] = if (f w && decide (([] : Wy) = [])) = true then w else []
    rw [decide_eq_true rfl, Bool.and_true]
    cases hf : f w with
    | true => simp [hf]
    | false => simp [hf]
section
variable {P : Program} {w : World} {K : PySem.W.Frag} {mg : Str → Option Value} {base : Heap} {f : Addr} {fd : FuncData}
/-! _law_moved -/
def spMoved : Sp := fun vs H Q _ => ∃ (lv sv stv : V) (L : Addr) (lls : List V) (rows : List (List Wy)) (ts ks : List Wy) (s : Stp), vs = [lv, .ref L, sv, stv] ∧ Dq H lv (pd rows) ∧ GW rows ∧ rows.length ≤ 8 ∧ (∀ row ∈ rows, row.length ≤ 6) ∧ H L = some (.lst lls) ∧ DqA H lls ((linesW rows).map wd) ∧ Dq H sv (standD ts ks) ∧ ShS rows ts ks ∧ Dq H stv (stepD s) ∧ StpOk rows s ∧
  ∀ H' u, Ex H H' → Dq H' u (standD (mvW rows ts ks s).1 (mvW rows ts ks s).2) → Q u H'
abbrev sMoved : Stmt := top 77
abbrev nMoved : List Str := ["_law_lists_here", "_law_lines_here", "_law_stand", "_law_step", "_law_takes", "_law_kept", "_law_place", "_law_router", "_law_way", "_law_heard"]
theorem scMoved : FnScope nMoved ["_law_lists_here", "_law_lines_here", "_law_stand", "_law_step"] (defScope sMoved) := ⟨rfl, rfl, rfl, by decide +kernel, rfl, by decide +kernel, by decide +kernel⟩
theorem ok_moved (B : Bl mg) (F : FnP K "_law_moved" sMoved f fd) : FnOk P w K mg base CX0 1 f fd ["_law_lists_here", "_law_lines_here", "_law_stand", "_law_step"] spMoved := by
  refine F.ok scMoved (fun vs H Q E h => ?_) (fun cdv A outer s H vs Q E hr h => ?_)
  · obtain ⟨lv, sv, stv, L, lls, rows, ts, ks, s, rfl, _⟩ := h
    rfl
  · obtain ⟨lv, sv, stv, L, lls, rows, ts, ks, st, rfl, hl, hG, h8, h6, hL, hlls, hsv, hsh, hst, hok, k⟩ := h
    have hu : (A.deeper (envOfC "_law_moved" (defScope sMoved) s.heap.objs.size f cdv)).units + 66 < cLine := by have := hr.un; omega
    have hu5 : (A.deeper (envOfC "_law_moved" (defScope sMoved) s.heap.objs.size f cdv)).units + 65 < cLine := by omega
    have hu4 : (A.deeper (envOfC "_law_moved" (defScope sMoved) s.heap.objs.size f cdv)).units + 64 < cLine := by omega
    refine ⟨_, pss_cons (ps_set (i := 4) scMoved.nd rfl (Or.inl rfl) (pe_callTy (call_listK2 (K := K) rfl) (by rfl) B.list PyProof.Rows.boot_list (pa_cons (pe_ix ix_tup (pv 2) pe_int (fun _ _ => rfl)) pa_nil)))
      (pss_cons (ps_set (i := 5) scMoved.nd rfl (Or.inl rfl) (pe_callTy (call_listK2 (K := K) rfl) (by rfl) B.list PyProof.Rows.boot_list (pa_cons (pe_ix ix_tup (pv 2) pe_int (fun _ _ => rfl)) pa_nil)))
      (pss_cons (ps_if (pt_cmpR op_eq (pe_ix ix_tup (pv 3) pe_int (fun _ _ => rfl)) pe_str (nomark _))
        (pss_cons (ps_set (i := 6) scMoved.nd rfl (Or.inl rfl) (pe_bm PySem.F.plainAttrs_list PySem.F.slot_list_index PySem.F.type_list_index (mt_indexD hu5) (pv 1) (pa_cons (pe_tup (pa_cons (pe_ix ix_tup (pv 3) pe_int (fun _ _ => rfl)) (pa_cons (pe_ix ix_tup (pv 3) pe_int (fun _ _ => rfl)) pa_nil))) pa_nil)))
        (pss_cons (ps_asg (pe_tup pa_nil) (pg_sub (pv 5) (pv 6) set_list))
        (pss_cons (ps_if (pt_cmpR (op_inU hu) (pe_op op_catA (pe_tup (pa_cons (pe_ix ix_tup (pv 3) pe_int (fun _ _ => rfl)) pa_nil)) (pe_ix (ix_listK (K := K) rfl) (pv 4) (pe_ix ix_tup (pv 3) pe_int (fun _ _ => rfl)) (fun _ _ => rfl))) (pe_ix ix_tup (pv 0) (pe_ix ix_tup (pv 3) pe_int (fun _ _ => rfl)) (fun _ _ => rfl)) rfl)
          (pss_one (ps_asg (pe_ix (ix_listK (K := K) rfl) (pv 4) (pe_ix ix_tup (pv 3) pe_int (fun _ _ => rfl)) (fun _ _ => rfl)) (pg_sub (pv 5) (pv 6) set_list))) pss_nil)
        (pss_one (ps_ret (pe_tup (pa_cons (pe_callTy (call_tupleK (K := K) rfl) (by rfl) B.tuple PyProof.Rows.boot_tuple (pa_cons (pv 4) pa_nil)) (pa_cons (pe_callTy (call_tupleK (K := K) rfl) (by rfl) B.tuple PyProof.Rows.boot_tuple (pa_cons (pv 5) pa_nil)) pa_nil)))))))) pss_nil)
      (pss_cons (ps_set (i := 7) scMoved.nd rfl (Or.inl rfl) (pe_ix ix_tup (pv 3) pe_int (fun _ _ => rfl)))
      (pss_cons (ps_asg (pe_tup pa_nil) (pg_sub (pv 4) (pv 7) set_list))
      (pss_cons (ps_for (passes_of rfl) rfl (pi_tup (pe_ix ix_tup (pv 0) (pv 7) (fun _ _ => rfl))) (pg_name (i := 8) scMoved.nd rfl (Or.inl rfl))
        (pss_cons (ps_set (i := 9) scMoved.nd rfl (Or.inl rfl) (pe_or (pe_cmpR op_eq (pe_callB call_len_seq (by rfl) B.len PySem.boot_len (pa_cons (pv 8) pa_nil)) pe_int (nomark _))
            (pe_one (pe_cmpR (op_eqD hu4) (pe_ix (ix_listK (K := K) rfl) (pv 5) (pe_bm PySem.F.plainAttrs_list PySem.F.slot_list_index PySem.F.type_list_index (mt_indexD hu5) (pv 1) (pa_cons (pe_tup (pa_cons (pe_ix ix_tup (pv 8) pe_int (fun _ _ => rfl)) (pa_cons (pv 7) pa_nil))) pa_nil)) (fun _ _ => rfl)) (pe_slice sl_tupA (pv 8) (po_some pe_int) po_none) (nomark _)))))
        (pss_one (ps_if (PW.pt (pw_and (pt_val (pv 9)) (pw_and1 (pt_cmpR (op_eqD hu4) (pe_ix (ix_listK (K := K) rfl) (pv 4) (pv 7) (fun _ _ => rfl)) (pe_tup pa_nil) (nomark _)))))
          (pss_one (ps_asg (pv 8) (pg_sub (pv 4) (pv 7) set_list))) pss_nil))))
      (pss_one (ps_ret (pe_tup (pa_cons (pe_callTy (call_tupleK (K := K) rfl) (by rfl) B.tuple PyProof.Rows.boot_tuple (pa_cons (pv 4) pa_nil)) (pa_cons (pe_callTy (call_tupleK (K := K) rfl) (by rfl) B.tuple PyProof.Rows.boot_tuple (pa_cons (pv 5) pa_nil)) pa_nil)))))))))), ?_⟩
    have hlw : ∃ la lxs, lv = .ref la ∧ H la = some (.tup lxs) ∧ DqA H lxs (rows.map rd) := by
      unfold pd at hl
      cases hl with
      | tup z1 z2 => exact ⟨_, _, rfl, z1, z2⟩
    obtain ⟨la, lxs, rfl, l1, l2⟩ := hlw
    unfold standD at hsv
    cases hsv with
    | tup s1 s2 =>
    rename_i sa svs
    cases s2 with
    | cons q1 q2 =>
    cases q2 with
    | cons q3 q4 =>
    cases q4
    cases q1 with
    | tup a1 a2 =>
    cases q3 with
    | tup b1 b2 =>
    rename_i ta us0 tb vs0
    have hll := lnw_len rows
    have hkl := hsh.kl
    have htl := hsh.tl
    have hus0 := a2.length
    rw [List.length_map, hsh.tl] at hus0
    have hvs0 := b2.length
    rw [List.length_map, hsh.kl] at hvs0
    refine q_asgL (el_listT (K := K) (ev_at (K := K) (j := 0) (ev_var (i := 2) rfl) (st_of s1) (ev_is ev_c rfl) rfl) a1) fun A H1 gA e1 hA => ?_
    refine q_asgL (el_listT (K := K) (ev_at (K := K) (j := 1) (ev_var (i := 2) rfl) (st_of (e1 _ _ s1)) (ev_is ev_c rfl) rfl) (e1 _ _ b1)) fun Bk H2 gB e2 hB => ?_
    have e02 := e1.trans e2
    have hA2 := e2 _ _ hA
    have gB0 : H Bk = none := fresh_back e1 gB
    have nAB : A ≠ Bk := fun z => by rw [← z, hA] at gB; cases gB
    have hus2 := a2.mono e02
    have hvs2 := b2.mono e02
    change tSeq _ _ _ [some (.ref la), some (.ref L), some (.ref sa), some stv, some (.ref A), some (.ref Bk), none, none, none, none] H2
    cases st with
    | inl p =>
      obtain ⟨u, v, rfl, hu1, hun, hv1, hvn⟩ := ln_shape hG h8 hok
      cases hst with
      | tup t1 t2 =>
      rename_i sta stvs
      have estv : stvs = [.str "tell", .int (u : Int), .int (v : Int)] := by
        have t2' : DqA H stvs [.str "tell", .int (u : Int), .int (v : Int)] := t2
        cases t2' with
        | cons z1 z2 =>
        cases z1
        cases z2 with
        | cons z3 z4 =>
        cases z3
        cases z4 with
        | cons z5 z6 =>
        cases z5
        cases z6
        rfl
      subst estv
      have v3 : ∀ {H3 : Hp} {o6 o7 o8 o9 : Option V}, Ev (tVar 3) [some (.ref la), some (.ref L), some (.ref sa), some (.ref sta), some (.ref A), some (.ref Bk), o6, o7, o8, o9] H3 (.ref sta) := ev_var rfl
      have st1 : ∀ {H3 : Hp} {o6 o7 o8 o9 : Option V}, Ex H H3 → Ev (tOp (rIxT K) (tVar 3) (tC (.int 1))) [some (.ref la), some (.ref L), some (.ref sa), some (.ref sta), some (.ref A), some (.ref Bk), o6, o7, o8, o9] H3 (.int (u : Int)) := fun e => ev_at (K := K) (j := 1) v3 (st_of (e _ _ t1)) (ev_is ev_c rfl) rfl
      have st2 : ∀ {H3 : Hp} {o6 o7 o8 o9 : Option V}, Ex H H3 → Ev (tOp (rIxT K) (tVar 3) (tC (.int 2))) [some (.ref la), some (.ref L), some (.ref sa), some (.ref sta), some (.ref A), some (.ref Bk), o6, o7, o8, o9] H3 (.int (v : Int)) := fun e => ev_at (K := K) (j := 2) v3 (st_of (e _ _ t1)) (ev_is ev_c rfl) rfl
      refine q_when (b := decide (V.str (Str.ofString "tell") = V.str (Str.ofString "tell"))) (et_test (ev_op (ev_at (K := K) (j := 0) v3 (st_of (e02 _ _ t1)) (ev_is ev_c rfl) rfl) ev_c (rv_eq rfl))) (fun hb H3 e3 => ?_) (fun hb => by simp at hb)
      have e03 := e02.trans e3
      have hix : (linesW rows).idxOf [(u : Int), (v : Int)] < ks.length := by rw [hsh.kl]; exact List.idxOf_lt_length_iff.mpr hok
      refine q_asg (ev_idxW (K := K) (p := [(u : Int), (v : Int)]) (ev_var (i := 1) rfl) (e03 _ _ hL) (hlls.mono e03) (eu_tup (ea_cons (st1 e03) (ea_cons (st2 e03) ea_nil)) (by simp)) hok) fun H4 e4 => ?_
      generalize hji : (linesW rows).idxOf [(u : Int), (v : Int)] = ji at *
      have e04 := e03.trans e4
      have e24 := e3.trans e4
      change tSeq _ _ _ [some (.ref la), some (.ref L), some (.ref sa), some (.ref sta), some (.ref A), some (.ref Bk), some (.int (ji : Int)), none, none, none] H4
      refine q_setLU (e24 _ _ hB) (eu_tup ea_nil (by simp)) (ev_var (i := 5) rfl) (ev_var (i := 6) rfl) (by omega) fun pe H5 e5 hpe => ?_
      have hB5 := e5 _ _ (e24 _ _ hB)
      have eM : Ex H (upd H5 Bk (.lst (vs0.set ji (.ref pe)))) := Ex.mut (e04.trans e5) gB0
      have kpM : Kp H5 (upd H5 Bk (.lst (vs0.set ji (.ref pe)))) := Kp.mut hB5
      have hA6 : (upd H5 Bk (.lst (vs0.set ji (.ref pe)))) A = some (.lst us0) := by rw [upd_ne nAB]; exact e5 _ _ (e24 _ _ hA2)
      have hB6 : (upd H5 Bk (.lst (vs0.set ji (.ref pe)))) Bk = some (.lst (vs0.set ji (.ref pe))) := upd_same
      have hus6 := kpM.wds (hus2.mono (e24.trans e5))
      have hvs6 : DqA (upd H5 Bk (.lst (vs0.set ji (.ref pe)))) (vs0.set ji (.ref pe)) ((ks.set ji []).map wd) := dqa_set (kpM.ints (wd_of (w := []) hpe)) ji (kpM.wds (hvs2.mono (e24.trans e5)))
      generalize upd H5 Bk (.lst (vs0.set ji (.ref pe))) = H6 at *
      have hut : u < ts.length := by rw [hsh.tl]; exact hun
      have htu : ts[u]? = some ts[u] := List.getElem?_eq_getElem hut
      have ht8 := (hsh.t8 _ (List.getElem_mem hut)).1
      obtain ⟨xu, hxu, hdu⟩ := hus6.at (i := u) (d := wd ts[u]) (by rw [List.getElem?_map, htu]; rfl)
      have hrw : rows[v]? = some rows[v] := List.getElem?_eq_getElem hvn
      obtain ⟨rv, hrv, hdr⟩ := l2.at (i := v) (d := rd rows[v]) (by rw [List.getElem?_map, hrw]; rfl)
      have etw : tellW rows ts [(u : Int), (v : Int)] = if ((v : Int) :: ts[u]) ∈ rows[v] then ts[u] else [] := by
        unfold tellW
        show (if ((v : Int) :: ts.getD ((u : Int)).toNat []) ∈ rows.getD ((v : Int)).toNat [] then ts.getD ((u : Int)).toNat [] else []) = _
        have g1 : ts.getD u [] = ts[u] := by rw [List.getD_eq_getElem?_getD, htu]; rfl
        have g2 : rows.getD v [] = rows[v] := by rw [List.getD_eq_getElem?_getD, hrw]; rfl
        rw [Int.toNat_natCast, Int.toNat_natCast, g1, g2]
      have emv : mvW rows ts ks (.inl [(u : Int), (v : Int)]) = (ts, ks.set ji (tellW rows ts [(u : Int), (v : Int)])) := by
        show (ts, ks.set ((linesW rows).idxOf [(u : Int), (v : Int)]) _) = _
        rw [hji]
      rw [emv, etw] at k
      generalize ts[u] = tu at *
      generalize rows[v] = row at *
      have takeU : ∀ {H7 : Hp} {o7 o8 o9 : Option V}, Ex H6 H7 → Ev (tOp (rIxL K) (tVar 4) (tOp (rIxT K) (tVar 3) (tC (.int 1)))) [some (.ref la), some (.ref L), some (.ref sa), some (.ref sta), some (.ref A), some (.ref Bk), some (.int (ji : Int)), o7, o8, o9] H7 xu := fun e => ev_op (ev_var (i := 4) rfl) (st1 (eM.trans e)) (rv_ixL (sq_of (e _ _ hA6)) (atI_nat hxu))
      have hjl : ji < (vs0.set ji (.ref pe)).length := by rw [List.length_set]; omega
      refine q_when (b := decide (((v : Int) :: tu) ∈ row)) (et_test (ev_inCat (K := K) (st2 eM) (takeU (Ex.refl _)) hdu (by omega) (ev_at (K := K) (ev_var (i := 0) rfl) (st_of (eM _ _ l1)) (st2 eM) hrv) (hdr.mono eM))) (fun hb H7 e7 => ?_) (fun hb H7 e7 => ?_)
      · refine s_setL (e7 _ _ hB6) (takeU e7) (ev_var (i := 5) rfl) (ev_var (i := 6) rfl) hjl fun H8 e8 => ?_
        have e68 := e7.trans e8
        have kp8 : Kp H8 (upd H8 Bk (.lst ((vs0.set ji (.ref pe)).set ji xu))) := Kp.mut (e68 _ _ hB6)
        refine t_pairTup (i := 4) (j := 5) rfl rfl (show (upd H8 Bk (.lst ((vs0.set ji (.ref pe)).set ji xu))) A = _ by rw [upd_ne nAB]; exact e68 _ _ hA6) upd_same (kp8.wds (hus6.mono e68)) (dqa_set (kp8.ints (hdu.mono e68)) ji (kp8.wds (hvs6.mono e68))) fun H9 uu e9 hd9 => k H9 uu ((Ex.mut (eM.trans e68) gB0).trans e9) ?_
        rw [List.set_set] at hd9
        rw [if_pos (of_decide_eq_true hb)]
        exact hd9
      · refine t_pairTup (i := 4) (j := 5) rfl rfl (e7 _ _ hA6) (e7 _ _ hB6) (hus6.mono e7) (hvs6.mono e7) fun H9 uu e9 hd9 => k H9 uu ((eM.trans e7).trans e9) ?_
        rw [if_neg (of_decide_eq_false hb)]
        exact hd9
    | inr r =>
      obtain ⟨hr1, hrn⟩ := hok
      cases hst with
      | tup t1 t2 =>
      rename_i sta stvs
      have estv : stvs = [.str "choose", .int (r : Int)] := by
        cases t2 with
        | cons z1 z2 =>
        cases z1
        cases z2 with
        | cons z3 z4 =>
        cases z3
        cases z4
        rfl
      subst estv
      have v3 : ∀ {H3 : Hp} {o6 o7 o8 o9 : Option V}, Ev (tVar 3) [some (.ref la), some (.ref L), some (.ref sa), some (.ref sta), some (.ref A), some (.ref Bk), o6, o7, o8, o9] H3 (.ref sta) := ev_var rfl
      refine q_when (b := decide (V.str (Str.ofString "choose") = V.str (Str.ofString "tell"))) (et_test (ev_op (ev_at (K := K) (j := 0) v3 (st_of (e02 _ _ t1)) (ev_is ev_c rfl) rfl) ev_c (rv_eq rfl))) (fun hb => absurd hb (by decide +kernel)) (fun _ H3 e3 => ?_)
      have e03 := e02.trans e3
      refine q_asg (ev_at (K := K) (j := 1) v3 (st_of (e03 _ _ t1)) (ev_is ev_c rfl) rfl) fun H4 e4 => ?_
      have e04 := e03.trans e4
      have e24 := e3.trans e4
      change tSeq _ _ _ [some (.ref la), some (.ref L), some (.ref sa), some (.ref sta), some (.ref A), some (.ref Bk), none, some (.int (r : Int)), none, none] H4
      refine q_setLU (j := r) (e24 _ _ hA2) (eu_tup ea_nil (by simp)) (ev_var (i := 4) rfl) (ev_var (i := 7) rfl) (by omega) fun pe H5 e5 hpe => ?_
      have hA5 := e5 _ _ (e24 _ _ hA2)
      have eM : Ex H (upd H5 A (.lst (us0.set r (.ref pe)))) := Ex.mut (e04.trans e5) gA
      have kpM : Kp H5 (upd H5 A (.lst (us0.set r (.ref pe)))) := Kp.mut hA5
      have hB6 : (upd H5 A (.lst (us0.set r (.ref pe)))) Bk = some (.lst vs0) := by rw [upd_ne (Ne.symm nAB)]; exact e5 _ _ (e24 _ _ hB)
      have hA6 : (upd H5 A (.lst (us0.set r (.ref pe)))) A = some (.lst (us0.set r (.ref pe))) := upd_same
      have hvs6 := kpM.wds (hvs2.mono (e24.trans e5))
      have hus6 : DqA (upd H5 A (.lst (us0.set r (.ref pe)))) (us0.set r (.ref pe)) ((ts.set r []).map wd) := dqa_set (kpM.ints (wd_of (w := []) hpe)) r (kpM.wds (hus2.mono (e24.trans e5)))
      generalize upd H5 A (.lst (us0.set r (.ref pe))) = H6 at *
      have hrw : rows[r]? = some rows[r] := List.getElem?_eq_getElem hrn
      have hwok : ∀ x ∈ rows[r], WyOk rows.length r x := hG.ok r _ hrw
      have hwln : ∀ x ∈ rows[r], x.getD 1 0 ≠ 0 → [x.getD 1 0, (r : Int)] ∈ linesW rows := fun x hx hn => ln_way hG h8 hrw hx hn
      obtain ⟨rv, hrv, hdr⟩ := l2.at (i := r) (d := rd rows[r]) (by rw [List.getElem?_map, hrw]; rfl)
      have ech : chooseW rows ks r = fstW (hrB rows ks r) rows[r] := by
        unfold chooseW fstW
        rw [List.getD_eq_getElem?_getD, hrw]
        rfl
      have emv : mvW rows ts ks (.inr r) = (ts.set r (fstW (hrB rows ks r) rows[r]), ks) := by
        show (ts.set r (chooseW rows ks r), ks) = _
        rw [ech]
      rw [emv] at k
      have hwne : ∀ x ∈ rows[r], x ≠ [] := fun x hx z => by have := (hwok x hx).l2; rw [z] at this; simp at this
      generalize rows[r] = row at *
      have hrow6 := hdr.mono eM
      unfold rd at hrow6
      cases hrow6 with
      | tup w1 w2 =>
      rename_i ra rws
      have rwl := w2.length
      rw [List.length_map] at rwl
      refine q_forT (K := K) (ev_at (K := K) (ev_var (i := 0) rfl) (st_of (eM _ _ l1)) (ev_var (i := 7) rfl) hrv) (st_of w1) (fun i σ' H' => ∃ (us' : List V) (o8 o9 : Option V), σ' = [some (.ref la), some (.ref L), some (.ref sa), some (.ref sta), some (.ref A), some (.ref Bk), none, some (.int (r : Int)), o8, o9] ∧ Ex H H' ∧ H' ra = some (.tup rws) ∧ DqA H' rws (row.map wd) ∧ H' A = some (.lst us') ∧ H' Bk = some (.lst vs0) ∧ DqA H' us' ((ts.set r (fstW (hrB rows ks r) (row.take i))).map wd) ∧ DqA H' vs0 (ks.map wd))
        (fun H7 e7 => ⟨_, _, _, rfl, eM.trans e7, e7 _ _ w1, w2.mono e7, e7 _ _ hA6, e7 _ _ hB6, by rw [List.take_zero]; exact hus6.mono e7, hvs6.mono e7⟩) (fun i σ' H' _ h => by obtain ⟨_, _, _, _, _, h, _⟩ := h; exact st_of h) ?_ ?_
      · rintro i x σ' H7 hx ⟨us', o8, o9, rfl, e07, hra7, hrw7, hA7, hB7, hus7, hvs7⟩
        obtain ⟨wy, hw1, hw2⟩ := hrw7.wds_inv hx
        obtain ⟨wa, rfl, hwa⟩ := wd_ref hw2
        have hwm := List.mem_of_getElem? hw1
        have ok := hwok wy hwm
        have wl2 := ok.l2
        have hul7 := hus7.length
        rw [List.length_map, List.length_set] at hul7
        refine g_name ?_
        change tSeq _ _ _ [some (.ref la), some (.ref L), some (.ref sa), some (.ref sta), some (.ref A), some (.ref Bk), none, some (.int (r : Int)), some (.ref wa), o9] H7
        have v8 : ∀ {H8 : Hp} {o9 : Option V}, Ev (tVar 8) [some (.ref la), some (.ref L), some (.ref sa), some (.ref sta), some (.ref A), some (.ref Bk), none, some (.int (r : Int)), some (.ref wa), o9] H8 (.ref wa) := ev_var rfl
        refine q_asg (v := .bl (hrB rows ks r wy)) ?_ fun H8 e8 => ?_
        · unfold hrB
          refine ev_orV (a := decide (wy.length = 2)) (ev_is (ev_op (ev_lenT (K := K) v8 (st_of hwa)) ev_c (rv_eq rfl)) ?_) fun hn2 => ?_
          · rw [int_dec, List.length_map]
            congr 1
            rw [decide_eq_decide]
            constructor
            · intro z; omega
            · intro z; omega
          · have hn2' := of_decide_eq_false hn2
            have hln := hwln wy hwm (wy_sec ok hn2')
            have hkx : (linesW rows).idxOf [wy.getD 1 0, (r : Int)] < ks.length := by rw [hkl]; exact List.idxOf_lt_length_iff.mpr hln
            have hkg := List.getElem?_eq_getElem hkx
            have egk : ks.getD ((linesW rows).idxOf [wy.getD 1 0, (r : Int)]) [] = ks[(linesW rows).idxOf [wy.getD 1 0, (r : Int)]] := by rw [List.getD_eq_getElem?_getD, hkg]; rfl
            obtain ⟨kv, hkv, hkd⟩ := hvs7.at (d := wd ks[(linesW rows).idxOf [wy.getD 1 0, (r : Int)]]) (by rw [List.getElem?_map, hkg]; rfl)
            rw [egk]
            have hsec : (wy.map V.int)[1]? = some (.int (wy.getD 1 0)) := by
              rw [List.getElem?_map, List.getD_eq_getElem?_getD, List.getElem?_eq_getElem (show 1 < wy.length by omega)]
              rfl
            have hidx := ev_idxW (K := K) (tl := tVar 1) (ty := tTup (tCons (tOp (rIxT K) (tVar 8) (tC (.int 1))) (tCons (tVar 7) tNil))) (p := [wy.getD 1 0, (r : Int)]) (σ := [some (.ref la), some (.ref L), some (.ref sa), some (.ref sta), some (.ref A), some (.ref Bk), none, some (.int (r : Int)), some (.ref wa), o9]) (H := H7) (ev_var rfl) (e07 _ _ hL) (hlls.mono e07) (eu_tup (ea_cons (ev_at (K := K) (j := 1) v8 (st_of hwa) (ev_is ev_c rfl) hsec) (ea_cons (ev_var rfl) ea_nil)) (by simp)) hln
            generalize (linesW rows).idxOf [wy.getD 1 0, (r : Int)] = ji at *
            refine ev_is (ev_eqTail (K := K) (o := some ks[ji]) (u := wy.drop 1) (ev_op (ev_var (i := 5) rfl) hidx (rv_ixL (sq_of hB7) (atI_nat hkv))) (Dq.dp (SeqAt.canLay_of_shaped (shaped_wd _)) hkd) (eq_tail (K := K) v8 (st_of hwa))) ?_
            congr 1
            rw [decide_eq_decide]
            exact ⟨fun z => by injection z, fun z => by rw [z]⟩
        · change tIfS _ _ _ _ [some (.ref la), some (.ref L), some (.ref sa), some (.ref sta), some (.ref A), some (.ref Bk), none, some (.int (r : Int)), some (.ref wa), some (.bl (hrB rows ks r wy))] H8
          have e08 := e07.trans e8
          have hcur : (ts.set r (fstW (hrB rows ks r) (row.take i)))[r]? = some (fstW (hrB rows ks r) (row.take i)) := by rw [List.getElem?_set_self (by omega)]
          obtain ⟨cv, hcv, hcd⟩ := (hus7.mono e8).at (i := r) (d := wd (fstW (hrB rows ks r) (row.take i))) (by rw [List.getElem?_map, hcur]; rfl)
          have hstep := fst_step (f := hrB rows ks r) hw1 hwne
          refine s_when (b := hrB rows ks r wy && decide (fstW (hrB rows ks r) (row.take i) = [])) (et_and (et_B (ev_var (i := 9) rfl)) fun _ => et_test (rv_eqEm (K := K) (ev_op (ev_var (i := 4) rfl) (ev_var (i := 7) rfl) (rv_ixL (sq_of (e8 _ _ hA7)) (atI_nat hcv))) fun H9 e9 => Dp.up e9 (Dq.dp (SeqAt.canLay_of_shaped (shaped_wd _)) hcd))) (fun hb H9 e9 => ?_) (fun hb H9 e9 => ?_)
          · rw [if_pos hb] at hstep
            refine s_setL (j := r) (e9 _ _ (e8 _ _ hA7)) (ev_var (i := 8) rfl) (ev_var (i := 4) rfl) (ev_var (i := 7) rfl) (by omega) fun H10 e10 => ?_
            have e710 := (e8.trans e9).trans e10
            have kp := Kp.mut (l' := us'.set r (.ref wa)) (e710 _ _ hA7)
            have nra : ra ≠ A := fun z => by rw [z, hA7] at hra7; cases hra7
            refine ⟨us'.set r (.ref wa), _, _, rfl, Ex.mut (e07.trans e710) gA, by rw [upd_ne nra]; exact e710 _ _ hra7, kp.wds (hrw7.mono e710), upd_same, by rw [upd_ne (Ne.symm nAB)]; exact e710 _ _ hB7, ?_, kp.wds (hvs7.mono e710)⟩
            have z := dqa_set (kp.ints (wd_of (e710 _ _ hwa))) r (kp.wds (hus7.mono e710))
            rw [List.set_set] at z
            rw [hstep]
            exact z
          · rw [if_neg (by rw [hb]; decide)] at hstep
            have e79 := e8.trans e9
            refine ⟨us', _, _, rfl, e07.trans e79, e79 _ _ hra7, hrw7.mono e79, e79 _ _ hA7, e79 _ _ hB7, ?_, hvs7.mono e79⟩
            rw [hstep]
            exact hus7.mono e79
      · rintro σ' H7 ⟨us', o8, o9, rfl, e07, hra7, hrw7, hA7, hB7, hus7, hvs7⟩
        rw [rwl, List.take_length] at hus7
        exact t_pairTup (i := 4) (j := 5) rfl rfl hA7 hB7 hus7 hvs7 fun H9 uu e9 hd9 => k H9 uu (e07.trans e9) hd9
end
end Wk

set_option Elab.async false
set_option linter.all false
set_option maxRecDepth 100000
set_option maxHeartbeats 1000000
namespace Wk
open PySem PySem.Spec PyProof.Rows L2 Evl
/-! the pool beside what stays -/
def Em : Hp := fun _ => none
theorem Pl.em {G H : Hp} {p q : Addr} (h : Pl G H p q) : Pl Em H p q := h.less fun b o z => by cases z
structure Dv (p q : Addr) (H H' : Hp) : Prop where
  off : Off p q H H'
  pl : Pl Em H' p q
theorem Dv.refl {p q : Addr} {H : Hp} (h : Pl Em H p q) : Dv p q H H := ⟨Off.refl _ _ _, h⟩
theorem Dv.trans {p q : Addr} {H H1 H2 : Hp} (a : Dv p q H H1) (b : Dv p q H1 H2) : Dv p q H H2 := ⟨a.off.trans b.off, b.pl⟩
theorem Dv.ext {p q : Addr} {H H1 H2 : Hp} (a : Dv p q H H1) (e : Ex H1 H2) : Dv p q H H2 := ⟨a.off.trans (.ex e), a.pl.ext e⟩
theorem Dv.draw {p q : Addr} {H H1 H2 : Hp} (a : Dv p q H H1) (h : Pl (Hd H1 p q) H2 p q) : Dv p q H H2 := ⟨a.off.trans h.off, h.em⟩
theorem Dv.mut {p q A : Addr} {H H1 : Hp} {o : HO} (a : Dv p q H H1) (g : H A = none) (np : A ≠ p) (nq : A ≠ q) : Dv p q H (upd H1 A o) :=
  ⟨fun b u b1 b2 hb => by
    rw [upd_ne (fun z => by rw [z, g] at hb; cases hb)]
    exact a.off b u b1 b2 hb, a.pl.mut rfl np nq⟩
theorem Dv.kp {p q : Addr} {H H' : Hp} (a : Dv p q H H') (hP : Pl Em H p q) : Kp H H' := by
  obtain ⟨_, _, h1, h2, _⟩ := hP.at_
  exact Kp.off h1 h2 a.off
/-- one of a list, of a tuple, drawn -/
theorem t_pickL {K : PySem.W.Frag} {σ : L2.St} {H : Hp} {Q : VK} {p q A : Addr} {i : Nat} {xs : List V} (hv : σ[i]? = some (some (.ref A))) (hA : H A = some (.lst xs)) (np : A ≠ p) (nq : A ≠ q) (h0 : 0 < xs.length) (h9 : xs.length ≤ 1000) (hs : σ[0]? = some (some (.ref p))) (hP : Pl Em H p q)
    (k : ∀ (H' : Hp) (j : Nat) (x : V), Dv p q H H' → xs[j]? = some x → Q x H') : tOp (rIxL K) (tVar i) (tCall spDraw [] E0 (tCons (tVar 0) (tCons (tCB (rLenS K) (tCons (tVar i) tNil)) tNil))) σ H Q :=
  ⟨.ref A, hv, .ref p, hs, (ev_len (K := K) (ev_var hv) (sq_of hA) : Ev _ σ H (.int (xs.length : Int))) H (Ex.refl _) _ fun H1 e1 => ⟨Hd H1 p q, p, q, (xs.length : Int), rfl, (hP.ext e1).hd, by omega, by omega, fun H2 j h2 hj0 hj1 => by
    obtain ⟨m, rfl⟩ : ∃ m : Nat, j = (m : Int) := ⟨j.toNat, by omega⟩
    have hm : m < xs.length := by omega
    exact ⟨A, xs, (m : Int), xs[m], rfl, rfl, sq_of (h2.off _ _ np nq (e1 _ _ hA)), atI_nat (List.getElem?_eq_getElem hm), k H2 m _ (((Dv.refl hP).ext e1).draw h2) (List.getElem?_eq_getElem hm)⟩⟩⟩
theorem t_pickT {K : PySem.W.Frag} {σ : L2.St} {H : Hp} {Q : VK} {p q A : Addr} {i : Nat} {xs : List V} (hv : σ[i]? = some (some (.ref A))) (hA : H A = some (.tup xs)) (h0 : 0 < xs.length) (h9 : xs.length ≤ 1000) (hs : σ[0]? = some (some (.ref p))) (hP : Pl Em H p q)
    (k : ∀ (H' : Hp) (j : Nat) (x : V), Dv p q H H' → xs[j]? = some x → Q x H') : tOp (rIxT K) (tVar i) (tCall spDraw [] E0 (tCons (tVar 0) (tCons (tCB (rLenS K) (tCons (tVar i) tNil)) tNil))) σ H Q :=
  ⟨.ref A, hv, .ref p, hs, (ev_lenT (K := K) (ev_var hv) (st_of hA) : Ev _ σ H (.int (xs.length : Int))) H (Ex.refl _) _ fun H1 e1 => ⟨Hd H1 p q, p, q, (xs.length : Int), rfl, (hP.ext e1).hd, by omega, by omega, fun H2 j h2 hj0 hj1 => by
    obtain ⟨m, rfl⟩ : ∃ m : Nat, j = (m : Int) := ⟨j.toNat, by omega⟩
    have hm : m < xs.length := by omega
    have dv := ((Dv.refl hP).ext e1).draw h2
    exact ⟨A, xs, (m : Int), xs[m], rfl, rfl, st_of ((dv.kp hP).tup hA), atI_nat (List.getElem?_eq_getElem hm), k H2 m _ dv (List.getElem?_eq_getElem hm)⟩⟩⟩
theorem s_appC {K : PySem.W.Frag} {i : Nat} {A : Addr} {us : List V} {te : TE} {D : Ends} {σ : L2.St} {H : Hp} (hv : σ[i]? = some (some (.ref A))) (hA : H A = some (.lst us)) (h : te σ H fun x H1 => rAppend (.ref A) [x] H1 fun _ H2 => D.nx σ H2) : tDrop (tBM K "list" rAppend (tVar i) (tCons te tNil)) D σ H := ⟨.ref A, hv, .inl ⟨rfl, us, sq_of hA⟩, h⟩
theorem q_forRO {ta : TA} {j : Nat} {tu tz : TS} {D : Ends} {σ : L2.St} {H : Hp} (FF : Nat → Hp → Prop) (h : ∀ R : List V → Hp → Prop, (∀ (n : Nat) H1, n ≤ 1000 → FF n H1 → R [.int (n : Int)] H1) → ta σ H R) (Pv : Nat → Nat → L2.St → Hp → Prop) (h0 : ∀ n H1, FF n H1 → Pv n 0 σ H1)
    (hs : ∀ n (i : Nat) σ' H', i < n → Pv n i σ' H' → tu { D with nx := Pv n (i + 1), ct := Pv n (i + 1), bk := tz D } (σ'.set j (some (.int (i : Int)))) H') (hd : ∀ n σ' H', Pv n n σ' H' → tz D σ' H') : tSeq (tFor (iRng1 ta) (gName j) tu) tz D σ H :=
  h _ fun n H1 hn hF => ⟨(n : Int), rfl, by omega, by omega, for_it (D := { D with nx := tz D }) (walk_range (lo := 0) (n := ((n : Int)).toNat)) (Pv n) (h0 n H1 hF) (fun _ _ _ _ _ => trivial) (fun i x σ' H2 H3 hi pv y => by
    obtain ⟨rfl, rfl⟩ := y
    show gName j (.int ((0 : Int) + (i : Int))) _ _ _
    rw [Int.zero_add]
    exact hs n i σ' _ (by omega) pv) (fun σ' H' pv => hd n σ' H' (by rw [Int.toNat_natCast] at pv; exact pv))⟩
mutual
theorem dq_kp {H H' : Hp} (kp : Kp H H') : ∀ {d : PyData} {v : V}, noL d = true → Dq H v d → Dq H' v d
  | .none, _, _, .non => .non
  | .bool _, _, _, .bl b => .bl b
  | .int _, _, _, .int i => .int i
  | .str _, _, _, .str x => .str x
  | .list _, _, h, .lst _ _ => by simp [noL] at h
  | .tuple _, _, h, .tup a b => .tup (kp.tup a) (dqa_kp kp (by simpa [noL] using h) b)
  | .dict _, _, h, .dic _ => by simp [noL] at h
theorem dqa_kp {H H' : Hp} (kp : Kp H H') : ∀ {ds : List PyData} {vs : List V}, noLA ds = true → DqA H vs ds → DqA H' vs ds
  | [], _, _, .nil => .nil
  | d :: ds, _, h, .cons a t => by
    have h' : noL d = true ∧ noLA ds = true := by
      have z : (noL d && noLA ds) = true := h
      simpa using z
    exact .cons (dq_kp kp h'.1 a) (dqa_kp kp h'.2 t)
end
theorem noL_stand (ts ks : List Wy) : noL (standD ts ks) = true := by
  unfold standD
  simp only [noL, noLA, noLA_wds, Bool.and_true]
theorem noLA_steps (rows : List (List Wy)) : noLA (stepsD rows) = true := noLA_all fun d hd => by
  unfold stepsD at hd
  rcases List.mem_append.mp hd with z | z
  · obtain ⟨p, _, rfl⟩ := List.mem_map.mp z
    unfold tellD
    show noLA (PyData.str "tell" :: p.map PyData.int) = true
    exact noLA_all fun d hd => by
      rcases List.mem_cons.mp hd with z | z
      · rw [z]; rfl
      · obtain ⟨i, _, rfl⟩ := List.mem_map.mp z
        rfl
  · obtain ⟨j, _, rfl⟩ := List.mem_map.mp z
    rfl
theorem steps_at {rows : List (List Wy)} (h2 : 2 ≤ rows.length) {i : Nat} {d : PyData} (h : (stepsD rows)[i]? = some d) : ∃ s : Stp, d = stepD s ∧ StpOk rows s := by
  have hm := List.mem_of_getElem? h
  unfold stepsD at hm
  rcases List.mem_append.mp hm with z | z
  · obtain ⟨p, hp, rfl⟩ := List.mem_map.mp z
    exact ⟨.inl p, rfl, hp⟩
  · obtain ⟨j, hj, rfl⟩ := List.mem_map.mp z
    have := List.mem_range.mp hj
    exact ⟨.inr (j + 1), rfl, by omega, by omega⟩
end Wk

set_option Elab.async false
set_option linter.all false
set_option maxRecDepth 100000
set_option maxHeartbeats 4000000
namespace Wk
open PySem PySem.Spec PyProof.Rows L2 Evl
/-! an own error with one field of any name -/
def spXF (C : Addr) (n : Str) : Sp := fun vs H Q _ => ∃ (a : Addr) (y : V), vs = [.ref a, y] ∧ H a = some (exo a C none) ∧ ∀ dx, H dx = none → dx ≠ a → Q .non (upd (upd H dx (exd dx [(n, y)])) a (exo a C (some dx)))
theorem mk_errF {C : Addr} {n : Str} {te : TE} {σ : L2.St} {H : Hp} {y : V} {W : XK} (h : Ev te σ H y) (k : ∀ d H', H d = none → Ex H H' → H' d = some (.xd [(n, y)]) → W (.ref C) (some d) H') : tMkO C (spXF C n) [] (tCons te tNil) σ H W := by
  refine h H (Ex.refl H) _ fun H1 e => ⟨by show 1 ≤ 1000; decide, fun a ha => ?_⟩
  refine ⟨a, y, rfl, upd_same, fun dx hd hne => ⟨rfl, dx, [(n, y)], upd_same, by rw [upd_ne hne, upd_same], ?_, ?_⟩⟩
  · rw [upd_ne hne] at hd
    exact hd
  · have hd1 : H1 dx = none := by rw [upd_ne hne] at hd; exact hd
    refine k dx _ (fresh_back e hd1) (fun b o hb => ?_) upd_same
    have hb1 := e b o hb
    have nb : b ≠ dx := ne_of_none hb1 hd1
    have na : b ≠ a := ne_of_none hb1 ha
    rw [upd_ne nb, del_ne na, upd_ne na, upd_ne nb, upd_ne na]
    exact hb1
structure ErrF (P : Program) (w : World) (K : PySem.W.Frag) (mg : Str → Option Value) (base : Heap) (x : Str) (C : Addr) (n : Str) : Prop where
  g : mg x = some (.ref C)
  oex : OexC K C
  xf : XfC K C
  no : PySem.W.findIn K (.ref C) n = some none
  te : PySem.W.exmOne K (.ref C) (.ref C) = some true
  ini : ∃ (fI : Addr) (fd : FuncData), PySem.W.findIn K (.ref C) "__init__" = some (some (.ref fI)) ∧ PySem.W.typeIn K (.ref fI) = some (.type "function") ∧ FnOk P w K mg base CX0 1 fI fd ["self", n] (spXF C n) ∧ Binds K fd ["self", n] []
theorem pmk_errF {X : Cx} {x n : Str} {C : Addr} {e : Expr} {ta : TA} {p pos : Pos} (T : ErrF X.prog X.w X.K X.mg X.base x C n) (hr : Room 2 X.A) (hg : Gl X x) (ha : PA X [e] ta)
    (hdb : (x == ("__debug__" : Str)) = false := by decide) (he : starEach [e] X.env = (false, eval e X.env) :: starEach [] X.env := by rfl) (hpl : (backTo pos (starEach [] X.env)).any (·.1) = false := by rfl) : PMk X (.Call (.Name x p) [e] [] pos) (tMkO C (spXF C n) [] ta) := by
  obtain ⟨fI, fd, h1, h2, h3, h4⟩ := T.ini
  exact pmk_oex T.oex h1 h2 h3 hr h4 .nil pass0 hg T.g ha hdb he hpl
section
variable {P : Program} {w : World} {K : PySem.W.Frag} {mg : Str → Option Value} {base : Heap} {f : Addr} {fd : FuncData}
abbrev sXM : Stmt := inClass (top 5) 0
theorem scXM : FnScope ["self", "most"] ["self", "most"] (defScope sXM) := ⟨rfl, rfl, rfl, by decide +kernel, rfl, by decide +kernel, by decide +kernel⟩
theorem ok_xm {C : Addr} (T : OexC K C) (no : PySem.W.findIn K (.ref C) "most" = some none) (F : FunD K "__init__" "TooMany.__init__" (defArgs sXM) (defBody sXM) (defScope sXM) [] [] f fd) : FnOk P w K mg base CX0 1 f fd ["self", "most"] (spXF C "most") := by
  refine F.ok scXM (fun vs H Q E h => ?_) (fun cdv A outer s H vs Q E hr h => ?_)
  · obtain ⟨a, y, rfl, _⟩ := h
    rfl
  · obtain ⟨a, y, rfl, ha, k⟩ := h
    exact ⟨_, pss_one (ps_ost (pv 0) (pv 1)), y, rfl, .ref a, rfl, a, C, rfl, T, no, .inl ⟨ha, k⟩⟩
end
end Wk

set_option Elab.async false
set_option linter.all false
set_option maxRecDepth 100000
set_option maxHeartbeats 4000000
namespace Wk
open PySem PySem.Spec PyProof.Rows L2 Evl
end Wk
namespace L2
open PySem PySem.Spec PyProof.Rows
def rRepU (K : PySem.W.Frag) : R2 := fun x y H Q => ∃ l k xs, x = .ref l ∧ y = .int k ∧ SqT K H l xs ∧ xs ≠ [] ∧ 1 ≤ k ∧ k ≤ 1000 ∧ xs.length ≤ 1000 ∧ (k = 1 → Q (.ref l) H) ∧ (2 ≤ k → ∀ p, H p = none → Q (.ref p) (upd H p (.tup (List.replicate k.toNat xs).flatten)))
theorem op_repU {X : Cx} {K : PySem.W.Frag} (hK : X.K = K) : OpR X (binaryOp .Mult) (rRepU K) := by
  subst hK
  intro pins s σ H x y v u Q I rx ry h
  obtain ⟨l, k, xs, rfl, rfl, hT, hne, h1, h2, hz, q1, q⟩ := h
  by_cases hk : 2 ≤ k
  · exact op_repT pins s σ H (.ref l) (.int k) v u Q I rx ry ⟨l, k, xs, rfl, rfl, hT, hne, hk, h2, hz, q hk⟩
  · have e : k = 1 := by omega
    subst e
    cases rx
    obtain ⟨t, rfl⟩ := ry
    obtain ⟨its, r, ⟨⟨cls, dd, data, sl⟩, ho, hc, n, hd⟩, hs⟩ := I.tuple hT
    simp only at hc hd
    subst hc hd
    exact wpAny_binaryOp_repeat_ref (T := "tuple") (U := "int") (by decide) ⟨_, ho, rfl⟩ (fun s' => typeIs_int s' 1 t) noFill_tuple_mul F.fills_int_mul F.slot_int_rmul repeat_tuple F.slot_int_index.lookup
      (call_meets F.slot_int_rmul (typeIs_int s 1 t) F.entry_int_rmul (F.args_int_rmul_2 _ _) (int_rmul_tuple 1 t l its.toArray n dd sl)
        ⟨ho, rfl, ⟨_, ho, rfl⟩, call_meets F.slot_tuple_mul ⟨_, ho, rfl⟩ F.entry_tuple_mul (F.args_tuple_mul_2 _ _) (Wk.tuple_mul1 l its.toArray n dd sl t) ⟨ho, ⟨.ref l, H, I, rfl, q1 rfl⟩⟩⟩)
end L2
namespace Wk
open PySem PySem.Spec PyProof.Rows L2 Evl
theorem set_cut {xs : List V} {i : Nat} {v : V} (h : i < xs.length) : cutV xs none (some (i : Int)) ++ [v] ++ cutV xs (some ((i : Int) + 1)) none = xs.set i v := by
  rw [cut_to xs i (by omega), show ((i : Int) + 1) = ((i + 1 : Nat) : Int) by omega, cut_from xs (i + 1) (by omega), List.set_eq_take_append_cons_drop, if_pos h, List.append_assoc]
  rfl
theorem ip_mul {X : Cx} : PIp X .Mult (fun x y H Q => ∃ i j, x = .int i ∧ y = .int j ∧ CMul i j ∧ Q (.int (i * j)) H) := by
  intro pins s σ H x y v u Q I r1 r2 h
  obtain ⟨i, j, e1, e2, c, q⟩ := h
  subst e1; subst e2
  obtain ⟨t, rfl⟩ := r1
  obtain ⟨t', rfl⟩ := r2
  exact imul_int ⟨.int _, H, I.tok _, ⟨_, rfl⟩, q⟩ c.ok
section
variable {P : Program} {w : World} {K : PySem.W.Frag} {mg : Str → Option Value} {base : Heap} {f : Addr} {fd : FuncData} {CW CN CT : Addr}
/-! replaced -/
def spRepl : Sp := fun vs H Q _ => ∃ (a : Addr) (i : Nat) (v : V) (xs : List V), vs = [.ref a, .int (i : Int), v] ∧ H a = some (.tup xs) ∧ i < xs.length ∧ xs.length ≤ 1000 ∧ ∀ H' t, Ex H H' → H' t = some (.tup (xs.set i v)) → Q (.ref t) H'
abbrev sRepl : Stmt := top 20
abbrev nRepl : List Str := ["row", "place", "item"]
theorem scRepl : FnScope nRepl nRepl (defScope sRepl) := ⟨rfl, rfl, rfl, by decide +kernel, rfl, by decide +kernel, by decide +kernel⟩
theorem ok_repl (F : FnP K "replaced" sRepl f fd) : FnOk P w K mg base CX0 1 f fd nRepl spRepl := by
  refine F.ok scRepl (fun vs H Q E h => ?_) (fun cdv A outer s H vs Q E hr h => ?_)
  · obtain ⟨a, i, v, xs, rfl, _⟩ := h
    rfl
  · obtain ⟨a, i, v, xs, rfl, ha, hi, hx, k⟩ := h
    refine ⟨_, pss_one (ps_ret (pe_op op_catA (pe_op op_catA (pe_slice sl_tupA (pv 0) po_none (po_some (pv 1))) (pe_tup (pa_cons (pv 2) pa_nil))) (pe_slice sl_tupA (pv 0) (po_some (pe_op op_add (pv 1) pe_int)) po_none))), ?_⟩
    have l1 : (cutV xs none (some (i : Int))).length ≤ 1000 := by rw [cut_to xs i (by omega), List.length_take]; omega
    have l2 : (cutV xs (some ((i : Int) + 1)) none).length ≤ 1000 := by rw [show ((i : Int) + 1) = ((i + 1 : Nat) : Int) by omega, cut_from xs (i + 1) (by omega), List.length_drop]; omega
    have v0 : Ev (tVar 0) (start nRepl [V.ref a, V.int (i : Int), v]) H (.ref a) := ev_var rfl
    have ad : Ev (tOp (rI0 fun i j => .int (i + j)) (tVar 1) (tC (.int 1))) (start nRepl [V.ref a, V.int (i : Int), v]) H (.int ((i : Int) + 1)) := ev_op (ev_var rfl) ev_c rv_I0
    have e1 := es_cat (K := K) (es_cat (K := K) (es_sl (K := K) (lo := none) (hi := some (i : Int)) v0 eo_none (eo_some (te := tVar 1) (ev_var rfl)) ha) (es_tup (xs := [v]) (ea_cons (ta := tVar 2) (ev_var rfl) ea_nil) (by show 1 ≤ 100000; decide)) (by show _ + 1 ≤ _; omega))
      (es_sl (K := K) (lo := some ((i : Int) + 1)) (hi := none) v0 (eo_some ad) eo_none ha) (by rw [List.length_append]; show _ + 1 + _ ≤ _; omega)
    rw [set_cut hi] at e1
    exact e1 H (Ex.refl _) _ fun t H' e h => k H' t e h
/-! refuse_more_takings -/
theorem chW_len {rows : List (List Wy)} (hG : GW rows) {i : Nat} {row : List Wy} (h : rows[i]? = some row) : (chW rows i).length = row.length + 1 := by
  unfold chW
  by_cases c : i = 0
  · subst c
    rw [if_pos rfl, hG.goal row h]
    rfl
  · rw [if_neg c, List.getD_eq_getElem?_getD, h, List.length_append]
    rfl
def spRMT (CW CT : Addr) : Sp := fun vs H Q E => ∃ (wv : V) (most : Int) (rows : List (List Wy)), vs = [wv, .int most] ∧ WO CW H wv rows ∧ ((tks rows : Int) ≤ most → ∀ H', Ex H H' → Q .non H') ∧
  (most < (tks rows : Int) → ∀ dx H', H dx = none → Ex H H' → H' dx = some (.xd [("most", .int most)]) → E (.ref CT) (some dx) H')
abbrev sRMT : Stmt := top 28
abbrev nRMT : List Str := ["wishes", "most", "many", "router"]
theorem scRMT : FnScope nRMT ["wishes", "most"] (defScope sRMT) := ⟨rfl, rfl, rfl, by decide +kernel, rfl, by decide +kernel, by decide +kernel⟩
theorem tks_le {rows : List (List Wy)} (h6 : ∀ row ∈ rows, row.length ≤ 6) : ∀ i, i ≤ 8 → tks (rows.take i) ≤ 7 ^ i := by
  intro i
  induction i with
  | zero => intro _; exact Nat.le_refl _
  | succ i ih =>
    intro hi
    have h := ih (by omega)
    cases e : rows[i]? with
    | none =>
      have hl := List.getElem?_eq_none_iff.mp e
      rw [List.take_of_length_le (by omega)]
      rw [List.take_of_length_le (by omega)] at h
      rw [Nat.pow_succ]
      omega
    | some row =>
      rw [tks_take e, Nat.pow_succ]
      exact Nat.mul_le_mul h (by have := h6 row (List.mem_of_getElem? e); omega)
theorem ok_rmt (B : Bl mg) (T : WTx K mg CW) (TE : ErrF P w K mg base "TooMany" CT "most") (C : Cal P w K mg base "choices" ["wishes", "router"] 6 (spChoices K CW)) (F : FnP K "refuse_more_takings" sRMT f fd) : FnOk P w K mg base (L2.CX P w) 7 f fd ["wishes", "most"] (spRMT CW CT) := by
  refine F.ok scRMT (fun vs H Q E h => ?_) (fun cdv A outer s H vs Q E hr h => ?_)
  · obtain ⟨wv, most, rows, rfl, _⟩ := h
    rfl
  · obtain ⟨wv, most, rows, rfl, hw, kQ, kE⟩ := h
    have hr2 : Room 2 _ := hr.mono (by decide)
    refine ⟨_, pss_cons (ps_set (i := 2) scRMT.nd rfl (Or.inl rfl) pe_int)
      (pss_cons (ps_for (passes_of rfl) rfl (pi_range1 (by rfl) B.range (pa_cons (pe_fld (pv 0) rfl) pa_nil)) (pg_name (i := 3) scRMT.nd rfl (Or.inl rfl))
        (pss_one (ps_aug (i := 2) scRMT.nd rfl (Or.inl rfl) (pe_callB call_len_seq (by rfl) B.len PySem.boot_len (pa_cons (pe_cal C hr (by rfl) (pa_cons (pv 0) (pa_cons (pv 3) pa_nil))) pa_nil)) ip_mul)))
      (pss_one (ps_if (pt_cmpR op_gt (pv 2) (pv 1) (nomark _)) (pss_one (ps_raise rfl (takes_of rfl rfl rfl rfl) (pmk_errF TE hr2 (by rfl) (pa_cons (pv 1) pa_nil)))) pss_nil))), ?_⟩
    have n8 := hw.n8
    refine q_c ?_
    refine q_forR1 (ea_cons (ev_wsize T (ev_var rfl) hw) ea_nil) (n := (rows.length : Int)) (by omega) (fun i σ' H' => Ex H H' ∧ ∃ o, σ' = [some wv, some (.int most), some (.int (tks (rows.take i) : Int)), o]) (fun H1 e1 => ⟨e1, _, rfl⟩) ?_ ?_
    · rintro i σ' H1 hi ⟨e1, o, rfl⟩
      have hin : i < rows.length := by omega
      have hrw : rows[i]? = some rows[i] := List.getElem?_eq_getElem hin
      have hlen := chW_len hw.g hrw
      have hle := tks_le hw.r6 i (by omega)
      have h78 : (7 : Nat) ^ i ≤ 7 ^ 8 := Nat.pow_le_pow_right (by decide) (by omega)
      have e78 : (7 : Nat) ^ 8 = 5764801 := by decide
      have hr6 := hw.r6 _ (List.getElem_mem hin)
      refine ⟨_, rfl, wv, rfl, .int (i : Int), rfl, wv, i, rows, rfl, hw.up e1, hin, fun H2 l us e2 _ hl hd => ?_⟩
      have hul := dpa_len hd
      rw [List.length_map, hlen] at hul
      refine ⟨l, us, rfl, .inl (sq_of hl), ?_⟩
      refine ⟨(tks (rows.take i) : Int), (us.length : Int), rfl, rfl, .inr ⟨by omega, by omega⟩, ?_⟩
      refine ⟨e1.trans e2, some (.int (i : Int)), ?_⟩
      rw [tks_take hrw, ← hul]
      rfl
    · rintro σ' H1 ⟨e1, o, rfl⟩
      have et : rows.take ((rows.length : Int)).toNat = rows := by rw [show ((rows.length : Int)).toNat = rows.length by omega, List.take_length]
      rw [et]
      refine s_when (b := decide ((tks rows : Int) > most)) (et_test (ev_op (ev_var rfl) (ev_var rfl) rv_I0)) (fun hb H2 e2 => ?_) (fun hb H2 e2 => ?_)
      · have hb := of_decide_eq_true hb
        exact mk_errF (ev_var (i := 1) rfl) fun dx H' h0 e' hx => kE hb dx H' (fresh_back (e1.trans e2) h0) ((e1.trans e2).trans e') hx
      · have hb := of_decide_eq_false hb
        exact kQ (by omega) H2 (e1.trans e2)
/-! no_items -/
def spNoI (K : PySem.W.Frag) (CW : Addr) : Sp := fun vs H Q _ => ∃ (wv : V) (rows : List (List Wy)), vs = [wv] ∧ WO CW H wv rows ∧ ∀ H' b xs, Ex H H' → H' b = some (.tup xs) → DpAll K H' xs ((ptk rows.length [[0]]).map od) → Q (.ref b) H'
abbrev sNoI : Stmt := top 29
theorem scNoI : FnScope ["wishes"] ["wishes"] (defScope sNoI) := ⟨rfl, rfl, rfl, by decide +kernel, rfl, by decide +kernel, by decide +kernel⟩
theorem dpa_non {K : PySem.W.Frag} {H : Hp} : ∀ n, DpAll K H (List.replicate n V.non) ((List.replicate n (none : Option Wy)).map od)
  | 0 => .nil
  | n + 1 => .cons .non (dpa_non n)
theorem ok_noI (T : WTx K mg CW) {ag : Addr} (hG : mg "GOAL_WAY" = some (.ref ag)) (hGt : ∀ H, SqT K H ag [.int 0]) (F : FnP K "no_items" sNoI f fd) : FnOk P w K mg base CX0 1 f fd ["wishes"] (spNoI K CW) := by
  refine F.ok scNoI (fun vs H Q E h => ?_) (fun cdv A outer s H vs Q E hr h => ?_)
  · obtain ⟨wv, rows, rfl, _⟩ := h
    rfl
  · obtain ⟨wv, rows, rfl, hw, k⟩ := h
    refine ⟨_, pss_one (ps_ret (pe_op op_catA (pe_tup (pa_cons (pe_glob (v := .ref ag) (by rfl) hG rfl) pa_nil)) (pe_op (op_repU (K := K) rfl) (pe_tup (pa_cons pe_non pa_nil)) (pe_op op_sub (pe_fld (pv 0) rfl) pe_int)))), ?_⟩
    have n8 := hw.n8
    have n2 := hw.n2
    refine ⟨by show 1 ≤ sizeLine; decide, fun t1 ht1 => ⟨by show 1 ≤ sizeLine; decide, fun t2 ht2 => ?_⟩⟩
    have e1 := Ex.new (o := .tup [V.ref ag]) ht1
    have e2 := Ex.new (o := .tup [V.non]) ht2
    have h1 := e2 _ _ (show (upd H t1 (.tup [V.ref ag])) t1 = some (.tup [V.ref ag]) from upd_same)
    have h2 : (upd (upd H t1 (.tup [V.ref ag])) t2 (.tup [V.non])) t2 = some (.tup [V.non]) := upd_same
    have e12 := e1.trans e2
    generalize upd (upd H t1 (.tup [V.ref ag])) t2 (.tup [V.non]) = H2 at *
    have hsz := ev_wsize (K := K) (σ := start ["wishes"] [wv]) (te := tVar 0) T (ev_var rfl) (hw.up e12)
    have hsub := ev_op (r := rI0 fun i j => .int (i - j)) (tb := tC (.int 1)) (y := .int 1) (z := .int ((rows.length : Int) - 1)) hsz ev_c rv_I0
    have fin : ∀ H3 t3 (xs : List V), Ex H2 H3 → H3 t3 = some (.tup xs) → xs = List.replicate (rows.length - 1) V.non → rCatA K (.ref t1) (.ref t3) H3 Q := fun H3 t3 xs e3 h3 hx => by
      refine ⟨t1, t3, _, _, rfl, rfl, st_of (e3 _ _ h1), st_of h3, by rw [hx, List.length_replicate, sizeLine_eq]; show 1 + _ ≤ _; omega, (fun z => by cases z), fun _ z => ?_, fun _ _ b hb => ?_⟩
      · exfalso
        rw [hx] at z
        have := congrArg List.length z
        rw [List.length_replicate] at this
        simp at this
        omega
      · have e4 := Ex.new (o := .tup ([V.ref ag] ++ xs)) hb
        refine k _ b _ (e12.trans (e3.trans e4)) upd_same ?_
        rw [hx]
        show DpAll K _ (V.ref ag :: List.replicate (rows.length - 1) V.non) (od (some [0]) :: (List.replicate (rows.length - 1) (none : Option Wy)).map od)
        exact .cons (dp_of_wd (w := [0]) (hGt _)) (dpa_non _)
    refine hsub H2 (Ex.refl _) _ fun H3 e3 => ?_
    refine ⟨t2, (rows.length : Int) - 1, [V.non], rfl, rfl, st_of (e3 _ _ h2), by simp, by omega, by omega, by simp, fun h => ?_, fun h p hp => ?_⟩
    · exact fin H3 t2 [V.non] e3 (e3 _ _ h2) (by rw [show rows.length - 1 = 1 by omega]; rfl)
    · exact fin _ p _ (e3.trans (Ex.new hp)) upd_same (by rw [flat_rep, show ((rows.length : Int) - 1).toNat = rows.length - 1 by omega])
end
end Wk

set_option Elab.async false
set_option linter.all false
set_option maxRecDepth 100000
set_option maxHeartbeats 4000000
namespace Wk
open PySem PySem.Spec PyProof.Rows L2 Evl
theorem pi_listK {X : Cx} {K : PySem.W.Frag} {tg l : Expr} {tl : TE} (hK : X.K = K) (hl : PE X l tl) : PI X tg l (iList K tl) := by
  subst hK
  exact pi_list hl
theorem q_asgW_last {te : TE} {D : Ends} {σ : L2.St} {H : Hp} {i : Nat} (h : te σ H fun x H1 => D.nx (σ.set i (some x)) H1) : tAsg te (gName i) D σ H := h
theorem asc_ex {ws : List Wy} (nd : ws.Nodup) : ∃ as, Asc ltW as ∧ as.Perm ws := by
  have hperm := List.mergeSort_perm ws (fun p q => !ltW q p)
  have hpw := List.pairwise_mergeSort (le := fun p q : Wy => !ltW q p) (fun a b c h1 h2 => ?_) (fun a b => ?_) ws
  · exact ⟨_, asc_of sto_W (hpw.imp fun {p q} z => by simpa using z) (hperm.nodup_iff.mpr nd), hperm⟩
  · simp only [Bool.not_eq_true'] at h1 h2 ⊢
    cases hc : ltW c a with
    | false => rfl
    | true =>
      by_cases e1 : a = b
      · rw [e1] at hc; rw [h2] at hc; cases hc
      rcases sto_W.tri a b e1 with z | z
      · rw [sto_W.tr _ _ _ hc z] at h2
        cases h2
      · rw [h1] at z
        cases z
  · by_cases e1 : a = b
    · rw [e1, sto_W.irr]
      rfl
    · rcases sto_W.tri a b e1 with z | z
      · rw [sto_W.asym z]
        rfl
      · rw [sto_W.asym z]
        simp
/-! rows of items in the heap -/
def RowAt (K : PySem.W.Frag) (n : Nat) (H : Hp) (u : V) (pre : List Wy) : Prop := ∃ b xs, u = .ref b ∧ H b = some (.tup xs) ∧ DpAll K H xs ((ptk n pre).map od)
theorem RowAt.up {K : PySem.W.Frag} {n : Nat} {H H' : Hp} {u : V} {pre : List Wy} (e : Ex H H') (h : RowAt K n H u pre) : RowAt K n H' u pre := by
  obtain ⟨b, xs, h1, h2, h3⟩ := h
  exact ⟨b, xs, h1, e _ _ h2, DpAll.up e h3⟩
theorem rd_off {D a : Addr} {H : Hp} {o : HO} {l : List V} (hD : H D = some (.lst l)) (h : Rd H a o) (ho : ∀ l, o ≠ .lst l) : Rd (off D H) a o := by
  have n : a ≠ D := fun z => by
    subst z
    rcases h with h | ⟨x, h⟩
    · rw [h] at hD
      injection hD with hD
      exact ho l hD
    · rw [h] at hD
      cases hD
  rcases h with h | ⟨x, h⟩
  · exact .inl (by rw [off_at n]; exact h)
  · exact .inr ⟨x, by rw [off_at n]; exact h⟩
theorem st_off {K : PySem.W.Frag} {D a : Addr} {H : Hp} {l xs : List V} (hD : H D = some (.lst l)) (h : SqT K H a xs) : SqT K (off D H) a xs := h.imp (fun h => rd_off hD h (fun l z => by cases z)) id
theorem dp_off {K : PySem.W.Frag} {D : Addr} {H : Hp} {l : List V} {v : V} {o : Option Wy} (hD : H D = some (.lst l)) (h : Dp K H v (od o)) : Dp K (off D H) v (od o) := by
  cases o with
  | none =>
    have e := dp_od_none h
    subst e
    exact .non
  | some w =>
    obtain ⟨a, rfl, ha⟩ := dp_wd h
    exact dp_of_wd (st_off hD ha)
theorem dpa_off {K : PySem.W.Frag} {D : Addr} {H : Hp} {l : List V} (hD : H D = some (.lst l)) : ∀ {xs : List V} {t : List (Option Wy)}, DpAll K H xs (t.map od) → DpAll K (off D H) xs (t.map od)
  | [], [], _ => .nil
  | [], _ :: _, h => by cases h
  | _ :: _, [], h => by cases h
  | x :: xs, o :: t, h => by
    cases h with
    | cons h1 h2 => exact .cons (dp_off hD h1) (dpa_off hD h2)
theorem RowAt.off {K : PySem.W.Frag} {n : Nat} {D : Addr} {H : Hp} {l : List V} {u : V} {pre : List Wy} (hD : H D = some (.lst l)) (h : RowAt K n H u pre) : RowAt K n (off D H) u pre := by
  obtain ⟨b, xs, h1, h2, h3⟩ := h
  exact ⟨b, xs, h1, by rw [off_at (fun z => by rw [z, hD] at h2; cases h2)]; exact h2, dpa_off hD h3⟩
inductive RwT (K : PySem.W.Frag) (n : Nat) (H : Hp) : List V → List (List Wy) → Prop
  | nil : RwT K n H [] []
  | cons {u : V} {pre : List Wy} {us : List V} {L : List (List Wy)} : RowAt K n H u pre → RwT K n H us L → RwT K n H (u :: us) (pre :: L)
theorem RwT.up {K : PySem.W.Frag} {n : Nat} {H H' : Hp} {us : List V} {L : List (List Wy)} (e : Ex H H') (h : RwT K n H us L) : RwT K n H' us L := by
  induction h with
  | nil => exact .nil
  | cons a b ih => exact .cons (a.up e) ih
theorem RwT.off {K : PySem.W.Frag} {n : Nat} {D : Addr} {H : Hp} {l : List V} {us : List V} {L : List (List Wy)} (hD : H D = some (.lst l)) (h : RwT K n H us L) : RwT K n (off D H) us L := by
  induction h with
  | nil => exact .nil
  | cons a b ih => exact .cons (a.off hD) ih
theorem RwT.len {K : PySem.W.Frag} {n : Nat} {H : Hp} {us : List V} {L : List (List Wy)} (h : RwT K n H us L) : us.length = L.length := by
  induction h with
  | nil => rfl
  | cons a b ih => rw [List.length_cons, List.length_cons, ih]
theorem RwT.app {K : PySem.W.Frag} {n : Nat} {H : Hp} {us vs : List V} {L M : List (List Wy)} (h : RwT K n H us L) (k : RwT K n H vs M) : RwT K n H (us ++ vs) (L ++ M) := by
  induction h with
  | nil => exact k
  | cons a b ih => exact .cons a ih
theorem RwT.at {K : PySem.W.Frag} {n : Nat} {H : Hp} {us : List V} {L : List (List Wy)} (h : RwT K n H us L) : ∀ {i : Nat} {u : V}, us[i]? = some u → ∃ pre, L[i]? = some pre ∧ RowAt K n H u pre := by
  induction h with
  | nil => intro i u e; simp at e
  | cons a b ih =>
    intro i u e
    cases i with
    | zero =>
      simp at e
      subst e
      exact ⟨_, rfl, a⟩
    | succ i =>
      obtain ⟨pre, h1, h2⟩ := ih (by simpa using e)
      exact ⟨pre, by simpa using h1, h2⟩
theorem grown_rw {K : PySem.W.Frag} {n : Nat} {F : Nat → List Wy} {H : Hp} : ∀ {js : List Nat} {us : List V}, Grown (fun i u H => RowAt K n H u (F i)) H js us → RwT K n H us (js.map F)
  | [], us, h => by
    rw [show us = [] from h]
    exact .nil
  | j :: js, us, h => by
    obtain ⟨u, r, rfl, h2, h3⟩ := h
    exact .cons h2 (grown_rw h3)
theorem row_good {K : PySem.W.Frag} {n : Nat} {F : Nat → List Wy} : GoodY (fun i u H => RowAt K n H u (F i)) := ⟨fun i u H H' e h => h.up e, fun i u H D l hD h => h.off hD⟩
theorem map_getD {α β : Type} (f : α → β) (d : α) : ∀ l : List α, (List.range l.length).map (fun i => f (l.getD i d)) = l.map f := fun l => by
  apply List.ext_getElem
  · simp
  · intro i h1 h2
    have h3 : i < l.length := by simpa using h1
    simp [List.getD_eq_getElem?_getD, List.getElem?_eq_getElem h3]
theorem filter_getD {α : Type} (p : α → Bool) (d : α) (l : List α) : ((List.range l.length).filter fun i => p (l.getD i d)).map (fun i => l.getD i d) = l.filter p := by
  have h := map_getD id d l
  rw [List.map_id] at h
  conv => rhs; rw [← h]
  rw [List.filter_map]
  rfl
theorem dpa_set {K : PySem.W.Frag} {H : Hp} {v : V} {d : PyData} (hv : Dp K H v d) : ∀ {xs : List V} {ds : List PyData} (i : Nat), DpAll K H xs ds → DpAll K H (xs.set i v) (ds.set i d)
  | [], [], _, _ => .nil
  | [], _ :: _, _, h => by cases h
  | _ :: _, [], _, h => by cases h
  | x :: xs, y :: ds, 0, h => by
    cases h with
    | cons h1 h2 => exact .cons hv h2
  | x :: xs, y :: ds, i + 1, h => by
    cases h with
    | cons h1 h2 => exact .cons h1 (dpa_set hv i h2)
theorem chW_nd {rows : List (List Wy)} (hG : GW rows) {i : Nat} (hi : i < rows.length) : (chW rows i).Nodup := by
  have hrw : rows[i]? = some rows[i] := List.getElem?_eq_getElem hi
  unfold chW
  split
  · simp
  · rw [List.getD_eq_getElem?_getD, hrw]
    refine List.nodup_append.mpr ⟨hG.nd i _ hrw, by simp, fun a ha b hb => ?_⟩
    rw [List.mem_singleton.mp hb]
    intro z
    have := (hG.ok i _ hrw a ha).l2
    rw [z] at this
    simp at this
theorem chW_two {rows : List (List Wy)} (hG : GW rows) {i : Nat} (hi : i < rows.length) (h : 2 ≤ (chW rows i).length) : ∃ w rest, chW rows i = w :: rest ∧ w ≠ [] ∧ [] ∈ rest := by
  have hrw : rows[i]? = some rows[i] := List.getElem?_eq_getElem hi
  unfold chW at h ⊢
  by_cases c : i = 0
  · rw [if_pos c] at h
    simp at h
  · rw [if_neg c, List.getD_eq_getElem?_getD, hrw] at h ⊢
    show ∃ w rest, rows[i] ++ [[]] = w :: rest ∧ _
    have h' : 2 ≤ (rows[i] ++ [[]] : List Wy).length := h
    cases hr : rows[i] with
    | nil => rw [hr] at h'; simp at h'
    | cons w rest =>
      refine ⟨w, rest ++ [[]], rfl, fun z => ?_, by simp⟩
      have := (hG.ok i _ hrw w (by rw [hr]; exact List.mem_cons_self)).l2
      rw [z] at this
      simp at this
section
variable {P : Program} {w : World} {K : PySem.W.Frag} {mg : Str → Option Value} {base : Heap} {f : Addr} {fd : FuncData} {CW CN CT : Addr}
/-! followed_up -/
def spFol (K : PySem.W.Frag) (CW : Addr) : Sp := fun vs H Q _ => ∃ (wv iv : V) (r : Nat) (rows : List (List Wy)) (pre : List Wy), vs = [wv, iv, .int (r : Int)] ∧ WO CW H wv rows ∧ RowAt K rows.length H iv pre ∧ PreOk rows pre ∧ pre.length = r ∧ 1 ≤ r ∧ r < rows.length ∧
  ∀ H' l us ws, Ex H H' → H l = none → H' l = some (.lst us) → Asc ltW ws → ws.Perm (chW rows r) → RwT K rows.length H' us (fol rows ws pre) → Q (.ref l) H'
abbrev sFol : Stmt := top 56
abbrev nFol : List Str := ["wishes", "items", "router", "rows", "item", "row"]
theorem scFol : FnScope nFol ["wishes", "items", "router"] (defScope sFol) := ⟨rfl, rfl, rfl, by decide +kernel, rfl, by decide +kernel, by decide +kernel⟩
theorem ok_fol (hso : mg "sorted" = none) (CC : Cal P w K mg base "choices" ["wishes", "router"] 6 (spChoices K CW)) (CR : Cal P w K mg base "replaced" nRepl 1 spRepl) (CF : Cal P w K mg base "first_that_cannot_stay" ["wishes", "items"] 7 (spFirst K CW)) (F : FnP K "followed_up" sFol f fd) : FnOk P w K mg base CX0 8 f fd ["wishes", "items", "router"] (spFol K CW) := by
  refine F.ok scFol (fun vs H Q E h => ?_) (fun cdv A outer s H vs Q E hr h => ?_)
  · obtain ⟨wv, iv, r, rows, pre, rfl, _⟩ := h
    rfl
  · obtain ⟨wv, iv, r, rows, pre, rfl, hw, hrow, hpre, hpl, hr1, hrn, k⟩ := h
    have hu : (A.deeper (envOfC "followed_up" (defScope sFol) s.heap.objs.size f cdv)).units + 8 < cLine := by have := hr.un; omega
    refine ⟨_, pss_cons (ps_setLc (i := 3) (own := [("item", 4)]) (g := gName 4) (tt := tYes) rfl scFol.nd rfl rfl (sw_true rfl rfl rfl (by decide +kernel)) (pi_list (pe_callB (cr_sortW (K := K) rfl hu) (by rfl) hso PyProof.Rows.boot_sorted (pa_cons (pe_cal CC hr (by rfl) (pa_cons (pv 0) (pa_cons (pv 2) pa_nil))) pa_nil))) (blkOk_by (N := nFol) (sc := defScope sFol) (by decide +kernel))
        (fun _ _ _ _ _ => pg_name (i := 4) scFol.nd rfl (Or.inl rfl)) (fun _ _ _ _ _ => pts_nil) (fun _ _ _ _ _ => pe_cal CR hr (by rfl) (pa_cons (pv 1) (pa_cons (pv 2) (pa_cons (pv 4) pa_nil)))))
      (pss_one (ps_ret (pe_lc (own := [("row", 5)]) (g := gName 5) (tt := tTest (tOp rIsN (tCall (spFirst K CW) [] E0 (tCons (tVar 0) (tCons (tVar 5) tNil))) (tC .non))) (te := tVar 5) rfl scFol.nd (pi_list (pv 3)) (blkOk_by (N := nFol) (sc := defScope sFol) (by decide +kernel))
        (fun _ _ _ _ _ => pg_name (i := 5) scFol.nd rfl (Or.inl rfl)) (fun _ _ _ _ _ => pts_one (pt_cmpR op_isN1 (pe_cal CF hr (by rfl) (pa_cons (pv 0) (pa_cons (pv 5) pa_nil))) pe_non (nomark _))) (fun _ _ _ _ _ => pv 5)))), ?_⟩
    have hG := hw.g
    have n8 := hw.n8
    refine q_asgW ?_
    refine ⟨wv, rfl, .int (r : Int), rfl, wv, r, rows, rfl, hw, hrn, fun H1 l us e1 _ hl hd => ?_⟩
    refine ⟨l, us, chW rows r, rfl, sq_of hl, hd, chW_nd hG hrn, chW_two hG hrn, fun ys ws p ha hp hys hpn => ?_⟩
    have e2 := Ex.new (o := .lst ys) hpn
    have hp2 : (upd H1 p (.lst ys)) p = some (.lst ys) := upd_same
    have hys2 := DpAll.up e2 hys
    have e12 := e1.trans e2
    generalize upd H1 p (.lst ys) = H2 at *
    have hyl : ys.length = ws.length := by have := dpa_len hys2; rw [List.length_map] at this; exact this
    have hcl : (chW rows r).length ≤ 7 := by
      rw [chW_len hG (List.getElem?_eq_getElem hrn)]
      have := hw.r6 _ (List.getElem_mem hrn)
      omega
    have hwl : ws.length ≤ 7 := by rw [hp.length_eq]; exact hcl
    refine ⟨p, rfl, ⟨ys, sq_of hp2⟩, fun D hD => ?_⟩
    obtain ⟨b0, xs0, rfl, hb0, hx0⟩ := hrow.up e12
    have hxl : xs0.length = rows.length := by
      have := dpa_len hx0
      rw [List.length_map, ptk_len (by omega)] at this
      exact this
    refine grow_lc (Y := fun i u H => RowAt K rows.length H u (pre ++ [ws.getD i []])) (walk_list (K := K) (a := p) (xs := ys)) row_good (fun _ => true) hD (by omega) (fun H' e => sq_of (e _ _ hp2)) (fun x => rfl) (fun i x H' e hi hy => et_yes) (fun i x H' e hi hy _ => ?_) (fun us3 H3 e3 hD3 hg => ?_)
    · intro H4 e4 Q4 q4
      obtain ⟨wi, hw1, hw2⟩ := dpa_get hys2 hy
      have e24 := e.trans e4
      refine ⟨.ref b0, rfl, .int (r : Int), rfl, x, rfl, ⟨b0, r, x, xs0, rfl, e24 _ _ hb0, by omega, by rw [hxl]; omega, fun H5 t5 e5 ht5 => ?_⟩⟩
      refine q4 _ H5 e5 ⟨t5, _, rfl, ht5, ?_⟩
      have hgd : ws.getD i [] = wi := by rw [List.getD_eq_getElem?_getD, hw1]; rfl
      have hset := dpa_set (Dp.up (e24.trans e5) (show Dp K H2 x (od (some wi)) from hw2)) r (DpAll.up (e24.trans e5) hx0)
      rw [← List.map_set] at hset
      rw [hgd, ← ptk_snoc (by omega), hpl]
      exact hset
    · rw [upTo_all] at hg
      have hrw := grown_rw hg
      have hL : (List.range ys.length).map (fun i => pre ++ [ws.getD i []]) = ws.map fun x => pre ++ [x] := by rw [hyl]; exact map_getD (fun x => pre ++ [x]) [] ws
      rw [hL] at hrw
      have hus3 := hrw.len
      rw [List.length_map] at hus3
      have e03 := e12.trans e3
      change tRet _ _ [some wv, some (.ref b0), some (.int (r : Int)), some (.ref D), none, none] H3
      refine ⟨.ref D, rfl, D, rfl, ⟨us3, sq_of hD3⟩, fun D2 hD2 => ?_⟩
      refine grow_lc (Y := fun i u H => RowAt K rows.length H u ((ws.map fun x => pre ++ [x]).getD i [])) (walk_list (K := K) (a := D) (xs := us3)) row_good (fun i => okP rows ((ws.map fun x => pre ++ [x]).getD i [])) hD2 (by omega) (fun H' e => sq_of (e _ _ hD3)) (fun x => rfl) (fun i x H' e hi hy => ?_) (fun i x H' e hi hy _ => ?_) (fun us4 H4 e4 hD4 hg4 => ?_)
      · obtain ⟨pr, hp1, hr1'⟩ := hrw.at hy
        have hgd : (ws.map fun x => pre ++ [x]).getD i [] = pr := by rw [List.getD_eq_getElem?_getD, hp1]; rfl
        rw [hgd]
        have hprok : PreOk rows pr := by
          obtain ⟨y, hy1, rfl⟩ := List.mem_map.mp (List.mem_of_getElem? hp1)
          refine ⟨by rw [List.length_append, hpl]; show r + 1 ≤ _; omega, fun j z hz => ?_⟩
          by_cases c : j < pre.length
          · rw [List.getElem?_append_left c] at hz
            exact hpre.2 j z hz
          · rw [List.getElem?_append_right (by omega)] at hz
            have hj : j = r := by
              have := (List.getElem?_eq_some_iff.mp hz).1
              simp at this
              omega
            subst hj
            rw [hpl, Nat.sub_self] at hz
            have ez : y = z := by simpa using hz
            subst ez
            exact hp.mem_iff.mp hy1
        have ez : okP rows pr = decide (fcsV (fcs rows (ptk rows.length pr) (rows.length - 1) 1) = V.non) := by
          rw [fcsV_none]
          rfl
        rw [ez]
        obtain ⟨bx, xx, rfl, hbx, hxx⟩ := hr1'.up e
        exact et_test (ev_op (ev_call (ea_cons (ev_var rfl) (ea_cons (ev_var rfl) ea_nil)) (spP_v fun H5 e5 => ⟨wv, .ref bx, rows, ptk rows.length pr, rfl, hw.up ((e03.trans e).trans e5), .tup (st_of (e5 _ _ hbx)) (DpAll.up e5 hxx), hprok.tk, rfl⟩)) ev_c fun H5 e5 Q2 q => ⟨rfl, q H5 (Ex.refl H5)⟩)
      · intro H5 e5 Q5 q5
        obtain ⟨pr, hp1, hr1'⟩ := hrw.at hy
        have hgd : (ws.map fun x => pre ++ [x]).getD i [] = pr := by rw [List.getD_eq_getElem?_getD, hp1]; rfl
        exact ⟨x, rfl, q5 _ H5 (Ex.refl _) (by rw [hgd]; exact hr1'.up (e.trans e5))⟩
      · have hrw4 := grown_rw hg4
        have hL4 : (upTo (fun i => okP rows ((ws.map fun x => pre ++ [x]).getD i [])) us3.length).map (fun i => (ws.map fun x => pre ++ [x]).getD i []) = fol rows ws pre := by
          unfold fol upTo
          rw [hus3, ← List.length_map (f := fun x => pre ++ [x])]
          exact filter_getD (okP rows) [] (ws.map fun x => pre ++ [x])
        rw [hL4] at hrw4
        exact k H4 D2 us4 ws (e03.trans e4) (fresh_back e03 hD2) hD4 ha hp hrw4
/-! [x for row in rows for x in f(row)] -/
theorem lc2_rows {tl tu te : TE} {i j n : Nat} {vs vs1 : List Nat} {σ : L2.St} {H : Hp} {a : Addr} {us : List V} {L : List (List Wy)} {Fo : List Wy → List (List Wy)} {Q : VK} (h : Ev tl σ H (.ref a)) (ha : H a = some (.lst us)) (hr : RwT K n H us L) (hz : (L.flatMap Fo).length ≤ 40000) (hz2 : ∀ pre ∈ L, (Fo pre).length ≤ 40000)
    (hw : ∀ x, wipe ((wipe σ vs).set i (some x)) vs = wipe σ vs) (hw1 : ∀ x y, wipe ((wipe ((wipe σ vs).set i (some x)) vs1).set j (some y)) vs1 = wipe ((wipe σ vs).set i (some x)) vs1)
    (hu : ∀ (u : V) (pre : List Wy) (H1 : Hp), Ex H H1 → pre ∈ L → RowAt K n H1 u pre → ∀ Q' : VK, (∀ H2 l ys, Ex H1 H2 → H1 l = none → H2 l = some (.lst ys) → RwT K n H2 ys (Fo pre) → Q' (.ref l) H2) → tu ((wipe σ vs).set i (some u)) H1 Q')
    (he : ∀ x y H1, Ev te ((wipe ((wipe σ vs).set i (some x)) vs1).set j (some y)) H1 y)
    (k : ∀ D H1 ys, H D = none → Ex H H1 → H1 D = some (.lst ys) → RwT K n H1 ys (L.flatMap Fo) → Q (.ref D) H1) :
    tLc2 (iList K tl) (gName i) tYes (iList K tu) (gName j) tYes te vs vs1 σ H Q := h H (Ex.refl _) _ fun H1 e1 => by
  have hul := hr.len
  refine ⟨a, rfl, ⟨us, sq_of (e1 _ _ ha)⟩, fun D hD => ?_⟩
  refine ⟨fun m z Hx => z = us.length - m ∧ m ≤ us.length ∧ Ex H1 Hx ∧ ∃ acc, Hx D = some (.lst acc) ∧ RwT K n (off D Hx) acc ((L.take m).flatMap Fo), ⟨us.length, by simp, Nat.zero_le _, Ex.new hD, [], upd_same, .nil⟩, ?_⟩
  rintro m z H2 ⟨rfl, hm, e2, acc, hD2, hacc⟩
  have s2 : SqL K H2 a us := sq_of (e2 _ _ (e1 _ _ ha))
  by_cases lt : m < us.length
  · refine .inr ⟨walk_list.goes m H2 lt s2, fun Hx => Ex H1 Hx ∧ ∃ acc, Hx D = some (.lst acc) ∧ RwT K n (off D Hx) acc ((L.take (m + 1)).flatMap Fo), fun Hx p => ⟨us.length - (m + 1), by omega, rfl, lt, p⟩, fun x H3 hy => ?_⟩
    obtain ⟨rfl, hx⟩ := walk_list.yields m H2 x H3 lt s2 hy
    obtain ⟨pre, hp1, hp2⟩ := hr.at hx
    have hpm := List.mem_of_getElem? hp1
    have hft : (L.take (m + 1)).flatMap Fo = (L.take m).flatMap Fo ++ Fo pre := by
      rw [take_snoc hp1, List.flatMap_append]
      simp
    rw [hft]
    have hlen : ((L.take m).flatMap Fo).length + (Fo pre).length ≤ 40000 := by
      have h1 : ((L.take (m + 1)).flatMap Fo).length ≤ (L.flatMap Fo).length := by
        conv => rhs; rw [← List.take_append_drop (m + 1) L, List.flatMap_append, List.length_append]
        omega
      rw [hft, List.length_append] at h1
      omega
    generalize (L.take m).flatMap Fo = A at *
    refine ⟨hw _, et_yes H3 (Ex.refl _) _ fun H4 e4 => ?_⟩
    rw [if_pos rfl]
    refine hu x pre H4 ((e1.trans e2).trans e4) hpm (hp2.up ((e1.trans e2).trans e4)) _ fun H5 l ys e5 nl hl hys => ?_
    have e45 := e4.trans e5
    have hD5 := e45 _ _ hD2
    have nlD : l ≠ D := fun z => by rw [z, e4 _ _ hD2] at nl; cases nl
    have hyl := hys.len
    refine ⟨l, rfl, ⟨ys, sq_of hl⟩, fun q z' Hx => z' = ys.length - q ∧ q ≤ ys.length ∧ Ex H1 Hx ∧ Hx l = some (.lst ys) ∧ RwT K n (off D Hx) ys (Fo pre) ∧ ∃ acc, Hx D = some (.lst acc) ∧ RwT K n (off D Hx) acc (A ++ (Fo pre).take q), ⟨ys.length, by simp, Nat.zero_le _, e2.trans e45, hl, hys.off hD5, acc, hD5, by simpa using hacc.up (off_ex e45)⟩, ?_⟩
    rintro q z' H6 ⟨rfl, hq, e6, hl6, hys6, acc6, hD6, hacc6⟩
    by_cases ltq : q < ys.length
    · refine .inr ⟨walk_list.goes q H6 ltq (sq_of hl6), fun Hx => Ex H1 Hx ∧ Hx l = some (.lst ys) ∧ RwT K n (off D Hx) ys (Fo pre) ∧ ∃ acc, Hx D = some (.lst acc) ∧ RwT K n (off D Hx) acc (A ++ (Fo pre).take (q + 1)), fun Hx p => ⟨ys.length - (q + 1), by omega, rfl, ltq, p⟩, fun y H7 hyy => ?_⟩
      obtain ⟨rfl, hyk⟩ := walk_list.yields q H6 y H7 ltq (sq_of hl6) hyy
      obtain ⟨py, hy1, hy2⟩ := hys6.at hyk
      refine ⟨hw1 _ _, et_yes H7 (Ex.refl _) _ fun H8 e8 => ?_⟩
      rw [if_pos rfl]
      refine he x y H8 H8 (Ex.refl _) _ fun H9 e9 => ?_
      have e89 := e8.trans e9
      have hl2 := hacc6.len
      rw [List.length_append, List.length_take] at hl2
      refine ⟨acc6, e89 _ _ hD6, sz_lt (by omega), ?_⟩
      refine ⟨Ex.mut (e6.trans e89) hD, by rw [upd_ne nlD]; exact e89 _ _ hl6, ?_, acc6 ++ [y], upd_same, ?_⟩
      · rw [off_upd]
        exact hys6.up (off_ex e89)
      · rw [off_upd, take_snoc hy1, ← List.append_assoc]
        exact (hacc6.up (off_ex e89)).app (.cons (hy2.up (off_ex e89)) .nil)
    · have eq : q = ys.length := by omega
      subst eq
      refine .inl ⟨walk_list.stops H6 (sq_of hl6), e6, acc6, hD6, ?_⟩
      rw [List.take_of_length_le (by omega)] at hacc6
      exact hacc6
  · have em : m = us.length := by omega
    subst em
    rw [List.take_of_length_le (by omega)] at hacc
    exact .inl ⟨walk_list.stops H2 s2, k D H2 acc (fresh_back e1 hD) (e1.trans e2) hD2 (hacc.up (off_in D H2))⟩
/-! outcomes -/
def spOcs (K : PySem.W.Frag) (CW CT : Addr) : Sp := fun vs H Q E => ∃ (wv : V) (rows : List (List Wy)), vs = [wv] ∧ WO CW H wv rows ∧ ((tks rows : Int) ≤ 20000 → ∀ H' l us L, Ex H H' → H l = none → H' l = some (.lst us) → RwT K rows.length H' us L → StgI rows (rows.length - 1) L → Q (.ref l) H') ∧
  (20000 < (tks rows : Int) → ∀ dx H', H dx = none → Ex H H' → H' dx = some (.xd [("most", .int 20000)]) → E (.ref CT) (some dx) H')
abbrev sOcs : Stmt := top 55
abbrev nOcs : List Str := ["wishes", "rows", "router", "row", "longer"]
theorem scOcs : FnScope nOcs ["wishes"] (defScope sOcs) := ⟨rfl, rfl, rfl, by decide +kernel, rfl, by decide +kernel, by decide +kernel⟩
theorem tks_mono {rows : List (List Wy)} (i : Nat) : tks (rows.take i) ≤ tks rows := by
  conv => rhs; rw [← List.take_append_drop i rows, tks_append]
  have := tks_pos (rows.drop i)
  exact Nat.le_mul_of_pos_right _ this
theorem ok_ocs (B : Bl mg) (T : WTx K mg CW) {tm : Tok} (hM : mg "MOST_TAKINGS" = some (.int 20000 tm)) (CR : CalX P w K mg base "refuse_more_takings" ["wishes", "most"] 7 (spRMT CW CT)) (CNo : Cal P w K mg base "no_items" ["wishes"] 1 (spNoI K CW)) (CF : Cal P w K mg base "followed_up" ["wishes", "items", "router"] 8 (spFol K CW)) (F : FnP K "outcomes" sOcs f fd) : FnOk P w K mg base (L2.CX P w) 9 f fd ["wishes"] (spOcs K CW CT) := by
  obtain ⟨fR, fdR, FR, gR, kR, bR⟩ := CR.ex
  refine F.ok scOcs (fun vs H Q E h => ?_) (fun cdv A outer s H vs Q E hr h => ?_)
  · obtain ⟨wv, rows, rfl, _⟩ := h
    rfl
  · obtain ⟨wv, rows, rfl, hw, kQ, kE⟩ := h
    have hr7 : Room 7 (A.deeper (envOfC "outcomes" (defScope sOcs) s.heap.objs.size f cdv)) := hr.mono (by decide)
    refine ⟨_, pss_cons (ps_expr (pe_call FR hr7 (by rfl) gR kR bR .nil (passes_call (takes_of rfl rfl rfl rfl) (fun _ _ _ _ h => h)) (pa_cons (pv 0) (pa_cons (pe_glob (v := .int 20000) (by rfl) hM ⟨_, rfl⟩) pa_nil))))
      (pss_cons (ps_set (i := 1) scOcs.nd rfl (Or.inl rfl) (pe_lst (pa_cons (pe_cal CNo hr (by rfl) (pa_cons (pv 0) pa_nil)) pa_nil)))
      (pss_cons (ps_for (passes_of rfl) rfl (pi_range2 (by rfl) B.range (pa_cons pe_int (pa_cons (pe_fld (pv 0) rfl) pa_nil))) (pg_name (i := 2) scOcs.nd rfl (Or.inr rfl))
        (pss_one (ps_setLc2 (i := 1) (own := [("row", 3), ("longer", 4)]) (vs1 := [4]) (g := gName 3) (g1 := gName 4) (tt := tYes) (tt1 := tYes) rfl scOcs.nd rfl rfl (sw_true rfl rfl rfl (by decide +kernel)) (pi_list (pv 1)) (blkOk_by (N := nOcs) (sc := defScope sOcs) (by decide +kernel)) (by decide)
          (fun _ _ _ _ _ => pg_name (i := 3) scOcs.nd rfl (Or.inl rfl)) (fun _ _ _ _ _ => pts_nil)
          (fun _ _ _ _ _ => pi_listK (K := K) rfl (pe_cal CF hr (by rfl) (pa_cons (pv 0) (pa_cons (pv 3) (pa_cons (pv 2) pa_nil)))))
          (fun _ _ _ _ _ => pg_name (i := 4) scOcs.nd rfl (Or.inl rfl)) (fun _ _ _ _ _ => pts_nil) (fun _ _ _ _ _ => pv 4))))
      (pss_one (ps_ret (pv 1))))), ?_⟩
    have hG := hw.g
    have n8 := hw.n8
    have n2 := hw.n2
    refine ⟨wv, rfl, ⟨wv, 20000, rows, rfl, hw, fun hle H1 e1 => ?_, fun hgt dx H' h0 e' hx => kE hgt dx H' h0 e' hx⟩⟩
    have hle' : tks rows ≤ 20000 := by omega
    dsimp only
    refine q_asgW ?_
    refine ⟨wv, rfl, wv, rows, rfl, hw.up e1, fun H2 b xs e2 hb hx => ⟨by show 1 ≤ sizeLine; decide, fun D0 hD0 => ?_⟩⟩
    have e3 := Ex.new (o := .lst [V.ref b]) hD0
    have hD3 : (upd H2 D0 (.lst [V.ref b])) D0 = some (.lst [V.ref b]) := upd_same
    have hr3 : RwT K rows.length (upd H2 D0 (.lst [V.ref b])) [.ref b] [[[0]]] := .cons ⟨b, xs, rfl, e3 _ _ hb, DpAll.up e3 hx⟩ .nil
    have e03 := (e1.trans e2).trans e3
    have hf3 := fresh_back (e1.trans e2) hD0
    generalize upd H2 D0 (.lst [V.ref b]) = H3 at *
    refine q_forR2 (ea_cons ev_c (ea_cons (ev_wsize T (ev_var rfl) (hw.up e03)) ea_nil)) (by omega) (fun i σ' H' => ∃ (D : Addr) (us : List V) (L : List (List Wy)) (o : Option V), σ' = [some wv, some (.ref D), o, none, none] ∧ Ex H H' ∧ H D = none ∧ H' D = some (.lst us) ∧ RwT K rows.length H' us L ∧ StgI rows i L) (fun H4 e4 => ⟨D0, _, _, none, rfl, e03.trans e4, hf3, e4 _ _ hD3, hr3.up e4, stg_start hG n2⟩) ?_ ?_
    · rintro i σ' H4 hi ⟨D, us, L, o, rfl, e4, hfD, hD, hrw, hS⟩
      have hin : i + 1 < rows.length := by omega
      have hrow : rows[i + 1]? = some rows[i + 1] := List.getElem?_eq_getElem hin
      -- the ways of this router, ascending
      obtain ⟨ws, ha, hp⟩ : ∃ ws, Asc ltW ws ∧ ws.Perm (chW rows (i + 1)) := asc_ex (chW_nd hG hin)
      have hfo : ∀ pre ws', Asc ltW ws' → ws'.Perm (chW rows (i + 1)) → fol rows ws' pre = fol rows ws pre := fun pre ws' h1 h2 => by
        rw [asc_ext sto_W h1 ha fun x => by rw [h2.mem_iff, hp.mem_iff]]
      have hS' := stg_step hin hS ha hp
      have hfew := Nat.le_trans hS'.few (tks_mono _)
      refine q_asgW_last ?_
      refine lc2_rows (K := K) (n := rows.length) (Fo := fol rows ws) (ev_var (i := 1) rfl) hD hrw (by omega) (fun pre hpre => ?_) (fun x => rfl) (fun x y => rfl) (fun u pre H5 e5 hpre hru Q' q' => ?_) (fun x y H1 => ev_var rfl) (fun D2 H5 ys nD e5 hD5 hys => ?_)
      · have : (fol rows ws pre).length ≤ ws.length := by
          unfold fol
          refine Nat.le_trans (List.length_filter_le _ _) ?_
          rw [List.length_map]
          exact Nat.le_refl _
        have h2 := hp.length_eq
        rw [chW_len hG hrow] at h2
        have := hw.r6 _ (List.getElem_mem hin)
        omega
      · obtain ⟨m1, m2, m3⟩ := (hS.mem pre).mp hpre
        refine ⟨wv, rfl, u, rfl, .int (1 + (i : Int)), rfl, ⟨wv, u, i + 1, rows, pre, ?_, hw.up (e4.trans e5), hru, m2, m1, by omega, hin, fun H6 l ys ws' e6 nl hl h1 h2 h3 => ?_⟩⟩
        · rw [show (1 : Int) + (i : Int) = ((i + 1 : Nat) : Int) by omega]
          rfl
        · rw [hfo pre ws' h1 h2] at h3
          exact q' H6 l ys e6 nl hl h3
      · exact ⟨D2, ys, _, some (.int (1 + (i : Int))), rfl, e4.trans e5, fresh_back e4 nD, hD5, hys, hS'⟩
    · rintro σ' H4 ⟨D, us, L, o, rfl, e4, hfD, hD, hrw, hS⟩
      rw [show ((rows.length : Int) - 1).toNat = rows.length - 1 by omega] at hS
      exact s_ret (ev_var (i := 1) (v := .ref D) rfl) fun H5 e5 => kQ hle H5 D us L (e4.trans e5) hfD (e5 _ _ hD) (hrw.up e5) hS
end
end Wk

set_option Elab.async false
set_option linter.all false
set_option maxRecDepth 100000
set_option maxHeartbeats 1000000
namespace Wk
open PySem PySem.Spec PyProof.Rows L2 Evl
/-! stands whose ways may be the module's -/
def StD (K : PySem.W.Frag) (H : Hp) (v : V) (ts ks : List Wy) : Prop := ∃ (sa ta ka : Addr) (txs kxs : List V), v = .ref sa ∧ H sa = some (.tup [.ref ta, .ref ka]) ∧ H ta = some (.tup txs) ∧ H ka = some (.tup kxs) ∧ DpAll K H txs (ts.map wd) ∧ DpAll K H kxs (ks.map wd)
theorem StD.up {K : PySem.W.Frag} {H H' : Hp} {v : V} {ts ks : List Wy} (e : Ex H H') (h : StD K H v ts ks) : StD K H' v ts ks := by
  obtain ⟨sa, ta, ka, txs, kxs, h1, h2, h3, h4, h5, h6⟩ := h
  exact ⟨sa, ta, ka, txs, kxs, h1, e _ _ h2, e _ _ h3, e _ _ h4, DpAll.up e h5, DpAll.up e h6⟩
theorem StD.dp {K : PySem.W.Frag} {H : Hp} {v : V} {ts ks : List Wy} (h : StD K H v ts ks) : Dp K H v (standD ts ks) := by
  obtain ⟨sa, ta, ka, txs, kxs, rfl, h2, h3, h4, h5, h6⟩ := h
  exact .tup (st_of h2) (.cons (.tup (st_of h3) h5) (.cons (.tup (st_of h4) h6) .nil))
theorem StD.of_dq {K : PySem.W.Frag} {H : Hp} {v : V} {ts ks : List Wy} (h : Dq H v (standD ts ks)) : StD K H v ts ks := by
  unfold standD at h
  cases h with
  | @tup sa sxs _ s1 s2 =>
  cases s2 with
  | @cons tv _ _ _ q1 q2 =>
  cases q2 with
  | @cons kv _ _ _ q3 q4 =>
  cases q4
  cases q1 with
  | @tup ta txs _ a1 a2 =>
  cases q3 with
  | @tup ka kxs _ b1 b2 =>
  exact ⟨sa, ta, ka, txs, kxs, rfl, s1, a1, b1, DqA.dp (lay_wds ts) a2, DqA.dp (lay_wds ks) b2⟩
theorem map_od (ws : List Wy) : (ws.map some).map od = ws.map wd := by
  rw [List.map_map]
  rfl
theorem StD.kp {K : PySem.W.Frag} {H H' : Hp} {v : V} {ts ks : List Wy} (k : Kp H H') (h : StD K H v ts ks) : StD K H' v ts ks := by
  obtain ⟨sa, ta, ka, txs, kxs, h1, h2, h3, h4, h5, h6⟩ := h
  have z5 := k.odsK (K := K) (xs := txs) (t := ts.map some) (by rw [map_od]; exact h5)
  have z6 := k.odsK (K := K) (xs := kxs) (t := ks.map some) (by rw [map_od]; exact h6)
  rw [map_od] at z5 z6
  exact ⟨sa, ta, ka, txs, kxs, h1, k.tup h2, k.tup h3, k.tup h4, z5, z6⟩
theorem dpw_at {K : PySem.W.Frag} {H : Hp} {xs : List V} {ws : List Wy} (h : DpAll K H xs (ws.map wd)) {i : Nat} (hi : i < ws.length) : ∃ v, xs[i]? = some v ∧ Dp K H v (wd ws[i]) := by
  have hl := dpa_len h
  rw [List.length_map] at hl
  have hx : xs[i]? = some xs[i] := List.getElem?_eq_getElem (by omega)
  obtain ⟨w, h1, h2⟩ := dpa_get h hx
  rw [List.getElem?_eq_getElem hi] at h1
  injection h1 with h1
  rw [h1]
  exact ⟨_, hx, h2⟩
theorem dpa_setp {K : PySem.W.Frag} {H : Hp} {v : V} {x : Wy} (hv : Dp K H v (wd x)) : ∀ {us : List V} {ws : List Wy} (i : Nat), DpAll K H us (ws.map wd) → DpAll K H (us.set i v) ((ws.set i x).map wd)
  | [], [], _, _ => .nil
  | [], _ :: _, _, h => by cases h
  | _ :: _, [], _, h => by cases h
  | u :: us, w :: ws, 0, .cons _ t => .cons hv t
  | u :: us, w :: ws, i + 1, .cons h t => .cons h (dpa_setp hv i t)
section
variable {P : Program} {w : World} {K : PySem.W.Frag} {mg : Str → Option Value} {base : Heap} {f : Addr} {fd : FuncData} {CW CN CK : Addr}
/-! most_wished -/
def spMW (K : PySem.W.Frag) : Sp := fun vs H Q _ => ∃ (ov tv : V) (rows : List (List Wy)) (r : Nat) (ks : List Wy), vs = [ov, tv] ∧ Dq H ov (.list ((rows.getD r []).map (offD (linesW rows) r))) ∧ (∃ (tb : Addr) (bs : List V), tv = .ref tb ∧ H tb = some (.tup bs) ∧ DpAll K H bs (ks.map wd)) ∧ GW rows ∧ rows.length ≤ 8 ∧ (∀ row ∈ rows, row.length ≤ 6) ∧ r < rows.length ∧ ks.length = (linesW rows).length ∧
  ∀ H' u, Ex H H' → Dq H' u (wd (chooseW rows ks r)) → Q u H'
abbrev sMW : Stmt := top 41
abbrev nMW : List Str := ["offers", "told", "way", "place"]
theorem scMW : FnScope nMW ["offers", "told"] (defScope sMW) := ⟨rfl, rfl, rfl, by decide +kernel, rfl, by decide +kernel, by decide +kernel⟩
theorem pl_two {rows : List (List Wy)} (hG : GW rows) (h8 : rows.length ≤ 8) {r : Nat} {row : List Wy} {w : Wy} (hr : rows[r]? = some row) (hw : w ∈ row) : (w.length = 2 → plW (linesW rows) [w.getD 1 0, (r : Int)] = none) ∧ (w.length ≠ 2 → plW (linesW rows) [w.getD 1 0, (r : Int)] = some ((linesW rows).idxOf [w.getD 1 0, (r : Int)]) ∧ [w.getD 1 0, (r : Int)] ∈ linesW rows) := by
  have ok := hG.ok r row hr w hw
  refine ⟨fun h2 => ?_, fun hn => ?_⟩
  · unfold plW
    refine if_neg fun hm => ?_
    obtain ⟨u, v, e, h1, _⟩ := ln_shape hG h8 hm
    have hlast := ok.lt
    rw [List.getLast?_eq_getElem?, h2] at hlast
    have e1 : w.getD 1 0 = 0 := by
      rw [List.getD_eq_getElem?_getD]
      show (w[1]?).getD 0 = 0
      rw [show w[1]? = some 0 from hlast]
      rfl
    rw [e1] at e
    injection e with e _
    omega
  · have hm := ln_way hG h8 hr hw (wy_sec ok hn)
    exact ⟨if_pos hm, hm⟩
theorem find_take {f : Wy → Bool} {row : List Wy} {i : Nat} {w : Wy} (h : row[i]? = some w) (hp : (row.take i).find? f = none) (hf : f w = true) : row.find? f = some w := by
  have e : row = row.take i ++ w :: row.drop (i + 1) := by
    have hi := (List.getElem?_eq_some_iff.mp h).1
    have z := List.take_append_drop i row
    rw [List.drop_eq_getElem_cons hi, (List.getElem?_eq_some_iff.mp h).2] at z
    exact z.symm
  rw [e, List.find?_append, hp, List.find?_cons, hf]
  rfl
theorem ok_mw (F : FnP K "most_wished" sMW f fd) : FnOk P w K mg base CX0 1 f fd ["offers", "told"] (spMW K) := by
  refine F.ok scMW (fun vs H Q E h => ?_) (fun cdv A outer s H vs Q E hr h => ?_)
  · obtain ⟨ov, tv, rows, r, ks, rfl, _⟩ := h
    rfl
  · obtain ⟨ov, tv, rows, r, ks, rfl, ho, ht, hG, h8, h6, hrn, hkl, k⟩ := h
    have hu4 : (A.deeper (envOfC "most_wished" (defScope sMW) s.heap.objs.size f cdv)).units + 64 < cLine := by have := hr.un; omega
    refine ⟨_, pss_cons (ps_for (passes_of rfl) rfl (pi_list (pv 0)) (pg_tup rfl (pgs_cons (pg_name (i := 2) scMW.nd rfl (Or.inl rfl)) (pgs_cons (pg_name (i := 3) scMW.nd rfl (Or.inl rfl)) pgs_nil)))
        (pss_one (ps_if (PW.pt (pw_or (pt_cmpR op_isN1 (pv 3) pe_non (nomark _)) (pw_or1 (pt_cmpR (op_eqD hu4) (pe_ix ix_tup (pv 1) (pv 3) (fun _ _ => rfl)) (pe_slice sl_tupA (pv 2) (po_some pe_int) po_none) (nomark _)))))
          (pss_one (ps_ret (pv 2))) pss_nil)))
      (pss_one (ps_ret (pe_tup pa_nil))), ?_⟩
    cases ho with
    | @lst oa us _ o1 o2 =>
    obtain ⟨tb, bs, rfl, t1, t2⟩ := ht
    have hol := o2.length
    have htl := dpa_len t2
    rw [List.length_map] at hol htl
    have hrw : rows[r]? = some rows[r] := List.getElem?_eq_getElem hrn
    have er : rows.getD r [] = rows[r] := by rw [List.getD_eq_getElem?_getD, hrw]; rfl
    have hpl : ∀ x ∈ rows[r], _ := fun x hx => pl_two hG h8 hrw hx
    have hrow6 := h6 _ (List.getElem_mem hrn)
    have hok : ∀ x ∈ rows[r], WyOk rows.length r x := hG.ok r _ hrw
    unfold chooseW at k
    rw [er] at o2 hol k
    generalize rows[r] = row at *
    refine q_forC (fun l xs H1 => l = oa ∧ xs = us ∧ Ex H H1) (fun Q q => (ev_var (i := 0) rfl : Ev (tVar 0) _ H (.ref oa)) H (Ex.refl _) _ fun H1 e1 => q oa us H1 ⟨rfl, rfl, e1⟩) ?_
    rintro l xs H1 ⟨rfl, rfl, e1⟩
    refine ⟨sq_of (e1 _ _ o1), fun i σ' H' => Ex H H' ∧ (∃ o2 o3, σ' = [some (.ref l), some (.ref tb), o2, o3]) ∧ (row.take i).find? (hrB rows ks r) = none, ⟨e1, ⟨_, _, rfl⟩, by rw [List.take_zero]; rfl⟩, fun i σ' H' _ h => sq_of (h.1 _ _ o1), ?_, ?_⟩
    · rintro i x σ' H2 hx ⟨e2, ⟨p2, p3, rfl⟩, hno⟩
      obtain ⟨d, d1, d2⟩ := o2.get hx
      rw [List.getElem?_map] at d1
      cases hwi : row[i]? with
      | none => rw [hwi] at d1; cases d1
      | some wy =>
      rw [hwi] at d1
      have ed : d = offD (linesW rows) r wy := (Option.some.inj d1).symm
      subst ed
      have hm := List.mem_of_getElem? hwi
      have d3 := d2.mono e2
      unfold offD at d3
      cases d3 with
      | @tup pa ps _ q1 q2 =>
      cases q2 with
      | @cons wv _ _ _ w1 q3 =>
      cases q3 with
      | @cons pv' _ _ _ w2 q4 =>
      cases q4
      refine ⟨pa, _, rfl, st_of q1, rfl, ?_⟩
      refine g_two ?_
      obtain ⟨wa, rfl, hwa⟩ := wd_ref w1
      have wl2 := (hok wy hm).l2
      change tIfS _ _ _ _ [some (.ref l), some (.ref tb), some (.ref wa), some pv'] H2
      have v2 : ∀ {H3 : Hp}, Ev (tVar 2) [some (.ref l), some (.ref tb), some (.ref wa), some pv'] H3 (.ref wa) := ev_var rfl
      have v3 : ∀ {H3 : Hp}, Ev (tVar 3) [some (.ref l), some (.ref tb), some (.ref wa), some pv'] H3 pv' := ev_var rfl
      refine s_when (b := hrB rows ks r wy) ?_ (fun hb H3 e3 => ?_) (fun hb H3 e3 => ⟨e2.trans e3, ⟨_, _, rfl⟩, ?_⟩)
      · unfold hrB
        by_cases h2 : wy.length = 2
        · rw [(hpl wy hm).1 h2] at w2
          cases w2
          refine et_or (a := decide (wy.length = 2)) (et_test (ev_op v3 ev_c ?_)) fun z => ?_
          · rw [decide_eq_true h2]
            exact fun H3 e3 Q3 q => ⟨rfl, q H3 (Ex.refl _)⟩
          · exact absurd h2 (of_decide_eq_false z)
        · obtain ⟨z1, z2⟩ := (hpl wy hm).2 h2
          rw [z1] at w2
          cases w2
          have hkx : (linesW rows).idxOf [wy.getD 1 0, (r : Int)] < ks.length := by rw [hkl]; exact List.idxOf_lt_length_iff.mpr z2
          have hkg := List.getElem?_eq_getElem hkx
          have egk : ks.getD ((linesW rows).idxOf [wy.getD 1 0, (r : Int)]) [] = ks[(linesW rows).idxOf [wy.getD 1 0, (r : Int)]] := by rw [List.getD_eq_getElem?_getD, hkg]; rfl
          obtain ⟨kv, hkv, hkd⟩ := dpw_at t2 hkx
          rw [egk]
          generalize (linesW rows).idxOf [wy.getD 1 0, (r : Int)] = ji at *
          refine et_or (a := decide (wy.length = 2)) (et_test (ev_op v3 ev_c ?_)) fun _ => et_test ?_
          · rw [decide_eq_false h2]
            exact fun H3 e3 Q3 q => ⟨rfl, q H3 (Ex.refl _)⟩
          · refine ev_is (ev_eqTail (K := K) (o := some ks[ji]) (u := wy.drop 1) (ev_at (K := K) (j := ji) (ev_var (i := 1) rfl) (st_of (e2 _ _ t1)) v3 hkv) (Dp.up e2 hkd) (eq_tail (K := K) v2 (st_of hwa))) ?_
            congr 1
            rw [decide_eq_decide]
            exact ⟨fun z => by injection z, fun z => by rw [z]⟩
      · refine s_ret (v := .ref wa) (ev_var rfl) fun H4 e4 => k H4 _ ((e2.trans e3).trans e4) ?_
        rw [find_take hwi hno hb]
        exact wd_of ((e3.trans e4) _ _ hwa)
      · rw [take_snoc hwi, List.find?_append, hno, List.find?_cons, hb]
        rfl
    · rintro σ' H2 ⟨e2, ⟨p2, p3, rfl⟩, hno⟩
      rw [hol, List.take_length] at hno
      rw [hno] at k
      refine ret_any ?_
      exact (eu_tup ea_nil (by simp)) H2 (Ex.refl _) _ fun p H3 np e3 hp => k H3 _ (e2.trans e3) (.tup hp .nil)
end
end Wk

set_option Elab.async false
set_option linter.all false
set_option maxRecDepth 100000
set_option maxHeartbeats 1000000
namespace Wk
open PySem PySem.Spec PyProof.Rows L2 Evl
/-! values that may be new: a way -/
def EvWp (K : PySem.W.Frag) (te : TE) (σ : L2.St) (H : Hp) (x : Wy) : Prop := ∀ H1, Ex H H1 → ∀ Q : VK, (∀ u H2, Ex H1 H2 → Dp K H2 u (wd x) → Q u H2) → te σ H1 Q
theorem q_asgWp {K : PySem.W.Frag} {te : TE} {tz : TS} {D : Ends} {σ : L2.St} {H : Hp} {i : Nat} {x : Wy} (h : EvWp K te σ H x) (k : ∀ u H', Ex H H' → Dp K H' u (wd x) → tz D (σ.set i (some u)) H') : tSeq (tAsg te (gName i)) tz D σ H := h H (Ex.refl _) _ fun u H' e hu => k u H' e hu
theorem t_ifB {tt : TT} {ta tb : TE} {σ : L2.St} {H : Hp} {b : Bool} {Q : VK} (ht : EvT tt σ H b) (hy : b = true → ∀ H1, Ex H H1 → ta σ H1 Q) (hn : b = false → ∀ H1, Ex H H1 → tb σ H1 Q) : tIf tt ta tb σ H Q := ht H (Ex.refl _) _ fun H1 e1 => by
  cases b with
  | true => exact hy rfl H1 e1
  | false => exact hn rfl H1 e1
theorem rv_eqWp {K : PySem.W.Frag} {σ : L2.St} {H : Hp} {tv tw : TE} {v u : V} {x y : Wy} (h : Ev tv σ H v) (h2 : Ev tw σ H u) (hx : Dp K H v (wd x)) (hy : Dp K H u (wd y)) : Ev (tOp (rEqD K) tv tw) σ H (.bl (decide (x = y))) :=
  ev_op h h2 fun H1 e1 Q q => ⟨wd x, wd y, Dp.up e1 hx, Dp.up e1 hy, shaped_wd _, shaped_wd _, by
    rw [eqv_wd]
    exact q H1 (Ex.refl _)⟩
/-! what is heard -/
theorem heard_tell {rows : List (List Wy)} {ts : List Wy} (hG : GW rows) (h8 : rows.length ≤ 8) (hT : FullT rows ts) {u v : Nat} (hp : [(u : Int), (v : Int)] ∈ linesW rows) : tellW rows ts [(u : Int), (v : Int)] = if ts.getD u [] ∈ restsW rows [(u : Int), (v : Int)] then ts.getD u [] else [] := by
  obtain ⟨u', v', e', hu1, hun, hv1, hvn⟩ := ln_shape hG h8 hp
  injection e' with e1 e'
  injection e' with e2 _
  obtain rfl : u = u' := by omega
  obtain rfl : v = v' := by omega
  clear e1 e2
  unfold tellW restsW
  show (if ((v : Int) :: ts.getD u []) ∈ rows.getD v [] then ts.getD u [] else []) = if ts.getD u [] ∈ ((rows.getD v []).filter fun w => decide (w.getD 1 0 = (u : Int))).map (List.drop 1) then ts.getD u [] else []
  have hrv : rows[v]? = some rows[v] := List.getElem?_eq_getElem hvn
  have egv : rows.getD v [] = rows[v] := by rw [List.getD_eq_getElem?_getD, hrv]; rfl
  have hok := hG.ok v _ hrv
  rw [egv]
  have htun : u < ts.length := by rw [hT.len]; exact hun
  have htu : ts[u]? = some ts[u] := List.getElem?_eq_getElem htun
  have egt : ts.getD u [] = ts[u] := by rw [List.getD_eq_getElem?_getD, htu]; rfl
  have hch := hT.ok u _ htu
  rw [egt]
  generalize ts[u] = t at *
  have key : ((v : Int) :: t) ∈ rows[v] ↔ t ∈ (rows[v].filter fun w => decide (w.getD 1 0 = (u : Int))).map (List.drop 1) := by
    rw [List.mem_map]
    constructor
    · intro h
      refine ⟨(v : Int) :: t, List.mem_filter.mpr ⟨h, decide_eq_true ?_⟩, rfl⟩
      have h2 := (hok _ h).l2
      unfold chW at hch
      rw [if_neg (by omega)] at hch
      rcases List.mem_append.mp hch with z | z
      rotate_left
      · rw [List.mem_singleton.mp z] at h2
        simp at h2
      · rw [List.getD_eq_getElem?_getD] at z
        have hru : rows[u]? = some rows[u] := List.getElem?_eq_getElem hun
        rw [hru] at z
        have hh := (hG.ok u _ hru t z).hd
        cases t with
        | nil => simp at h2
        | cons a t =>
          simp at hh
          simp [hh]
    · rintro ⟨x, hx, rfl⟩
      obtain ⟨x1, x2⟩ := List.mem_filter.mp hx
      have ok := hok x x1
      cases x with
      | nil => have := ok.l2; simp at this
      | cons a x =>
        have hh := ok.hd
        simp at hh
        subst hh
        exact x1
  by_cases c : ((v : Int) :: t) ∈ rows[v]
  · rw [if_pos c, if_pos (key.mp c)]
  · rw [if_neg c, if_neg fun z => c (key.mpr z)]
theorem getD_lt {α : Type} {l : List α} {i : Nat} {c : α} (h : i < l.length) : l.getD i c = l[i] := by rw [List.getD_eq_getElem?_getD, List.getElem?_eq_getElem h]; rfl
theorem set_same {l : List Wy} {i : Nat} {x : Wy} (h : i < l.length) : l.set i x = l ↔ l[i] = x := by
  constructor
  · intro z
    have e : (l.set i x)[i]? = l[i]? := by rw [z]
    rw [List.getElem?_set_self h, List.getElem?_eq_getElem h] at e
    exact (Option.some.inj e).symm
  · intro z
    rw [← z]
    exact List.set_getElem_self h
section
variable {P : Program} {w : World} {K : PySem.W.Frag} {mg : Str → Option Value} {base : Heap} {f : Addr} {fd : FuncData} {CW CN CK : Addr}
/-! changed -/
def spCh (K : PySem.W.Frag) (CK CW : Addr) : Sp := fun vs H Q _ => ∃ (x wv : Addr) (rows : List (List Wy)) (sv stv : V) (ts ks : List Wy) (s : Stp), vs = [.ref x, sv, stv] ∧ WkO CK CW H x (.ref wv) rows ∧ StD K H sv ts ks ∧ StOk rows ts ks ∧ Dq H stv (stepD s) ∧ StpOk rows s ∧
  (mvW rows ts ks s = (ts, ks) → ∀ H', Ex H H' → Q .non H') ∧ (mvW rows ts ks s ≠ (ts, ks) → ∀ H' u, Ex H H' → StD K H' u (mvW rows ts ks s).1 (mvW rows ts ks s).2 → u ≠ .non → Q u H')
abbrev sCh : Stmt := top 40
abbrev nCh : List Str := ["works", "stand", "step", "takes", "told", "place", "heard", "router", "taken"]
theorem scCh : FnScope nCh ["works", "stand", "step"] (defScope sCh) := ⟨rfl, rfl, rfl, by decide +kernel, rfl, by decide +kernel, by decide +kernel⟩
theorem ok_ch (T : KTx K mg CK) (CR : Cal P w K mg base "replaced" nRepl 1 spRepl) (CM : Cal P w K mg base "most_wished" ["offers", "told"] 1 (spMW K)) (F : FnP K "changed" sCh f fd) : FnOk P w K mg base CX0 2 f fd ["works", "stand", "step"] (spCh K CK CW) := by
  refine F.ok scCh (fun vs H Q E h => ?_) (fun cdv A outer s H vs Q E hr h => ?_)
  · obtain ⟨x, wv, rows, sv, stv, ts, ks, st, rfl, _⟩ := h
    rfl
  · obtain ⟨x, wv, rows, sv, stv, ts, ks, st, rfl, hk, hsv, hS, hst, hok, kN, kY⟩ := h
    have r1 : Room 1 _ := hr.mono (by decide)
    have hu : (A.deeper (envOfC "changed" (defScope sCh) s.heap.objs.size f cdv)).units + 65 < cLine := by have := hr.un; omega
    have hu4 : (A.deeper (envOfC "changed" (defScope sCh) s.heap.objs.size f cdv)).units + 64 < cLine := by omega
    have hu1 : (A.deeper (envOfC "changed" (defScope sCh) s.heap.objs.size f cdv)).units + 1 < cLine := by omega
    refine ⟨_, pss_cons (ps_asg (pv 1) (pg_tup rfl (pgs_cons (pg_name (i := 3) scCh.nd rfl (Or.inl rfl)) (pgs_cons (pg_name (i := 4) scCh.nd rfl (Or.inl rfl)) pgs_nil))))
      (pss_cons (ps_if (pt_cmpR op_eq (pe_ix ix_tup (pv 2) pe_int (fun _ _ => rfl)) pe_str (nomark _))
        (pss_cons (ps_set (i := 5) scCh.nd rfl (Or.inl rfl) (pe_dget hu1 (pe_fld (pv 0) rfl) (pe_slice sl_tupA (pv 2) (po_some pe_int) po_none) (fun _ _ => rfl)))
        (pss_cons (ps_set (i := 6) scCh.nd rfl (Or.inl rfl) (pe_ifExp (pt_cmpR (op_inD hu) (pe_ix ix_tup (pv 3) (pe_ix ix_tup (pv 2) pe_int (fun _ _ => rfl)) (fun _ _ => rfl)) (pe_ix (ix_listK (K := K) rfl) (pe_fld (pv 0) rfl) (pv 5) (fun _ _ => rfl)) rfl) (pe_ix ix_tup (pv 3) (pe_ix ix_tup (pv 2) pe_int (fun _ _ => rfl)) (fun _ _ => rfl)) (pe_tup pa_nil)))
        (pss_one (ps_ret (pe_ifExp (pt_cmpR (op_eqD hu4) (pe_ix ix_tup (pv 4) (pv 5) (fun _ _ => rfl)) (pv 6) (nomark _)) pe_non (pe_tup (pa_cons (pv 3) (pa_cons (pe_cal CR r1 (by rfl) (pa_cons (pv 4) (pa_cons (pv 5) (pa_cons (pv 6) pa_nil)))) pa_nil)))))))) pss_nil)
      (pss_cons (ps_set (i := 7) scCh.nd rfl (Or.inl rfl) (pe_ix ix_tup (pv 2) pe_int (fun _ _ => rfl)))
      (pss_cons (ps_set (i := 8) scCh.nd rfl (Or.inl rfl) (pe_cal CM r1 (by rfl) (pa_cons (pe_ix (ix_listK (K := K) rfl) (pe_fld (pv 0) rfl) (pv 7) (fun _ _ => rfl)) (pa_cons (pv 4) pa_nil))))
      (pss_one (ps_ret (pe_ifExp (pt_cmpR (op_eqD hu4) (pe_ix ix_tup (pv 3) (pv 7) (fun _ _ => rfl)) (pv 8) (nomark _)) pe_non (pe_tup (pa_cons (pe_cal CR r1 (by rfl) (pa_cons (pv 3) (pa_cons (pv 7) (pa_cons (pv 8) pa_nil)))) (pa_cons (pv 4) pa_nil))))))))), ?_⟩
    have hG := hk.wo.g
    have h8 := hk.wo.n8
    have h6 := hk.wo.r6
    obtain ⟨dx, Pd, Sd, fs, kvs, hv, ov, us, hx, fw, fp, fh, fo, fs', hP, hpk, hh, ho, hSd, hus⟩ := hk.ex
    obtain ⟨sa, ta, ka, txs, kxs, rfl, s1, a1, b1, a2, b2⟩ := hsv
    have tl := dpa_len a2
    have kl := dpa_len b2
    rw [List.length_map] at tl kl
    have hTl := hS.t.len
    have hKl := hS.kl
    have hll := lnw_len rows
    refine ⟨.ref sa, rfl, sa, _, rfl, st_of s1, rfl, g_two ?_⟩
    change tSeq _ _ _ [some (.ref x), some (.ref sa), some stv, some (.ref ta), some (.ref ka), none, none, none, none] H
    have v3 : ∀ {H1 : Hp} {o5 o6 o7 o8 : Option V}, Ev (tVar 3) [some (.ref x), some (.ref sa), some stv, some (.ref ta), some (.ref ka), o5, o6, o7, o8] H1 (.ref ta) := ev_var rfl
    have v4 : ∀ {H1 : Hp} {o5 o6 o7 o8 : Option V}, Ev (tVar 4) [some (.ref x), some (.ref sa), some stv, some (.ref ta), some (.ref ka), o5, o6, o7, o8] H1 (.ref ka) := ev_var rfl
    cases st with
    | inl p =>
      have hp : p ∈ linesW rows := hok
      obtain ⟨u, v, rfl, hu1', hun, hv1', hvn⟩ := ln_shape hG h8 hp
      have hst' : Dq H stv (.tuple (.str "tell" :: [PyData.int (u : Int), .int (v : Int)])) := hst
      cases hst' with
      | @tup pa pxs _ c1 c2 =>
      cases c2 with
      | @cons w0 _ _ _ d0 c3 =>
      cases d0
      cases c3 with
      | @cons w1 _ _ _ d1 c4 =>
      cases d1
      cases c4 with
      | @cons w2 _ _ _ d2 c5 =>
      cases d2
      cases c5
      have hidx : (linesW rows).idxOf [(u : Int), (v : Int)] < (linesW rows).length := List.idxOf_lt_length_iff.mpr hp
      have hmv : mvW rows ts ks (.inl [(u : Int), (v : Int)]) = (ts, ks.set ((linesW rows).idxOf [(u : Int), (v : Int)]) (tellW rows ts [(u : Int), (v : Int)])) := rfl
      have hget : (linesW rows)[(linesW rows).idxOf [(u : Int), (v : Int)]]? = some [(u : Int), (v : Int)] := by
        rw [List.getElem?_eq_getElem hidx, List.getElem_idxOf hidx]
      have htl := heard_tell hG h8 hS.t hp
      have hval : valV kvs (keyW [(u : Int), (v : Int)]) = some (.int (((linesW rows).idxOf [(u : Int), (v : Int)] : Nat) : Int)) := by
        have z := hpk [(u : Int), (v : Int)]
        unfold plW at z
        rw [if_pos hp] at z
        cases hq : valV kvs (keyW [(u : Int), (v : Int)]) with
        | none => rw [hq] at z; cases z
        | some y => rw [hq] at z; exact congrArg some z
      rw [hmv] at kN kY
      generalize tellW rows ts [(u : Int), (v : Int)] = hw at *
      generalize hj : (linesW rows).idxOf [(u : Int), (v : Int)] = j at *
      have hjk : j < ks.length := by omega
      have e0 : Ev (tOp (rIxT K) (tVar 2) (tC (.int 0))) [some (.ref x), some (.ref sa), some (.ref pa), some (.ref ta), some (.ref ka), none, none, none, none] H (.str "tell") := ev_at (K := K) (j := 0) (ev_var rfl) (st_of c1) (ev_is ev_c rfl) rfl
      refine q_when (b := true) (et_test (ev_is (ev_op e0 ev_c (rv_eq rfl)) (by decide +kernel))) (fun _ H1 e1 => ?_) (fun hb => by cases hb)
      refine q_asg (v := .int (j : Int)) (fun H2 e2 Q q => ?_) fun H2 e2 => ?_
      · have e12 := e1.trans e2
        refine (ev_wf (mg := mg) (σ := [some (.ref x), some (.ref sa), some (.ref pa), some (.ref ta), some (.ref ka), none, none, none, none]) (te := tVar 0) T.cl T.n2 (ev_var rfl) (e12 _ _ hx) fp) H2 (Ex.refl _) _ fun H3 e3 => ?_
        refine (es_sl (K := K) (lo := some 1) (hi := none) (te := tVar 2) (tl := tPart (tC (.int 1))) (th := tNoPart) (ev_var rfl) (eo_some ev_c) eo_none ((e12.trans e3) _ _ c1)) H3 (Ex.refl _) _ fun b H4 e4 hb => ?_
        refine ⟨Pd, .int (j : Int), rfl, ?_, q H4 (e3.trans e4)⟩
        have z := DGet.t (k := keyW [(u : Int), (v : Int)]) (((e12.trans e3).trans e4) _ _ hP) (b := b) (by rw [keyW_kV]; exact hb)
        rw [hval] at z
        exact z
      change tSeq _ _ _ [some (.ref x), some (.ref sa), some (.ref pa), some (.ref ta), some (.ref ka), some (.int (j : Int)), none, none, none] H2
      have e12 := e1.trans e2
      have htu : u < ts.length := by omega
      obtain ⟨tu, htu1, htu2⟩ := dpw_at a2 htu
      have egu : ts.getD u [] = ts[u] := getD_lt htu
      have htl' : hw = if ts[u] ∈ restsW rows [(u : Int), (v : Int)] then ts[u] else [] := by
        rw [htl, egu]
      have eT : ∀ {H3 : Hp}, Ex H2 H3 → Ev (tOp (rIxT K) (tVar 3) (tOp (rIxT K) (tVar 2) (tC (.int 1)))) [some (.ref x), some (.ref sa), some (.ref pa), some (.ref ta), some (.ref ka), some (.int (j : Int)), none, none, none] H3 tu := fun e => ev_at (K := K) (j := u) v3 (st_of ((e12.trans e) _ _ a1)) (ev_at (K := K) (j := 1) (ev_var rfl) (st_of ((e12.trans e) _ _ c1)) (ev_is ev_c rfl) rfl) htu1
      have hwd : EvWp K (tIf (tTest (tOp (rInD K) (tOp (rIxT K) (tVar 3) (tOp (rIxT K) (tVar 2) (tC (.int 1)))) (tOp (rIxL K) (tFld K (tVar 0) "heard") (tVar 5)))) (tOp (rIxT K) (tVar 3) (tOp (rIxT K) (tVar 2) (tC (.int 1)))) (tTup tNil)) [some (.ref x), some (.ref sa), some (.ref pa), some (.ref ta), some (.ref ka), some (.int (j : Int)), none, none, none] H2 hw := fun H3 e3 Q q => by
        have e13 := e12.trans e3
        cases hh with
        | @lst ha hxs _ f1 f2 =>
        obtain ⟨hl, hl1, hl2⟩ := f2.at (i := j) (d := .list ((restsW rows [(u : Int), (v : Int)]).map wd)) (by unfold heardD; rw [List.getElem?_map, hget]; rfl)
        have eH : Ev (tOp (rIxL K) (tFld K (tVar 0) "heard") (tVar 5)) [some (.ref x), some (.ref sa), some (.ref pa), some (.ref ta), some (.ref ka), some (.int (j : Int)), none, none, none] H3 hl := ev_op (ev_wf (mg := mg) T.cl T.n3 (ev_var (i := 0) rfl) (e13 _ _ hx) fh) (ev_var (i := 5) rfl) (rv_ixL (sq_of (e13 _ _ f1)) (atI_nat hl1))
        refine t_ifB (b := decide (ts[u] ∈ restsW rows [(u : Int), (v : Int)])) (et_test (rv_inWs (K := K) (eT e3) eH (fun H4 e4 => Dp.up (e13.trans e4) htu2) fun H4 e4 => hl2.mono (e13.trans e4))) (fun hb H4 e4 => ?_) (fun hb H4 e4 => ?_)
        · refine eT (e3.trans e4) H4 (Ex.refl _) _ fun H5 e5 => q _ H5 (e4.trans e5) ?_
          rw [htl', if_pos (of_decide_eq_true hb)]
          exact Dp.up (e13.trans (e4.trans e5)) htu2
        · refine (eu_tup ea_nil (by simp)) H4 (Ex.refl _) _ fun p H5 np e5 hp => q _ H5 (e4.trans e5) ?_
          rw [htl', if_neg (of_decide_eq_false hb)]
          exact .tup (st_of hp) .nil
      refine q_asgWp hwd fun hvv H3 e3 hhv => ?_
      change tRet _ _ [some (.ref x), some (.ref sa), some (.ref pa), some (.ref ta), some (.ref ka), some (.int (j : Int)), some hvv, none, none] H3
      have e13 := e12.trans e3
      obtain ⟨kj, hk1, hk2⟩ := dpw_at b2 hjk
      refine ret_any (t_ifB (b := decide (ks[j] = hw)) (et_test (rv_eqWp (K := K) (ev_at (K := K) (j := j) v4 (st_of (e13 _ _ b1)) (ev_var (i := 5) rfl) hk1) (ev_var (i := 6) rfl) (Dp.up e13 hk2) hhv)) (fun hb H4 e4 => ?_) (fun hb H4 e4 => ?_))
      · exact kN (by rw [(set_same hjk).mpr (of_decide_eq_true hb)]) H4 (e13.trans e4)
      · have e14 := e13.trans e4
        refine ⟨.ref ta, rfl, .ref ka, rfl, .int (j : Int), rfl, hvv, rfl, ka, j, hvv, kxs, rfl, e14 _ _ b1, by omega, by omega, fun H5 t e5 ht => ⟨by show 2 ≤ sizeLine; decide, fun R hR => ?_⟩⟩
        have e6 := Ex.new (o := .tup [V.ref ta, .ref t]) hR
        refine kY (fun z => ?_) _ (.ref R) ((e14.trans e5).trans e6) ?_ (by intro z; cases z)
        · have z2 : ks.set j hw = ks := congrArg Prod.snd z
          exact of_decide_eq_false hb ((set_same hjk).mp z2)
        · have e05 := (e14.trans e5).trans e6
          exact ⟨R, ta, t, txs, kxs.set j hvv, rfl, upd_same, e05 _ _ a1, e6 _ _ ht, DpAll.up e05 a2, dpa_setp (Dp.up ((e4.trans e5).trans e6) hhv) j (DpAll.up e05 b2)⟩
    | inr r =>
      obtain ⟨hr1, hrn⟩ := (show 1 ≤ r ∧ r < rows.length from hok)
      have hst' : Dq H stv (.tuple [.str "choose", .int (r : Int)]) := hst
      cases hst' with
      | @tup pa pxs _ c1 c2 =>
      cases c2 with
      | @cons w0 _ _ _ d0 c3 =>
      cases d0
      cases c3 with
      | @cons w1 _ _ _ d1 c4 =>
      cases d1
      cases c4
      have hmv : mvW rows ts ks (.inr r) = (ts.set r (chooseW rows ks r), ks) := rfl
      rw [hmv] at kN kY
      have e0 : Ev (tOp (rIxT K) (tVar 2) (tC (.int 0))) [some (.ref x), some (.ref sa), some (.ref pa), some (.ref ta), some (.ref ka), none, none, none, none] H (.str "choose") := ev_at (K := K) (j := 0) (ev_var rfl) (st_of c1) (ev_is ev_c rfl) rfl
      refine q_when (b := false) (et_test (ev_is (ev_op e0 ev_c (rv_eq rfl)) (by decide +kernel))) (fun hb => by cases hb) (fun _ H1 e1 => ?_)
      refine q_asg (v := .int (r : Int)) (ev_at (K := K) (j := 1) (ev_var rfl) (st_of (e1 _ _ c1)) (ev_is ev_c rfl) rfl) fun H2 e2 => ?_
      change tSeq _ _ _ [some (.ref x), some (.ref sa), some (.ref pa), some (.ref ta), some (.ref ka), none, none, some (.int (r : Int)), none] H2
      have e12 := e1.trans e2
      have hrt : r < ts.length := by omega
      have hwd : EvWp K (tCall (spMW K) [] E0 (tCons (tOp (rIxL K) (tFld K (tVar 0) "offers") (tVar 7)) (tCons (tVar 4) tNil))) [some (.ref x), some (.ref sa), some (.ref pa), some (.ref ta), some (.ref ka), none, none, some (.int (r : Int)), none] H2 (chooseW rows ks r) := fun H3 e3 Q q => by
        have e13 := e12.trans e3
        cases ho with
        | @lst oa oxs _ f1 f2 =>
        obtain ⟨ol, ol1, ol2⟩ := f2.at (i := r) (d := .list ((rows.getD r []).map (offD (linesW rows) r))) (by unfold offersD; rw [List.getElem?_map, List.getElem?_range hrn]; rfl)
        have eH : Ev (tOp (rIxL K) (tFld K (tVar 0) "offers") (tVar 7)) [some (.ref x), some (.ref sa), some (.ref pa), some (.ref ta), some (.ref ka), none, none, some (.int (r : Int)), none] H3 ol := ev_op (ev_wf (mg := mg) T.cl T.n4 (ev_var (i := 0) rfl) (e13 _ _ hx) fo) (ev_var (i := 7) rfl) (rv_ixL (sq_of (e13 _ _ f1)) (atI_nat ol1))
        refine eH H3 (Ex.refl _) _ fun H4 e4 => ⟨.ref ka, rfl, ol, .ref ka, rows, r, ks, rfl, ol2.mono (e13.trans e4), ⟨ka, kxs, rfl, (e13.trans e4) _ _ b1, DpAll.up (e13.trans e4) b2⟩, hG, h8, h6, hrn, hKl, fun H5 u e5 hu => q u H5 (e4.trans e5) (Dq.dp (SeqAt.canLay_of_shaped (shaped_wd _)) hu)⟩
      refine q_asgWp hwd fun hvv H3 e3 hhv => ?_
      change tRet _ _ [some (.ref x), some (.ref sa), some (.ref pa), some (.ref ta), some (.ref ka), none, none, some (.int (r : Int)), some hvv] H3
      have e13 := e12.trans e3
      generalize chooseW rows ks r = cw at *
      obtain ⟨tj, hk1, hk2⟩ := dpw_at a2 hrt
      refine ret_any (t_ifB (b := decide (ts[r] = cw)) (et_test (rv_eqWp (K := K) (ev_at (K := K) (j := r) v3 (st_of (e13 _ _ a1)) (ev_var (i := 7) rfl) hk1) (ev_var (i := 8) rfl) (Dp.up e13 hk2) hhv)) (fun hb H4 e4 => ?_) (fun hb H4 e4 => ?_))
      · exact kN (by rw [(set_same hrt).mpr (of_decide_eq_true hb)]) H4 (e13.trans e4)
      · have e14 := e13.trans e4
        refine ⟨.ref ta, rfl, .int (r : Int), rfl, hvv, rfl, ta, r, hvv, txs, rfl, e14 _ _ a1, by omega, by omega, fun H5 t e5 ht => ⟨.ref ka, rfl, by show 2 ≤ sizeLine; decide, fun R hR => ?_⟩⟩
        have e6 := Ex.new (o := .tup [V.ref t, .ref ka]) hR
        refine kY (fun z => ?_) _ (.ref R) ((e14.trans e5).trans e6) ?_ (by intro z; cases z)
        · have z2 : ts.set r cw = ts := congrArg Prod.fst z
          exact of_decide_eq_false hb ((set_same hrt).mp z2)
        · have e05 := (e14.trans e5).trans e6
          exact ⟨R, t, ka, txs.set r hvv, kxs, rfl, upd_same, e6 _ _ ht, e05 _ _ b1, dpa_setp (Dp.up ((e4.trans e5).trans e6) hhv) r (DpAll.up e05 a2), DpAll.up e05 b2⟩
/-! after -/
def spAft (K : PySem.W.Frag) (CK CW : Addr) : Sp := fun vs H Q _ => ∃ (x wv : Addr) (rows : List (List Wy)) (sv stv : V) (ts ks : List Wy) (s : Stp), vs = [.ref x, sv, stv] ∧ WkO CK CW H x (.ref wv) rows ∧ StD K H sv ts ks ∧ StOk rows ts ks ∧ Dq H stv (stepD s) ∧ StpOk rows s ∧
  ∀ H' u, Ex H H' → StD K H' u (mvW rows ts ks s).1 (mvW rows ts ks s).2 → Q u H'
abbrev sAft : Stmt := top 42
abbrev nAft : List Str := ["works", "stand", "step", "later"]
theorem scAft : FnScope nAft ["works", "stand", "step"] (defScope sAft) := ⟨rfl, rfl, rfl, by decide +kernel, rfl, by decide +kernel, by decide +kernel⟩
theorem ok_aft (CC : Cal P w K mg base "changed" ["works", "stand", "step"] 2 (spCh K CK CW)) (F : FnP K "after" sAft f fd) : FnOk P w K mg base CX0 3 f fd ["works", "stand", "step"] (spAft K CK CW) := by
  refine F.ok scAft (fun vs H Q E h => ?_) (fun cdv A outer s H vs Q E hr h => ?_)
  · obtain ⟨x, wv, rows, sv, stv, ts, ks, st, rfl, _⟩ := h
    rfl
  · obtain ⟨x, wv, rows, sv, stv, ts, ks, st, rfl, hk, hsv, hS, hst, hok, k⟩ := h
    refine ⟨_, pss_cons (ps_set (i := 3) scAft.nd rfl (Or.inl rfl) (pe_cal CC hr (by rfl) (pa_cons (pv 0) (pa_cons (pv 1) (pa_cons (pv 2) pa_nil)))))
      (pss_one (ps_ret (pe_ifExp (pt_cmpR op_isN1 (pv 3) pe_non (nomark _)) (pv 1) (pv 3)))), ?_⟩
    refine q_asgW ⟨.ref x, rfl, sv, rfl, stv, rfl, x, wv, rows, sv, stv, ts, ks, st, rfl, hk, hsv, hS, hst, hok, fun he H' e => ?_, fun hn H' u e hu nu => ?_⟩
    · change tRet _ _ [some (.ref x), some sv, some stv, some .non] H'
      refine ret_any (t_ifB (b := true) (et_test (ev_op (ev_var (i := 3) rfl) ev_c fun H3 e3 Q3 q => ⟨rfl, q H3 (Ex.refl _)⟩)) (fun hb H4 e4 => ⟨sv, rfl, k H4 sv (e.trans e4) ?_⟩) (fun hb => by cases hb))
      rw [he]
      exact hsv.up (e.trans e4)
    · change tRet _ _ [some (.ref x), some sv, some stv, some u] H'
      refine ret_any (t_ifB (b := false) (et_test (ev_op (ev_var (i := 3) rfl) ev_c fun H3 e3 Q3 q => ⟨rfl, ?_⟩)) (fun hb => by cases hb) (fun hb H4 e4 => ⟨u, rfl, k H4 u (e.trans e4) (hu.up e4)⟩))
      rw [decide_eq_false nu]
      exact q H3 (Ex.refl _)
end
end Wk

set_option Elab.async false
set_option linter.all false
set_option maxRecDepth 100000
set_option maxHeartbeats 1000000
namespace Wk
open PySem PySem.Spec PyProof.Rows L2
/-! with e: suite, of an own class whose exit lets nothing be -/
def tWith (C : Addr) (spE spX : Sp) (tc : TE) (tb : TS) : TS := fun D σ H => tc σ H fun v H1 => ∃ (x dx : Addr) (fs : List (Str × V)), v = .ref x ∧ H1 x = some (.ins C dx fs) ∧
  spE [.ref x] H1 (fun _ H2 => tb { nx := fun σ3 H3 => spX [.ref x, .non, .non, .non] H3 (fun _ H4 => D.nx σ3 H4) E0, rt := fun v3 H3 => spX [.ref x, .non, .non, .non] H3 (fun _ H4 => D.rt v3 H4) E0, bk := fun σ3 H3 => spX [.ref x, .non, .non, .non] H3 (fun _ H4 => D.bk σ3 H4) E0, ct := fun σ3 H3 => spX [.ref x, .non, .non, .non] H3 (fun _ H4 => D.ct σ3 H4) E0 } σ H2) E0
theorem ps_with {X : Cx} {ctx : Expr} {b₀ : Stmt} {bs : List Stmt} {pos : Pos} {tc : TE} {tb : TS} {C fe fx : Addr} {fdE fdX : FuncData} {psE psX : List Str} {k1 k2 : Nat} {spE spX : Sp}
    (hc : PE X ctx tc) (he : Meth X.K C "__enter__" fe) (hx : Meth X.K C "__exit__" fx) (FE : FnOk X.prog X.w X.K X.mg X.base CX0 k1 fe fdE psE spE) (FX : FnOk X.prog X.w X.K X.mg X.base CX0 k2 fx fdX psX spX) (hr1 : Room k1 X.A) (hr2 : Room k2 X.A)
    (bE : Binds X.K fdE psE []) (bX : Binds X.K fdX psX []) (hb : PSs X.nox (b₀ :: bs) tb) : PS X (.With [⟨ctx, none⟩] (b₀ :: bs) pos) (tWith C spE spX tc tb) := by
  refine ⟨fun pins s σ H D I h => ?_⟩
  refine PySem.W.kw_exec0 (thn (hc.run pins s σ H _ I h) fun u s1 ⟨v, H1, I1, rv, x, dx, fs, ev, hx1, q⟩ => ?_)
  subst ev
  obtain rfl : u = Value.ref x := rv
  obtain ⟨mA, O, _, _, _, _⟩ := ins_get I1.hok hx1
  obtain ⟨od, IA, _⟩ := O.look
  unfold PySem.W.KwIn
  refine PySem.W.kw_core0 I1.kIn IA he.at_ he.fn hx.at_ hx.fn ?_
  refine thn (run_fn (us := [.ref x]) (vs := [.ref x]) FE hr1 bE .nil pass0 I1 (.cons rfl .nil) q) fun u2 s2 ⟨v2, H2, I2, _, q2⟩ => ?_
  refine wpAny_mono (hb.run pins s2 σ H2 _ (I2.wish _) q2) (fun g s3 z => ?_) fun _ _ z => z
  have z' := SP.unwish z
  have hA : Vals [V.ref x, .non, .non, .non] [Value.ref x, .none, .none, .none] := .cons rfl (.cons rfl (.cons rfl (.cons rfl .nil)))
  cases g with
  | next =>
    obtain ⟨σ3, H3, I3, q3⟩ := z'
    exact thn (run_fn FX hr2 bX .nil pass0 I3 hA q3) fun u4 s4 ⟨v4, H4, I4, _, q4⟩ => ⟨σ3, H4, I4, q4⟩
  | brk =>
    obtain ⟨σ3, H3, I3, q3⟩ := z'
    exact thn (run_fn FX hr2 bX .nil pass0 I3 hA q3) fun u4 s4 ⟨v4, H4, I4, _, q4⟩ => ⟨σ3, H4, I4, q4⟩
  | cont =>
    obtain ⟨σ3, H3, I3, q3⟩ := z'
    exact thn (run_fn FX hr2 bX .nil pass0 I3 hA q3) fun u4 s4 ⟨v4, H4, I4, _, q4⟩ => ⟨σ3, H4, I4, q4⟩
  | ret w3 =>
    obtain ⟨v3, σ3, H3, I3, r3, q3⟩ := z'
    exact thn (run_fn FX hr2 bX .nil pass0 I3 hA q3) fun u4 s4 ⟨v4, H4, I4, _, q4⟩ => ⟨v3, σ3, H4, I4, r3, q4⟩
end Wk

set_option Elab.async false
set_option linter.all false
set_option maxRecDepth 100000
set_option maxHeartbeats 2000000
namespace Wk
open PySem PySem.Spec PyProof.Rows L2 Evl
/-! a stand stays one -/
theorem mv_ok {rows : List (List Wy)} {ts ks : List Wy} (hG : GW rows) (h8 : rows.length ≤ 8) (h : StOk rows ts ks) {s : Stp} (hs : StpOk rows s) : StOk rows (mvW rows ts ks s).1 (mvW rows ts ks s).2 := by
  cases s with
  | inl p =>
    have hp : p ∈ linesW rows := hs
    refine ⟨h.t, by show (ks.set _ _).length = _; rw [List.length_set]; exact h.kl, fun i x hx => ?_⟩
    have hx' : (ks.set ((linesW rows).idxOf p) (tellW rows ts p))[i]? = some x := hx
    by_cases c : i = (linesW rows).idxOf p
    · subst c
      have hj : (linesW rows).idxOf p < ks.length := by rw [h.kl]; exact List.idxOf_lt_length_iff.mpr hp
      rw [List.getElem?_set_self hj] at hx'
      have e : tellW rows ts p = x := Option.some.inj hx'
      have hd : (linesW rows).getD ((linesW rows).idxOf p) [] = p := by
        have hi := List.idxOf_lt_length_iff.mpr hp
        rw [List.getD_eq_getElem?_getD, List.getElem?_eq_getElem hi, List.getElem_idxOf hi]
        rfl
      rw [hd, ← e]
      obtain ⟨u, v, rfl, _⟩ := ln_shape hG h8 hp
      rw [heard_tell hG h8 h.t hp]
      split
      · rename_i hm
        exact ⟨.inr hm, Nat.le_trans (restLen hG hm) (by decide)⟩
      · exact ⟨.inl rfl, by simp⟩
    · rw [List.getElem?_set_ne (Ne.symm c)] at hx'
      exact h.ko i x hx'
  | inr r =>
    obtain ⟨hr1, hrn⟩ := (show 1 ≤ r ∧ r < rows.length from hs)
    refine ⟨⟨by show (ts.set _ _).length = _; rw [List.length_set]; exact h.t.len, fun i x hx => ?_⟩, h.kl, h.ko⟩
    have hx' : (ts.set r (chooseW rows ks r))[i]? = some x := hx
    by_cases c : i = r
    · subst c
      have hj : i < ts.length := by rw [h.t.len]; exact hrn
      rw [List.getElem?_set_self hj] at hx'
      rw [← (Option.some.inj hx' : chooseW rows ks i = x)]
      unfold chW chooseW
      rw [if_neg (by omega)]
      cases hq : (rows.getD i []).find? (hrB rows ks i) with
      | none => simp
      | some w => exact List.mem_append_left _ (List.mem_of_find?_eq_some hq)
    · rw [List.getElem?_set_ne (Ne.symm c)] at hx'
      exact h.t.ok i x hx'
abbrev St2 := List Wy × List Wy
def goW (rows : List (List Wy)) (st : St2) (s : Stp) : St2 := mvW rows st.1 st.2 s
def runW (rows : List (List Wy)) (st : St2) (ss : List Stp) : St2 := ss.foldl (goW rows) st
/-- the stands ahead of each step -/
def wayW (rows : List (List Wy)) (st : St2) : List Stp → List St2
  | [] => []
  | s :: ss => st :: wayW rows (goW rows st s) ss
def chgW (rows : List (List Wy)) (st : St2) : List Stp → Nat
  | [] => 0
  | s :: ss => (if goW rows st s = st then 0 else 1) + chgW rows (goW rows st s) ss
theorem runW_snoc (rows : List (List Wy)) (st : St2) (ss : List Stp) (s : Stp) : runW rows st (ss ++ [s]) = goW rows (runW rows st ss) s := by
  unfold runW
  rw [List.foldl_append]
  rfl
theorem wayW_snoc (rows : List (List Wy)) : ∀ (ss : List Stp) (st : St2) (s : Stp), wayW rows st (ss ++ [s]) = wayW rows st ss ++ [runW rows st ss]
  | [], st, s => rfl
  | a :: ss, st, s => by
    show st :: wayW rows (goW rows st a) (ss ++ [s]) = (st :: wayW rows (goW rows st a) ss) ++ [runW rows st (a :: ss)]
    rw [wayW_snoc rows ss]
    rfl
theorem chgW_snoc (rows : List (List Wy)) : ∀ (ss : List Stp) (st : St2) (s : Stp), chgW rows st (ss ++ [s]) = chgW rows st ss + (if goW rows (runW rows st ss) s = runW rows st ss then 0 else 1)
  | [], st, s => by
    show (if goW rows st s = st then 0 else 1) + 0 = 0 + (if goW rows st s = st then 0 else 1)
    omega
  | a :: ss, st, s => by
    show (if goW rows st a = st then 0 else 1) + chgW rows (goW rows st a) (ss ++ [s]) = ((if goW rows st a = st then 0 else 1) + chgW rows (goW rows st a) ss) + (if goW rows (runW rows st (a :: ss)) s = runW rows st (a :: ss) then 0 else 1)
    rw [chgW_snoc rows ss, Nat.add_assoc]
    rfl
theorem wayW_len (rows : List (List Wy)) : ∀ (ss : List Stp) (st : St2), (wayW rows st ss).length = ss.length
  | [], _ => rfl
  | a :: ss, st => by
    show (wayW rows (goW rows st a) ss).length + 1 = ss.length + 1
    rw [wayW_len rows ss]
theorem go_ok {rows : List (List Wy)} {st : St2} (hG : GW rows) (h8 : rows.length ≤ 8) (h : StOk rows st.1 st.2) {s : Stp} (hs : StpOk rows s) : StOk rows (goW rows st s).1 (goW rows st s).2 := mv_ok hG h8 h hs
theorem run_ok {rows : List (List Wy)} (hG : GW rows) (h8 : rows.length ≤ 8) : ∀ {ss : List Stp} {st : St2}, StOk rows st.1 st.2 → (∀ s ∈ ss, StpOk rows s) → StOk rows (runW rows st ss).1 (runW rows st ss).2
  | [], _, h, _ => h
  | a :: ss, st, h, hs => run_ok hG h8 (ss := ss) (st := goW rows st a) (go_ok hG h8 h (hs a List.mem_cons_self)) fun s hm => hs s (List.mem_cons_of_mem _ hm)
theorem way_ok {rows : List (List Wy)} (hG : GW rows) (h8 : rows.length ≤ 8) : ∀ {ss : List Stp} {st : St2}, StOk rows st.1 st.2 → (∀ s ∈ ss, StpOk rows s) → ∀ t ∈ wayW rows st ss, StOk rows t.1 t.2
  | [], _, _, _, t, ht => by cases ht
  | a :: ss, st, h, hs, t, ht => by
    rcases List.mem_cons.mp ht with z | z
    · rw [z]; exact h
    · exact way_ok hG h8 (go_ok hG h8 h (hs a List.mem_cons_self)) (fun s hm => hs s (List.mem_cons_of_mem _ hm)) t z
/-! tuples stay -/
structure Kt (H H' : Hp) : Prop where
  t : ∀ a xs, H a = some (.tup xs) → H' a = some (.tup xs)
  f : ∀ a u xs, H a = some (.frz u (.tup xs)) → H' a = some (.frz u (.tup xs))
theorem Kt.ex {H H' : Hp} (e : Ex H H') : Kt H H' := ⟨fun a _ h => e a _ h, fun a _ _ h => e a _ h⟩
theorem Kt.trans {H H1 H2 : Hp} (a : Kt H H1) (b : Kt H1 H2) : Kt H H2 := ⟨fun x xs h => b.t x xs (a.t x xs h), fun x u xs h => b.f x u xs (a.f x u xs h)⟩
theorem Kt.of1 {x C dx : Addr} {fs : List (Str × V)} {H H' : Hp} (o : Of1 x H H') (hx : H x = some (.ins C dx fs)) : Kt H H' :=
  ⟨fun a xs h => o a _ (fun z => by rw [z, hx] at h; cases h) h, fun a u xs h => o a _ (fun z => by rw [z, hx] at h; cases h) h⟩
theorem hd_keep {x pa C dx : Addr} {fs : List (Str × V)} {us : List V} {H : Hp} (hx : H x = some (.ins C dx fs)) (hp : H pa = some (.lst us)) {a : Addr} {o : HO} (h : H a = some o) (n1 : o ≠ .ins C dx fs) (n2 : o ≠ .lst us) : Hd H x pa a = some o := by
  unfold Hd
  rw [if_neg]
  · exact h
  · rintro (z | z)
    · rw [z, hx] at h
      exact n1 (Option.some.inj h).symm
    · rw [z, hp] at h
      exact n2 (Option.some.inj h).symm
theorem Kt.hd {x pa C dx : Addr} {fs : List (Str × V)} {us : List V} {H : Hp} (hx : H x = some (.ins C dx fs)) (hp : H pa = some (.lst us)) : Kt H (Hd H x pa) :=
  ⟨fun a xs h => hd_keep hx hp h (by intro z; cases z) (by intro z; cases z), fun a u xs h => hd_keep hx hp h (by intro z; cases z) (by intro z; cases z)⟩
theorem Kt.st {K : PySem.W.Frag} {H H' : Hp} {a : Addr} {xs : List V} (k : Kt H H') (h : SqT K H a xs) : SqT K H' a xs := h.imp (fun h => h.imp (fun h => k.t a _ h) fun ⟨u, h⟩ => ⟨u, k.f a u _ h⟩) id
theorem Kt.wd {K : PySem.W.Frag} {H H' : Hp} (k : Kt H H') {v : V} {w : Wy} (h : Dp K H v (wd w)) : Dp K H' v (wd w) := by
  obtain ⟨a, rfl, ha⟩ := dp_wd h
  exact dp_of_wd (k.st ha)
theorem Kt.wds {K : PySem.W.Frag} {H H' : Hp} (k : Kt H H') : ∀ {ws : List Wy} {vs : List V}, DpAll K H vs (ws.map Wk.wd) → DpAll K H' vs (ws.map Wk.wd)
  | [], _, .nil => .nil
  | _ :: _, _, .cons a b => .cons (k.wd a) (k.wds b)
theorem StD.kt {K : PySem.W.Frag} {H H' : Hp} {v : V} {ts ks : List Wy} (k : Kt H H') (h : StD K H v ts ks) : StD K H' v ts ks := by
  obtain ⟨sa, ta, ka, txs, kxs, h1, h2, h3, h4, h5, h6⟩ := h
  exact ⟨sa, ta, ka, txs, kxs, h1, k.t _ _ h2, k.t _ _ h3, k.t _ _ h4, k.wds h5, k.wds h6⟩
/-! without the talk and its past -/
theorem hd_sub {H : Hp} {x pa : Addr} : Ex (Hd H x pa) H := fun b u h => by
  unfold Hd at h
  split at h
  · cases h
  · exact h
theorem hd_at {H : Hp} {x pa b : Addr} (h1 : b ≠ x) (h2 : b ≠ pa) : Hd H x pa b = H b := by
  unfold Hd
  rw [if_neg (fun z => z.elim h1 h2)]
theorem hd_in {H : Hp} {x pa b : Addr} {u : HO} (h : Hd H x pa b = some u) : b ≠ x ∧ b ≠ pa ∧ H b = some u := by
  unfold Hd at h
  split at h
  · cases h
  · rename_i c
    exact ⟨fun z => c (.inl z), fun z => c (.inr z), h⟩
theorem hd_mono {H H' : Hp} {x pa : Addr} (e : Ex H H') : Ex (Hd H x pa) (Hd H' x pa) := fun b u h => by
  obtain ⟨h1, h2, h3⟩ := hd_in h
  rw [hd_at h1 h2]
  exact e _ _ h3
structure Tn (x pa pa' : Addr) (H H' : Hp) : Prop where
  off : ∀ b u, b ≠ x → b ≠ pa → H b = some u → H' b = some u
  sv : ∀ b, H' b = none → H b = none
  nw : pa' = pa ∨ H pa' = none
theorem ex_sv {H H' : Hp} (e : Ex H H') {b : Addr} (h : H' b = none) : H b = none := fresh_back e h
theorem Tn.refl (x pa : Addr) (H : Hp) : Tn x pa pa H H := ⟨fun _ _ _ _ h => h, fun _ h => h, .inl rfl⟩
theorem Tn.ex {x pa : Addr} {H H' : Hp} (e : Ex H H') : Tn x pa pa H H' := ⟨fun b u _ _ h => e b u h, fun _ h => ex_sv e h, .inl rfl⟩
theorem Tn.trans {x pa pb pc : Addr} {H H1 H2 : Hp} (a : Tn x pa pb H H1) (b : Tn x pb pc H1 H2) : Tn x pa pc H H2 :=
  ⟨fun c u h1 h2 h => b.off c u h1 (fun z => by
    rcases a.nw with q | q
    · exact h2 (z.trans q)
    · rw [z, q] at h; cases h) (a.off c u h1 h2 h), fun c h => a.sv c (b.sv c h), by
    rcases b.nw with q | q
    · rw [q]; exact a.nw
    · exact .inr (a.sv _ q)⟩
theorem upd_sv {H : Hp} {a : Addr} {o : HO} {b : Addr} (h : (upd H a o) b = none) : H b = none := by
  by_cases c : b = a
  · rw [c, upd_same] at h; cases h
  · rw [upd_ne c] at h; exact h
theorem Tn.updX {x pa : Addr} {H : Hp} {o : HO} : Tn x pa pa H (upd H x o) := ⟨fun b u h1 _ h => by rw [upd_ne h1]; exact h, fun b h => upd_sv h, .inl rfl⟩
theorem Tn.updP {x pa : Addr} {H : Hp} {o : HO} : Tn x pa pa H (upd H pa o) := ⟨fun b u _ h2 h => by rw [upd_ne h2]; exact h, fun b h => upd_sv h, .inl rfl⟩
theorem Tn.newP {x pa pb : Addr} {H : Hp} {o : HO} (h : H pb = none) : Tn x pa pb H (upd H pb o) := ⟨fun b u _ _ hb => by rw [upd_ne (fun z => by rw [z, h] at hb; cases hb)]; exact hb, fun b h => upd_sv h, .inr h⟩
theorem Tn.hd {x pa pb : Addr} {H H' : Hp} (t : Tn x pa pb H H') : Ex (Hd H x pa) (Hd H' x pb) := fun b u h => by
  obtain ⟨h1, h2, h3⟩ := hd_in h
  rw [hd_at h1 (fun z => by
    rcases t.nw with q | q
    · exact h2 (z.trans q)
    · rw [z, q] at h3; cases h3)]
  exact t.off b u h1 h2 h3
/-! the talk -/
theorem len_putO (f : Str) (v y : V) : ∀ fs : List (Str × V), fs.lookup f = some y → (putF f v fs).length = fs.length
  | [], h => by cases h
  | (g, x) :: r, h => by
    unfold putF
    split
    · rfl
    · rename_i hne
      rw [List.length_cons, List.length_cons, len_putO f v y r]
      rw [List.lookup_cons] at h
      have : (f == g) = false := beq_eq_false_iff_ne.mpr fun z => hne z.symm
      rw [this] at h
      exact h
structure TTx (K : PySem.W.Frag) (CT : Addr) : Prop where
  cl : Cls K CT
  n1 : NoAttr K CT "_works"
  n2 : NoAttr K CT "stand"
  n3 : NoAttr K CT "many"
  n4 : NoAttr K CT "past"
structure Tf (fs : List (Str × V)) (k : Addr) (sv : V) (pa : Addr) (m : Nat) : Prop where
  wk : fs.lookup ("_works" : Str) = some (.ref k)
  st : fs.lookup ("stand" : Str) = some sv
  mn : fs.lookup ("many" : Str) = some (.int (m : Int))
  ps : fs.lookup ("past" : Str) = some (.ref pa)
  m1 : fs.lookup ("do" : Str) = none
  m2 : fs.lookup ("_go" : Str) = none
  m3 : fs.lookup ("run" : Str) = none
  m4 : fs.lookup ("back" : Str) = none
  m5 : fs.lookup ("trying" : Str) = none
  m6 : fs.lookup ("ahead" : Str) = none
  m7 : fs.lookup ("to_rest" : Str) = none
  few : fs.length ≤ 50
theorem Tf.many {fs : List (Str × V)} {k pa : Addr} {sv : V} {m m' : Nat} (h : Tf fs k sv pa m) : Tf (putF "many" (.int (m' : Int)) fs) k sv pa m' := by
  refine ⟨?_, ?_, lk_putS, ?_, ?_, ?_, ?_, ?_, ?_, ?_, ?_, by rw [len_putO _ _ _ _ h.mn]; exact h.few⟩
  · rw [lk_putF (by decide +kernel)]; exact h.wk
  · rw [lk_putF (by decide +kernel)]; exact h.st
  · rw [lk_putF (by decide +kernel)]; exact h.ps
  · rw [lk_putF (by decide +kernel)]; exact h.m1
  · rw [lk_putF (by decide +kernel)]; exact h.m2
  · rw [lk_putF (by decide +kernel)]; exact h.m3
  · rw [lk_putF (by decide +kernel)]; exact h.m4
  · rw [lk_putF (by decide +kernel)]; exact h.m5
  · rw [lk_putF (by decide +kernel)]; exact h.m6
  · rw [lk_putF (by decide +kernel)]; exact h.m7
theorem Tf.stand {fs : List (Str × V)} {k pa : Addr} {sv sv' : V} {m : Nat} (h : Tf fs k sv pa m) : Tf (putF "stand" sv' fs) k sv' pa m := by
  refine ⟨?_, lk_putS, ?_, ?_, ?_, ?_, ?_, ?_, ?_, ?_, ?_, by rw [len_putO _ _ _ _ h.st]; exact h.few⟩
  · rw [lk_putF (by decide +kernel)]; exact h.wk
  · rw [lk_putF (by decide +kernel)]; exact h.mn
  · rw [lk_putF (by decide +kernel)]; exact h.ps
  · rw [lk_putF (by decide +kernel)]; exact h.m1
  · rw [lk_putF (by decide +kernel)]; exact h.m2
  · rw [lk_putF (by decide +kernel)]; exact h.m3
  · rw [lk_putF (by decide +kernel)]; exact h.m4
  · rw [lk_putF (by decide +kernel)]; exact h.m5
  · rw [lk_putF (by decide +kernel)]; exact h.m6
  · rw [lk_putF (by decide +kernel)]; exact h.m7
theorem Tf.past {fs : List (Str × V)} {k pa pa' : Addr} {sv : V} {m : Nat} (h : Tf fs k sv pa m) : Tf (putF "past" (.ref pa') fs) k sv pa' m := by
  refine ⟨?_, ?_, ?_, lk_putS, ?_, ?_, ?_, ?_, ?_, ?_, ?_, by rw [len_putO _ _ _ _ h.ps]; exact h.few⟩
  · rw [lk_putF (by decide +kernel)]; exact h.wk
  · rw [lk_putF (by decide +kernel)]; exact h.st
  · rw [lk_putF (by decide +kernel)]; exact h.mn
  · rw [lk_putF (by decide +kernel)]; exact h.m1
  · rw [lk_putF (by decide +kernel)]; exact h.m2
  · rw [lk_putF (by decide +kernel)]; exact h.m3
  · rw [lk_putF (by decide +kernel)]; exact h.m4
  · rw [lk_putF (by decide +kernel)]; exact h.m5
  · rw [lk_putF (by decide +kernel)]; exact h.m6
  · rw [lk_putF (by decide +kernel)]; exact h.m7
structure PsA (K : PySem.W.Frag) (G : Hp) (us : List V) (past : List St2) : Prop where
  len : us.length = past.length
  at_ : ∀ (i : Nat) (v : V), us[i]? = some v → ∃ t, past[i]? = some t ∧ StD K G v t.1 t.2
theorem PsA.up {K : PySem.W.Frag} {G G' : Hp} {us : List V} {past : List St2} (e : Ex G G') (h : PsA K G us past) : PsA K G' us past := ⟨h.len, fun i v hv => by
  obtain ⟨t, h1, h2⟩ := h.at_ i v hv
  exact ⟨t, h1, h2.up e⟩⟩
theorem PsA.nil (K : PySem.W.Frag) (G : Hp) : PsA K G [] [] := ⟨rfl, fun i v h => by cases h⟩
theorem PsA.snoc {K : PySem.W.Frag} {G : Hp} {us : List V} {past : List St2} {v : V} {st : St2} (h : PsA K G us past) (hv : StD K G v st.1 st.2) : PsA K G (us ++ [v]) (past ++ [st]) := by
  refine ⟨by rw [List.length_append, List.length_append, h.len]; rfl, fun i y hy => ?_⟩
  by_cases c : i < us.length
  · rw [List.getElem?_append_left c] at hy
    obtain ⟨t, h1, h2⟩ := h.at_ i y hy
    exact ⟨t, by rw [List.getElem?_append_left (by rw [← h.len]; exact c)]; exact h1, h2⟩
  · rw [List.getElem?_append_right (by omega)] at hy
    have e0 : i - us.length = 0 := by
      cases hq : i - us.length with
      | zero => rfl
      | succ n => rw [hq] at hy; cases hy
    rw [e0] at hy
    have e : v = y := Option.some.inj hy
    refine ⟨st, ?_, by rw [← e]; exact hv⟩
    rw [List.getElem?_append_right (by rw [← h.len]; omega), ← h.len, e0]
    rfl
theorem PsA.take {K : PySem.W.Frag} {G : Hp} {us : List V} {past : List St2} (h : PsA K G us past) (n : Nat) : PsA K G (us.take n) (past.take n) := by
  refine ⟨by rw [List.length_take, List.length_take, h.len], fun i y hy => ?_⟩
  rw [List.getElem?_take] at hy
  split at hy
  · rename_i c
    obtain ⟨t, h1, h2⟩ := h.at_ i y hy
    exact ⟨t, by rw [List.getElem?_take, if_pos c]; exact h1, h2⟩
  · cases hy
structure TaO (K : PySem.W.Frag) (CT CK CW : Addr) (H : Hp) (x pa wv kw : Addr) (rows : List (List Wy)) (st : St2) (past : List St2) : Prop where
  ex : ∃ (dx : Addr) (fs : List (Str × V)) (sv : V) (us : List V), H x = some (.ins CT dx fs) ∧ Tf fs kw sv pa past.length ∧ H pa = some (.lst us) ∧ WkO CK CW (Hd H x pa) kw (.ref wv) rows ∧ StD K (Hd H x pa) sv st.1 st.2 ∧ PsA K (Hd H x pa) us past
  ok : StOk rows st.1 st.2
  oks : ∀ t ∈ past, StOk rows t.1 t.2
theorem TaO.up {K : PySem.W.Frag} {CT CK CW : Addr} {H H' : Hp} {x pa wv kw : Addr} {rows : List (List Wy)} {st : St2} {past : List St2} (h : TaO K CT CK CW H x pa wv kw rows st past) (e : Ex H H') : TaO K CT CK CW H' x pa wv kw rows st past := by
  obtain ⟨dx, fs, sv, us, h1, h2, h3, h4, h5, h6⟩ := h.ex
  have e' := hd_mono (x := x) (pa := pa) e
  exact ⟨⟨dx, fs, sv, us, e _ _ h1, h2, e _ _ h3, h4.up e', h5.up e', h6.up e'⟩, h.ok, h.oks⟩
theorem TaO.wo {K : PySem.W.Frag} {CT CK CW : Addr} {H : Hp} {x pa wv kw : Addr} {rows : List (List Wy)} {st : St2} {past : List St2} (h : TaO K CT CK CW H x pa wv kw rows st past) : WO CW (Hd H x pa) (.ref wv) rows := by
  obtain ⟨dx, fs, sv, us, h1, h2, h3, h4, h5, h6⟩ := h.ex
  exact h4.wo
theorem TaO.ne {K : PySem.W.Frag} {CT CK CW : Addr} {H : Hp} {x pa wv kw : Addr} {rows : List (List Wy)} {st : St2} {past : List St2} (h : TaO K CT CK CW H x pa wv kw rows st past) : x ≠ pa := fun z => by
  obtain ⟨dx, fs, sv, us, h1, h2, h3, _⟩ := h.ex
  rw [z, h3] at h1
  cases h1
structure Msk (P : Program) (w : World) (K : PySem.W.Frag) (mg : Str → Option Value) (base : Heap) (CS : Addr) (m : Str) (ps : List Str) (n : Nat) (sp : Sp) : Prop where
  ex : ∃ (fM : Addr) (fd : FuncData), Meth K CS m fM ∧ FnOk P w K mg base CX0 n fM fd ps sp ∧ Binds K fd ps []
theorem q_fldaug {K : PySem.W.Frag} {ta tv : TE} {rd : V → V → Hp → VK → Prop} {f : Str} {tz : TS} {D : Ends} {σ : L2.St} {H : Hp} (h : sFldAug K ta tv rd f { D with nx := tz D } σ H) : tSeq (sFldAug K ta tv rd f) tz D σ H := h
section
variable {P : Program} {w : World} {K : PySem.W.Frag} {mg : Str → Option Value} {base : Heap} {f : Addr} {fd : FuncData} {CW CN CK CT : Addr}
/-! Talk._go -/
def spGo (K : PySem.W.Frag) (CT CK CW : Addr) : Sp := fun vs H Q _ => ∃ (x pa wv kw : Addr) (stv : V) (rows : List (List Wy)) (st : St2) (past : List St2) (s : Stp), vs = [.ref x, stv] ∧ TaO K CT CK CW H x pa wv kw rows st past ∧ past.length ≤ 20000 ∧ Dq (Hd H x pa) stv (stepD s) ∧ StpOk rows s ∧
  ∀ H', Tn x pa pa H H' → TaO K CT CK CW H' x pa wv kw rows (goW rows st s) (past ++ [st]) → Q (.bl (!decide (goW rows st s = st))) H'
abbrev sGo : Stmt := inClass (top 51) 7
abbrev nGo : List Str := ["self", "step", "later"]
theorem scGo : FnScope nGo ["self", "step"] (defScope sGo) := ⟨rfl, rfl, rfl, by decide +kernel, rfl, by decide +kernel, by decide +kernel⟩
theorem ok_go (T : TTx K CT) (CC : Cal P w K mg base "changed" ["works", "stand", "step"] 2 (spCh K CK CW)) (F : FnM K "_go" "Talk._go" sGo f fd) : FnOk P w K mg base CX0 3 f fd ["self", "step"] (spGo K CT CK CW) := by
  refine F.ok scGo (fun vs H Q E h => ?_) (fun cdv A outer s H vs Q E hr h => ?_)
  · obtain ⟨x, pa, wv, kw, stv, rows, st, past, s, rfl, _⟩ := h
    rfl
  · obtain ⟨x, pa, wv, kw, stv, rows, st, past, s, rfl, hT, hm, hst, hs, k⟩ := h
    refine ⟨_, pss_cons (ps_set (i := 2) scGo.nd rfl (Or.inl rfl) (pe_cal CC hr (by rfl) (pa_cons (pe_fld (pv 0) rfl) (pa_cons (pe_fld (pv 0) rfl) (pa_cons (pv 1) pa_nil)))))
      (pss_cons (ps_expr (pe_bm PySem.F.plainAttrs_list PySem.F.slot_list_append PySem.F.type_list_append mt_append (pe_fld (pv 0) rfl) (pa_cons (pe_fld (pv 0) rfl) pa_nil)))
      (pss_cons (ps_fldaug (pv 0) pe_int in_add)
      (pss_cons (ps_if (pt_cmpR op_isN1 (pv 2) pe_non (nomark _)) (pss_one (ps_ret pe_bl)) pss_nil)
      (pss_cons (ps_fld (pv 0) (pv 2) rfl)
      (pss_one (ps_ret pe_bl)))))), ?_⟩
    have hG := hT.wo.g
    have h8 := hT.wo.n8
    have hok := hT.ok
    have hoks := hT.oks
    obtain ⟨dx, fs, sv, us, hx, tf, hp, hk, hsv, hps⟩ := hT.ex
    have nxp := hT.ne
    have hul := hps.len
    have hok' := go_ok hG h8 hok hs
    have hoks' : ∀ t ∈ past ++ [st], StOk rows t.1 t.2 := fun t ht => by
      rcases List.mem_append.mp ht with z | z
      · exact hoks t z
      · rw [List.mem_singleton.mp z]; exact hok
    -- what comes behind the call
    have key : ∀ (H1 : Hp) (u : V), Ex H H1 → (goW rows st s = st ∧ u = .non ∨ goW rows st s ≠ st ∧ u ≠ .non ∧ StD K H1 u (goW rows st s).1 (goW rows st s).2) →
        tSeq (tDrop (tBM K "list" rAppend (tFld K (tVar 0) "past") (tCons (tFld K (tVar 0) "stand") tNil))) (tSeq (sFldAug K (tVar 0) (tC (.int 1)) rAdd "many") (tSeq (tIfS (tTest (tOp rIsN (tVar 2) (tC .non))) (tRet (tC (.bl false))) tNext) (tSeq (sFld K (tVar 0) (tVar 2) "stand") (tRet (tC (.bl true)))))) { nx := fun _ H' => Q .non H', rt := Q } [some (.ref x), some stv, some u] H1 := by
      intro H1 u e1 hu
      have hx1 := e1 _ _ hx
      have hp1 := e1 _ _ hp
      refine ⟨.ref x, rfl, x, CT, dx, fs, _, rfl, hx1, T.cl, T.n4, tf.ps, .inl ⟨rfl, us, sq_of hp1⟩, .ref x, rfl, x, CT, dx, fs, _, rfl, hx1, T.cl, T.n2, tf.st, pa, us, sv, rfl, rfl, hp1, by rw [sizeLine_eq]; omega, ?_⟩
      have t2 : Tn x pa pa H (upd H1 pa (.lst (us ++ [sv]))) := (Tn.ex e1).trans Tn.updP
      have hx2 : (upd H1 pa (.lst (us ++ [sv]))) x = some (.ins CT dx fs) := by rw [upd_ne nxp]; exact hx1
      have hp2 : (upd H1 pa (.lst (us ++ [sv]))) pa = some (.lst (us ++ [sv])) := upd_same
      have kt2 : goW rows st s ≠ st → u ≠ .non → StD K H1 u (goW rows st s).1 (goW rows st s).2 → StD K (Hd (upd H1 pa (.lst (us ++ [sv]))) x pa) u (goW rows st s).1 (goW rows st s).2 := fun _ _ z => (z.kt (Kt.hd hx1 hp1)).up Tn.updP.hd
      generalize upd H1 pa (.lst (us ++ [sv])) = H2 at *
      dsimp only
      refine ⟨.ref x, rfl, x, CT, dx, fs, .int (past.length : Int), rfl, hx2, T.cl, T.n3, tf.mn, (past.length : Int), 1, rfl, rfl, dx, fs, hx2, by have := tf.few; omega, ?_⟩
      have tf3 : Tf (putF "many" (.int ((past.length : Int) + 1)) fs) kw sv pa (past ++ [st]).length := by
        have := tf.many (m' := (past ++ [st]).length)
        rw [List.length_append] at this ⊢
        exact this
      have t3 : Tn x pa pa H (upd H2 x (.ins CT dx (putF "many" (.int ((past.length : Int) + 1)) fs))) := t2.trans Tn.updX
      have hx3 : (upd H2 x (.ins CT dx (putF "many" (.int ((past.length : Int) + 1)) fs))) x = some (.ins CT dx (putF "many" (.int ((past.length : Int) + 1)) fs)) := upd_same
      have hp3 : (upd H2 x (.ins CT dx (putF "many" (.int ((past.length : Int) + 1)) fs))) pa = some (.lst (us ++ [sv])) := by rw [upd_ne (Ne.symm nxp)]; exact hp2
      have kt3 : goW rows st s ≠ st → u ≠ .non → StD K H1 u (goW rows st s).1 (goW rows st s).2 → StD K (Hd (upd H2 x (.ins CT dx (putF "many" (.int ((past.length : Int) + 1)) fs))) x pa) u (goW rows st s).1 (goW rows st s).2 := fun q1 q2 z => (kt2 q1 q2 z).up Tn.updX.hd
      generalize upd H2 x (.ins CT dx (putF "many" (.int ((past.length : Int) + 1)) fs)) = H3 at *
      generalize putF "many" (V.int ((past.length : Int) + 1)) fs = fs3 at *
      dsimp only
      have hsv3 := hsv.up t3.hd
      have hps3 := (hps.up t3.hd).snoc hsv3
      rcases hu with ⟨he, rfl⟩ | ⟨hn, nu, hu⟩
      · refine q_when (b := true) (et_test (ev_op (ev_var (i := 2) rfl) ev_c fun H4 e4 Q4 q => ⟨rfl, q H4 (Ex.refl _)⟩)) (fun hb H4 e4 => ?_) (fun hb => by cases hb)
        refine s_ret ev_c fun H5 e5 => ?_
        have t5 := t3.trans (Tn.ex (e4.trans e5))
        have := k H5 t5 ⟨⟨dx, fs3, sv, us ++ [sv], (e4.trans e5) _ _ hx3, tf3, (e4.trans e5) _ _ hp3, hk.up t5.hd, ?_, hps3.up (hd_mono (e4.trans e5))⟩, hok', hoks'⟩
        · rw [decide_eq_true he] at this
          exact this
        · rw [he]; exact hsv3.up (hd_mono (e4.trans e5))
      · refine q_when (b := false) (et_test (ev_op (ev_var (i := 2) rfl) ev_c fun H4 e4 Q4 q => ⟨rfl, ?_⟩)) (fun hb => by cases hb) (fun hb H4 e4 => ?_)
        · rw [decide_eq_false nu]
          exact q H4 (Ex.refl _)
        refine ⟨u, rfl, .ref x, rfl, x, CT, dx, fs3, rfl, e4 _ _ hx3, T.cl, T.n2, by have := tf3.few; omega, ?_⟩
        have t4 : Tn x pa pa H (upd H4 x (.ins CT dx (putF "stand" u fs3))) := (t3.trans (Tn.ex e4)).trans Tn.updX
        have t34 : Tn x pa pa H3 (upd H4 x (.ins CT dx (putF "stand" u fs3))) := (Tn.ex e4).trans Tn.updX
        have := k _ t4 ⟨⟨dx, _, u, us ++ [sv], upd_same, tf3.stand, by rw [upd_ne (Ne.symm nxp)]; exact e4 _ _ hp3, hk.up t4.hd, (kt3 hn nu hu).up t34.hd, hps3.up t34.hd⟩, hok', hoks'⟩
        rw [decide_eq_false hn] at this
        exact this
    refine q_asgW ⟨.ref x, rfl, x, CT, dx, fs, _, rfl, hx, T.cl, T.n1, tf.wk, .ref x, rfl, x, CT, dx, fs, _, rfl, hx, T.cl, T.n2, tf.st, stv, rfl, kw, wv, rows, sv, stv, st.1, st.2, s, rfl, hk.up hd_sub, hsv.up hd_sub, hok, hst.mono hd_sub, hs, fun he H1 e1 => ?_, fun hn H1 u e1 hu nu => ?_⟩
    · exact key H1 .non e1 (.inl ⟨he, rfl⟩)
    · exact key H1 u e1 (.inr ⟨hn, nu, hu⟩)
end
end Wk

set_option Elab.async false
set_option linter.all false
set_option maxRecDepth 100000
set_option maxHeartbeats 1000000
namespace Wk
open PySem PySem.Spec PyProof.Rows L2 Evl
/-! what a step is -/
def IsS (rows : List (List Wy)) (d : PyData) : Prop := ∃ s : Stp, StpOk rows s ∧ d = stepD s
def wordS : Stp → Str
  | .inl _ => "tell"
  | .inr _ => "choose"
def restS : Stp → Wy
  | .inl p => p
  | .inr r => [(r : Int)]
theorem stepD_eq (s : Stp) : stepD s = .tuple (.str (wordS s) :: (restS s).map PyData.int) := by cases s <;> rfl
theorem mem_steps {rows : List (List Wy)} (h2 : 2 ≤ rows.length) {d : PyData} : d ∈ stepsD rows ↔ IsS rows d := by
  constructor
  · intro h
    obtain ⟨i, hi⟩ := List.mem_iff_getElem?.mp h
    obtain ⟨s, h1, h2⟩ := steps_at h2 hi
    exact ⟨s, h2, h1⟩
  · rintro ⟨s, h, rfl⟩
    unfold stepsD
    cases s with
    | inl p => exact List.mem_append_left _ (List.mem_map.mpr ⟨p, h, rfl⟩)
    | inr r =>
      obtain ⟨h1, h2⟩ := (show 1 ≤ r ∧ r < rows.length from h)
      refine List.mem_append_right _ (List.mem_map.mpr ⟨r - 1, List.mem_range.mpr (by omega), ?_⟩)
      show PyData.tuple [.str "choose", .int ((r - 1 + 1 : Nat) : Int)] = .tuple [.str "choose", .int (r : Int)]
      rw [show r - 1 + 1 = r by omega]
theorem lay_str1 {z : Str} (hz : PyData.strOk z = true) (ns : List Int) : PyData.canLayAll0 (PyData.str z :: ns.map PyData.int) = true := by
  have := lay_ints ns
  simp [PyData.canLayAll0, PyData.canLay0, this, hz]
theorem dep_str1 (z : Str) (ns : List Int) : PyData.depthAll (PyData.str z :: ns.map PyData.int) = 0 := by
  have := depth_ints ns
  simp [PyData.depthAll, PyData.depth, this]
theorem shaped_str1 {z : Str} (hz : PyData.strOk z = true) (ns : List Int) : SeqAt.shaped (.tuple (PyData.str z :: ns.map PyData.int)) = true := by
  unfold SeqAt.shaped
  have h1 := lay_str1 hz ns
  have h2 := dep_str1 z ns
  simp [PyData.canLay0, PyData.depth, h1, h2]
theorem step_of_mem {rows : List (List Wy)} {d : PyData} (h : d ∈ stepsD rows) : ∃ s : Stp, d = stepD s := by
  unfold stepsD at h
  rcases List.mem_append.mp h with z | z
  · obtain ⟨p, _, rfl⟩ := List.mem_map.mp z
    exact ⟨.inl p, rfl⟩
  · obtain ⟨j, _, rfl⟩ := List.mem_map.mp z
    exact ⟨.inr (j + 1), rfl⟩
theorem word_ok (s : Stp) : PyData.strOk (wordS s) = true := by
  cases s with
  | inl p => exact show PyData.strOk "tell" = true by decide +kernel
  | inr r => exact show PyData.strOk "choose" = true by decide +kernel
theorem layA_steps (rows : List (List Wy)) : PyData.canLayAll0 (stepsD rows) = true := layAll.mpr fun d hd => by
  obtain ⟨s, rfl⟩ := step_of_mem hd
  rw [stepD_eq]
  simp only [PyData.canLay0]
  exact lay_str1 (word_ok s) _
theorem shaped_steps (rows : List (List Wy)) : SeqAt.shaped (.list (stepsD rows)) = true := by
  unfold SeqAt.shaped
  have h1 := layA_steps rows
  have h2 : PyData.depthAll (stepsD rows) ≤ 1 := depAll.mpr fun d hd => by
    obtain ⟨s, rfl⟩ := step_of_mem hd
    rw [stepD_eq]
    have := dep_str1 (wordS s) (restS s)
    simp [PyData.depth, this]
  have : decide ((PyData.list (stepsD rows)).depth ≤ 64) = true := decide_eq_true (by simp only [PyData.depth]; omega)
  rw [this]
  simp [PyData.canLay0, h1]
theorem eqv_str1 (z y : Str) (a b : List Int) : PyData.eqv (.tuple (PyData.str z :: a.map PyData.int)) (.tuple (PyData.str y :: b.map PyData.int)) = (z == y && decide (a = b)) := by
  simp [PyData.eqv, PyData.eqvAll, eqv_ints]
theorem any_steps {rows : List (List Wy)} (h2 : 2 ≤ rows.length) (z : Str) (ns : List Int) : ((stepsD rows).any fun e => PyData.eqv e (.tuple (PyData.str z :: ns.map PyData.int))) = true ↔ IsS rows (.tuple (PyData.str z :: ns.map PyData.int)) := by
  rw [List.any_eq_true, ← mem_steps h2]
  constructor
  · rintro ⟨e, he, hq⟩
    obtain ⟨s, rfl⟩ := step_of_mem he
    rw [stepD_eq] at he hq
    rw [eqv_str1] at hq
    obtain ⟨q1, q2⟩ := Bool.and_eq_true_iff.mp hq
    rw [← eq_of_beq q1, ← of_decide_eq_true q2]
    exact he
  · intro h
    exact ⟨_, h, by rw [eqv_str1]; simp⟩
/-! a stand that is one -/
theorem stB_ok {rows : List (List Wy)} {d : PyData} (h : stB rows d = true) (hsm : SmS d) : ∃ ts ks : List Wy, d = standD ts ks ∧ StOk rows ts ks := by
  unfold stB at h
  split at h
  rotate_left
  · cases h
  rename_i a b
  obtain ⟨h1, h⟩ := Bool.and_eq_true_iff.mp h
  obtain ⟨h2, h3⟩ := Bool.and_eq_true_iff.mp h
  obtain ⟨t1, t2, t3, t4⟩ := tk_ok h1
  obtain ⟨h4, h5⟩ := Bool.and_eq_true_iff.mp (show (isTu b && decide (V.int ((itemsT b).length : Int) = V.int ((linesW rows).length : Int))) = true from h2)
  have hn : (itemsT b).length = (linesW rows).length := by have := of_decide_eq_true h5; injection this; omega
  obtain ⟨bs, rfl⟩ : ∃ bs, b = .tuple bs := by
    cases b with
    | tuple bs => exact ⟨bs, rfl⟩
    | _ => simp [isTu] at h4
  have hn' : bs.length = (linesW rows).length := hn
  have h3' : ((List.range bs.length).map fun i => ((bs[i]?).map (hdB (restsW rows ((linesW rows).getD i [])))).getD false).all id = true := by
    rw [hn']
    exact h3
  have hc : ∀ i x, bs[i]? = some x → hdB (restsW rows ((linesW rows).getD i [])) x = true := fun i x e => all_range (g := fun i => hdB (restsW rows ((linesW rows).getD i []))) h3' e
  refine ⟨(itemsT a).map rts, bs.map rts, ?_, ⟨⟨by rw [List.length_map]; exact t3, fun i x hx => ?_⟩, by rw [List.length_map]; exact hn', fun i x hx => ?_⟩⟩
  · unfold standD
    congr 1
    congr 1
    · refine t1.trans ?_
      congr 1
      unfold tkOf
      rw [List.map_map, List.map_map]
      rfl
    · congr 1
      congr 1
      rw [List.map_map]
      refine (List.map_id bs).symm.trans (List.map_congr_left fun y hy => ?_)
      obtain ⟨k, hk⟩ := List.mem_iff_getElem?.mp hy
      exact intsB_wd (Bool.and_eq_true_iff.mp (hc k y hk)).1
  · rw [List.getElem?_map] at hx
    cases hd : (itemsT a)[i]? with
    | none => rw [hd] at hx; cases hx
    | some y =>
      rw [hd] at hx
      rw [← (Option.some.inj hx : rts y = x)]
      exact of_decide_eq_true (Bool.and_eq_true_iff.mp (t4 i y hd)).2
  · rw [List.getElem?_map] at hx
    cases hd : bs[i]? with
    | none => rw [hd] at hx; cases hx
    | some y =>
      rw [hd] at hx
      rw [← (Option.some.inj hx : rts y = x)]
      obtain ⟨q1, q2⟩ := Bool.and_eq_true_iff.mp (hc i y hd)
      have hl := hsm (.tuple bs) (by simp [itemsT]) y (List.mem_of_getElem? hd)
      refine ⟨?_, ?_⟩
      · rcases Bool.or_eq_true_iff.mp q2 with z | z
        · exact .inl (of_decide_eq_true z)
        · exact .inr (of_decide_eq_true z)
      · unfold rts
        rw [List.length_map]
        exact hl
def isStr : PyData → Bool
  | .str _ => true
  | _ => false
theorem kit_str (d : PyData) : kitB (tyN d) "str" = some (isStr d) := by
  cases d with
  | none => exact show kitB "NoneType" "str" = some false by decide +kernel
  | bool b => exact show kitB "bool" "str" = some false by decide +kernel
  | int i => exact show kitB "int" "str" = some false by decide +kernel
  | str z => exact show kitB "str" "str" = some true by decide +kernel
  | list ds => exact show kitB "list" "str" = some false by decide +kernel
  | tuple ds => exact show kitB "tuple" "str" = some false by decide +kernel
  | dict ds => exact show kitB "dict" "str" = some false by decide +kernel
section
variable {P : Program} {w : World} {K : PySem.W.Frag} {mg : Str → Option Value} {base : Heap} {f : Addr} {fd : FuncData} {CW CN CK : Addr}
/-- all([.. for x in t]), t a tuple that may be new -/
theorem ev_allS {tl te : TE} {σ : L2.St} {H : Hp} {xs : List V} {j : Nat} {vs : List Nat} (g : Nat → Bool) (h : EvS tl σ H xs) (hz : xs.length ≤ 40000) (hw : ∀ x, wipe ((wipe σ vs).set j (some x)) vs = wipe σ vs)
    (he : ∀ (i : Nat) (x : V) H1, Ex H H1 → xs[i]? = some x → Ev te ((wipe σ vs).set j (some x)) H1 (.bl (g i))) :
    Ev (tCB (rAll K) (tCons (tLc (iTup K tl) (gName j) tYes te vs) tNil)) σ H (.bl (((List.range xs.length).map g).all id)) := fun H1 e Q q =>
  h H1 e _ fun p H2 e2 hp => (ev_allT (K := K) (tl := tC (.ref p)) g ev_c (st_of hp) hz hw (fun i x H3 e3 hx => he i x H3 ((e.trans e2).trans e3) hx)) H2 (Ex.refl _) Q fun H3 e3 => q H3 (e2.trans e3)
/-! is_step_of -/
def HdOk (d : PyData) : Prop := ∀ z r, d = .tuple (.str z :: r) → PyData.strOk z = true
abbrev spStp (CK CW : Addr) : Sp := spP fun H vs z => ∃ (x wv : Addr) (rows : List (List Wy)) (v : V) (d : PyData) (b : Bool), vs = [.ref x, v] ∧ WkO CK CW H x (.ref wv) rows ∧ Dq H v d ∧ HdOk d ∧ (itemsT d).length ≤ 1000 ∧ (b = true ↔ IsS rows d) ∧ z = .bl b
abbrev sStp : Stmt := top 39
abbrev nStp : List Str := ["works", "thing", "item"]
theorem scStp : FnScope nStp ["works", "thing"] (defScope sStp) := ⟨rfl, rfl, rfl, by decide +kernel, rfl, by decide +kernel, by decide +kernel⟩
def gsB (rows : List (List Wy)) : PyData → Bool
  | .tuple (.str z :: e :: es) => (e :: es).all isI && (stepsD rows).any fun y => PyData.eqv y (.tuple (.str z :: e :: es))
  | _ => false
theorem isI_rts {ds : List PyData} (h : ds.all isI = true) : ds = (rts (.tuple ds)).map PyData.int := by
  have z : intsB (.tuple ds) = true := by
    unfold intsB
    exact Bool.and_eq_true_iff.mpr ⟨rfl, h⟩
  have q := intsB_wd z
  unfold wd at q
  injection q
theorem gsB_is {rows : List (List Wy)} (hG : GW rows) (h8 : rows.length ≤ 8) (h2 : 2 ≤ rows.length) (d : PyData) : gsB rows d = true ↔ IsS rows d := by
  constructor
  · intro h
    unfold gsB at h
    split at h
    · rename_i z e es
      obtain ⟨q1, q2⟩ := Bool.and_eq_true_iff.mp h
      have ei := isI_rts q1
      rw [ei] at q2 ⊢
      exact (any_steps h2 _ _).mp q2
    · cases h
  · intro h
    have h' := h
    obtain ⟨s, hs, rfl⟩ := h
    have hne : ∃ e es, restS s = e :: es := by
      cases s with
      | inl p =>
        obtain ⟨u, v, rfl, _⟩ := ln_shape hG h8 hs
        exact ⟨_, _, rfl⟩
      | inr r => exact ⟨_, _, rfl⟩
    obtain ⟨e, es, he⟩ := hne
    rw [stepD_eq, he] at h' ⊢
    unfold gsB
    refine Bool.and_eq_true_iff.mpr ⟨?_, (any_steps h2 _ _).mpr h'⟩
    rw [List.all_eq_true]
    intro y hy
    have hy' : y ∈ (e :: es).map PyData.int := hy
    obtain ⟨n, _, rfl⟩ := List.mem_map.mp hy'
    rfl
theorem ok_stp (B : Bl mg) (T : KTx K mg CK) (C : Cal P w K mg base "is_integer" ["thing"] 1 spIsInt) (F : FnP K "is_step_of" sStp f fd) : FnOk P w K mg base CX0 2 f fd ["works", "thing"] (spStp CK CW) := by
  refine F.ok scStp (fun vs H Q E h => ?_) (fun cdv A outer s H vs Q E hr h => ?_)
  · obtain ⟨z, ⟨x, wv, rows, v, d, b, rfl, _⟩, _⟩ := h
    rfl
  · obtain ⟨z, ⟨x, wv, rows, v, d, b, rfl, hk, hv, hz, hl, hb, rfl⟩, k⟩ := h
    have r1 : Room 1 _ := hr.mono (by decide)
    have hu : (A.deeper (envOfC "is_step_of" (defScope sStp) s.heap.objs.size f cdv)).units + 65 < cLine := by have := hr.un; omega
    refine ⟨_, pss_cons (ps_if (PW.pt (pw_or (pt_not (pt_val (pe_callB call_isi (by rfl) B.isi boot_isinstance (pa_cons (pv 1) (pa_cons (pe_bltn (v := .ty "tuple") (by rfl) B.tuple PyProof.Rows.boot_tuple rfl) pa_nil)))))
        (pw_or (pt_cmpR op_lt (pe_callB call_len_seq (by rfl) B.len PySem.boot_len (pa_cons (pv 1) pa_nil)) pe_int (nomark _))
        (pw_or1 (pt_not (pt_val (pe_callB call_isi (by rfl) B.isi boot_isinstance (pa_cons (pe_ix ix_tup (pv 1) pe_int (fun _ _ => rfl)) (pa_cons (pe_bltn (v := .ty "str") (by rfl) B.str PyProof.Rows.boot_str rfl) pa_nil))))))))) (pss_one (ps_ret pe_bl)) pss_nil)
      (pss_one (ps_ret (pe_and (pe_callB (cr_all rfl) (by rfl) B.all boot_all (pa_cons (pe_lc (own := [("item", 2)]) (g := gName 2) (tt := tYes) rfl scStp.nd (pi_tup (pe_slice sl_tupA (pv 1) (po_some pe_int) po_none)) (blkOk_by (N := nStp) (sc := defScope sStp) (by decide +kernel))
          (fun _ _ _ _ _ => pg_name (i := 2) scStp.nd rfl (Or.inl rfl)) (fun _ _ _ _ _ => pts_nil) (fun _ _ _ _ _ => pe_cal C r1 (by rfl) (pa_cons (pv 2) pa_nil))) pa_nil))
        (pe_one (pe_cmpR (op_inD hu) (pv 1) (pe_fld (pv 0) rfl) rfl))))), ?_⟩
    have hG := hk.wo.g
    have h8 := hk.wo.n8
    have h2 := hk.wo.n2
    have ebG : b = gsB rows d := by
      have := (gsB_is hG h8 h2 d).trans hb.symm
      cases b <;> cases hg : gsB rows d <;> simp_all
    rw [ebG] at k
    clear hb ebG
    obtain ⟨dx, Pd, Sd, fs, kvs, hv', ov, us, hx, fw, fp, fh, fo, fs', hP, hpk, hh, ho, hSd, hus⟩ := hk.ex
    have v1 : ∀ {H1 : Hp}, Ev (tVar 1) (start nStp [V.ref x, v]) H1 v := ev_var rfl
    cases ht : isTu d with
    | false =>
      have hf : gsB rows d = false := by
        unfold gsB
        split
        · cases ht
        · rfl
      rw [hf] at k
      refine q_when (b := !false || true) (et_or (a := !false) (b := true) (et_not (et_B (ev_is (ev_isi v1 hv (kit_tup _)) (by rw [ht])))) fun z => by cases z) (fun hb H2 e2 => s_ret ev_c fun H3 e3 => k H3 (e2.trans e3)) (fun hb => by simp at hb)
    | true =>
    obtain ⟨ta, tvs, ds, rfl, rfl, s1, s2⟩ := dq_tup hv ht
    have htl := s2.length
    have hl' : ds.length ≤ 1000 := hl
    have hlen : ∀ {H1 : Hp}, Ex H H1 → Ev (tCB (rLenS K) (tCons (tVar 1) tNil)) (start nStp [V.ref x, V.ref ta]) H1 (.int (tvs.length : Int)) := fun e => ev_lenT (K := K) v1 (st_of (e _ _ s1))
    have eT : EvT (tNot (tB (tCB (rIsi K) (tCons (tVar 1) (tCons (tC (.ty "tuple")) tNil))))) (start nStp [V.ref x, V.ref ta]) H (!true) := et_not (et_B (ev_is (ev_isi v1 hv (kit_tup _)) (by rw [ht])))
    match ds, s2, htl, hl' with
    | [], s2, htl, hl' =>
      cases s2
      have hf : gsB rows (.tuple []) = false := rfl
      rw [hf] at k
      exact q_when (b := !true || (decide ((([] : List V).length : Int) < 2) || true)) (et_or eT fun _ => et_or (a := decide ((([] : List V).length : Int) < 2)) (b := true) (et_test (ev_op (hlen (Ex.refl _)) ev_c rv_I0)) fun z => by simp at z) (fun hb H2 e2 => s_ret ev_c fun H3 e3 => k H3 (e2.trans e3)) (fun hb => by simp at hb)
    | [d0], s2, htl, hl' =>
      cases s2 with
      | @cons w0 _ _ _ q1 q2 =>
      cases q2
      have hf : gsB rows (.tuple [d0]) = false := by
        unfold gsB
        split
        · rename_i e
          injection e with e
          injection e with _ e
          cases e
        · rfl
      rw [hf] at k
      exact q_when (b := !true || (decide ((([w0] : List V).length : Int) < 2) || true)) (et_or eT fun _ => et_or (a := decide ((([w0] : List V).length : Int) < 2)) (b := true) (et_test (ev_op (hlen (Ex.refl _)) ev_c rv_I0)) fun z => by simp at z) (fun hb H2 e2 => s_ret ev_c fun H3 e3 => k H3 (e2.trans e3)) (fun hb => by simp at hb)
    | d0 :: d1 :: ds, s2, htl, hl' =>
      cases s2 with
      | @cons w0 ws _ _ q1 q2 =>
      have hwl := q2.length
      rw [List.length_cons] at hwl
      have hlb : decide (((w0 :: ws).length : Int) < 2) = false := decide_eq_false (by rw [List.length_cons]; omega)
      have t0 : ∀ {H1 : Hp}, Ex H H1 → Ev (tOp (rIxT K) (tVar 1) (tC (.int 0))) (start nStp [V.ref x, V.ref ta]) H1 w0 := fun e => ev_at (K := K) (j := 0) v1 (st_of (e _ _ s1)) (ev_is ev_c rfl) rfl
      refine q_when (b := !true || (decide (((w0 :: ws).length : Int) < 2) || !isStr d0)) (et_or eT fun _ => et_or (et_test (ev_op (hlen (Ex.refl _)) ev_c rv_I0)) fun _ => et_not (et_B (ev_isi (t0 (Ex.refl _)) q1 (kit_str _)))) (fun hb H2 e2 => s_ret ev_c fun H3 e3 => ?_) (fun hb H2 e2 => ?_)
      · rw [hlb] at hb
        have hs : isStr d0 = false := by simpa using hb
        have hf : gsB rows (.tuple (d0 :: d1 :: ds)) = false := by
          unfold gsB
          split
          · rename_i e
            injection e with e
            injection e with e _
            rw [e] at hs
            cases hs
          · rfl
        rw [hf] at k
        exact k H3 (e2.trans e3)
      · rw [hlb] at hb
        have hs : isStr d0 = true := by simpa using hb
        cases d0 <;> first | (simp [isStr] at hs; done) | skip
        rename_i z
        have hzz := hz z _ rfl
        have hg : gsB rows (.tuple (.str z :: d1 :: ds)) = ((d1 :: ds).all isI && (stepsD rows).any fun y => PyData.eqv y (.tuple (.str z :: d1 :: ds))) := rfl
        rw [hg] at k
        refine s_ret (ev_andV (a := (d1 :: ds).all isI) ?_ fun hI => ?_) fun H3 e3 => k H3 (e2.trans e3)
        · have q := ev_allS (K := K) (H := H2) (j := 2) (vs := [2]) (σ := start nStp [V.ref x, V.ref ta]) (tl := tSl (rSlA K) (tVar 1) (tPart (tC (.int 1))) tNoPart) (te := tCall spIsInt [] E0 (tCons (tVar 2) tNil)) (xs := cutV (w0 :: ws) (some 1) none) (fun i => (((d1 :: ds)[i]?).map isI).getD false)
            (es_sl (K := K) (lo := some 1) (hi := none) v1 (eo_some ev_c) eo_none (e2 _ _ s1)) (by rw [show (1 : Int) = ((1 : Nat) : Int) from rfl, cut_from _ 1 (by rw [List.length_cons]; omega), List.drop_one]; show ws.length ≤ _; have hl2 : ds.length + 2 ≤ 1000 := hl'; omega) (fun x => rfl)
            (fun i y H3 e3 hy => by
              rw [show (1 : Int) = ((1 : Nat) : Int) from rfl, cut_from _ 1 (by rw [List.length_cons]; omega)] at hy
              have hy' : ws[i]? = some y := hy
              obtain ⟨dy, g1, g2⟩ := q2.get hy'
              rw [g1]
              exact ev_call (ea_cons (ev_var rfl) ea_nil) (spP_v fun H4 e4 => ⟨y, dy, rfl, g2.mono ((e2.trans e3).trans e4), rfl⟩))
          rw [show (1 : Int) = ((1 : Nat) : Int) from rfl, cut_from _ 1 (by rw [List.length_cons]; omega)] at q
          have q' : Ev _ _ _ (.bl (((List.range ws.length).map fun i => (((d1 :: ds)[i]?).map isI).getD false).all id)) := q
          have hwl' : ws.length = (d1 :: ds).length := by rw [List.length_cons]; exact hwl
          rw [hwl', all_get] at q'
          exact q'
        · have ei := isI_rts hI
          have hq : Dq H2 (.ref ta) (.tuple (.str z :: (rts (.tuple (d1 :: ds))).map PyData.int)) := by
            rw [← ei]
            exact hv.mono e2
          rw [show (PyData.tuple (.str z :: d1 :: ds)) = .tuple (.str z :: (rts (.tuple (d1 :: ds))).map PyData.int) by rw [← ei]]
          generalize rts (.tuple (d1 :: ds)) = ns at *
          refine ev_op v1 (ev_wf (mg := mg) T.cl T.n5 (ev_var (i := 0) rfl) (e2 _ _ hx) fs') fun H3 e3 Q3 q3 => ?_
          exact ⟨_, stepsD rows, Dq.dp (SeqAt.canLay_of_shaped (shaped_str1 hzz ns)) (hq.mono e3), .lst (sq_of ((e2.trans e3) _ _ hSd)) (DqA.dp (layA_steps rows) (hus.mono ((off_in _ _).trans (e2.trans e3)))), shaped_str1 hzz ns, shaped_steps rows, q3 H3 (Ex.refl _)⟩
end
end Wk

set_option Elab.async false
set_option linter.all false
set_option maxRecDepth 100000
set_option maxHeartbeats 1000000
namespace Wk
open PySem PySem.Spec PyProof.Rows L2 Evl
/-! what is due, and rest -/
def stepsW (rows : List (List Wy)) : List Stp := (linesW rows).map .inl ++ (List.range (rows.length - 1)).map fun i => .inr (i + 1)
theorem stepsD_W (rows : List (List Wy)) : stepsD rows = (stepsW rows).map stepD := by
  unfold stepsD stepsW
  rw [List.map_append, List.map_map, List.map_map]
  rfl
theorem stepsW_ok {rows : List (List Wy)} (h2 : 2 ≤ rows.length) {s : Stp} : s ∈ stepsW rows ↔ StpOk rows s := by
  unfold stepsW
  rw [List.mem_append, List.mem_map, List.mem_map]
  constructor
  · rintro (⟨p, hp, rfl⟩ | ⟨i, hi, rfl⟩)
    · exact hp
    · have := List.mem_range.mp hi
      exact ⟨by omega, by omega⟩
  · intro h
    cases s with
    | inl p => exact .inl ⟨p, h, rfl⟩
    | inr r =>
      obtain ⟨h1, h2⟩ := (show 1 ≤ r ∧ r < rows.length from h)
      exact .inr ⟨r - 1, List.mem_range.mpr (by omega), by rw [show r - 1 + 1 = r by omega]⟩
def dueW (rows : List (List Wy)) (ts ks : List Wy) : List Stp := (stepsW rows).filter fun s => !decide (mvW rows ts ks s = (ts, ks))
structure Rst (rows : List (List Wy)) (ts ks : List Wy) : Prop where
  tell : ∀ (i : Nat) (p : Wy), (linesW rows)[i]? = some p → ks[i]? = some (tellW rows ts p)
  choose : ∀ r : Nat, 1 ≤ r → r < rows.length → ts[r]? = some (chooseW rows ks r)
theorem set_same? {l : List Wy} {i : Nat} {x : Wy} (h : i < l.length) : l.set i x = l ↔ l[i]? = some x := by
  rw [set_same h, List.getElem?_eq_getElem h, Option.some.injEq]
theorem due_rest {rows : List (List Wy)} {ts ks : List Wy} (h2 : 2 ≤ rows.length) (tl : ts.length = rows.length) (kl : ks.length = (linesW rows).length) : dueW rows ts ks = [] ↔ Rst rows ts ks := by
  unfold dueW
  rw [List.filter_eq_nil_iff]
  constructor
  · intro h
    have h' : ∀ s, StpOk rows s → mvW rows ts ks s = (ts, ks) := fun s hs => by
      have := h s ((stepsW_ok h2).mpr hs)
      simpa using this
    refine ⟨fun i p hp => ?_, fun r h1 hr => ?_⟩
    · have hi := (List.getElem?_eq_some_iff.mp hp).1
      have z : ks.set ((linesW rows).idxOf p) (tellW rows ts p) = ks := congrArg Prod.snd (h' (.inl p) (List.mem_of_getElem? hp))
      have e : (linesW rows).idxOf p = i := by
        have hn := ln_nd rows
        have hx := List.idxOf_lt_length_iff.mpr (List.mem_of_getElem? hp)
        have h3 : (linesW rows)[(linesW rows).idxOf p] = (linesW rows)[i] := by
          rw [List.getElem_idxOf hx]
          exact (List.getElem?_eq_some_iff.mp hp).2.symm
        exact (List.getElem_inj hn).mp h3
      rw [e] at z
      exact (set_same? (by omega)).mp z
    · have z : ts.set r (chooseW rows ks r) = ts := congrArg Prod.fst (h' (.inr r) ⟨h1, hr⟩)
      exact (set_same? (by omega)).mp z
  · intro h s hs
    have hs' := (stepsW_ok h2).mp hs
    have : mvW rows ts ks s = (ts, ks) := by
      cases s with
      | inl p =>
        have hx := List.idxOf_lt_length_iff.mpr (show p ∈ linesW rows from hs')
        have hg : (linesW rows)[(linesW rows).idxOf p]? = some p := by rw [List.getElem?_eq_getElem hx, List.getElem_idxOf hx]
        show (ts, ks.set ((linesW rows).idxOf p) (tellW rows ts p)) = (ts, ks)
        rw [(set_same? (by omega)).mpr (h.tell _ p hg)]
      | inr r =>
        obtain ⟨h1, hr⟩ := (show 1 ≤ r ∧ r < rows.length from hs')
        show (ts.set r (chooseW rows ks r), ks) = (ts, ks)
        rw [(set_same? (by omega)).mpr (h.choose r h1 hr)]
    simp [this]
/-- two stands at rest -/
theorem rst_ts {rows : List (List Wy)} {ts ks ks' : List Wy} (h : Rst rows ts ks) (h' : Rst rows ts ks') (kl : ks.length = (linesW rows).length) (kl' : ks'.length = (linesW rows).length) : ks = ks' := by
  apply List.ext_getElem?
  intro i
  by_cases c : i < (linesW rows).length
  · rw [h.tell i _ (List.getElem?_eq_getElem c), h'.tell i _ (List.getElem?_eq_getElem c)]
  · rw [List.getElem?_eq_none (by omega), List.getElem?_eq_none (by omega)]
theorem rst_ks {rows : List (List Wy)} {ts ts' ks : List Wy} (h : Rst rows ts ks) (h' : Rst rows ts' ks) (tl : ts.length = rows.length) (tl' : ts'.length = rows.length) (h0 : ts[0]? = ts'[0]?) : ts = ts' := by
  apply List.ext_getElem?
  intro i
  cases i with
  | zero => exact h0
  | succ i =>
    by_cases c : i + 1 < rows.length
    · rw [h.choose _ (by omega) c, h'.choose _ (by omega) c]
    · rw [List.getElem?_eq_none (by omega), List.getElem?_eq_none (by omega)]
theorem full0 {rows : List (List Wy)} {ts : List Wy} (h2 : 2 ≤ rows.length) (h : FullT rows ts) : ts[0]? = some [0] := by
  have hl := h.len
  have hg := List.getElem?_eq_getElem (l := ts) (i := 0) (by omega)
  have := h.ok 0 _ hg
  unfold chW at this
  rw [if_pos rfl, List.mem_singleton] at this
  rw [hg, this]
/-- the way that is the best by what is taken, by what is told -/
theorem best_find {t : List (Option Wy)} : ∀ {ws : List Wy}, best t ws = (ws.find? (hit t)).getD []
  | [] => rfl
  | w :: ws => by
    unfold best
    rw [List.find?_cons]
    cases h : hit t w with
    | true => rfl
    | false =>
      rw [if_neg (by decide)]
      exact best_find
theorem hr_hit {rows : List (List Wy)} {ts ks : List Wy} (hG : GW rows) (h2 : 2 ≤ rows.length) (h8 : rows.length ≤ 8) (hT : FullT rows ts) (hk : ∀ (i : Nat) (p : Wy), (linesW rows)[i]? = some p → ks[i]? = some (tellW rows ts p)) {r : Nat} {row : List Wy} (hr : rows[r]? = some row) {w : Wy} (hw : w ∈ row) : hrB rows ks r w = hit (ts.map some) w := by
  have ok := hG.ok r row hr w hw
  have hl2 := ok.l2
  unfold hrB hit
  by_cases c : w.length = 2
  · have hlast := ok.lt
    rw [List.getLast?_eq_getElem?, c] at hlast
    have e1 : w.getD 1 0 = 0 := by
      rw [List.getD_eq_getElem?_getD]
      show (w[1]?).getD 0 = 0
      rw [show w[1]? = some 0 from hlast]
      rfl
    have ed : w.drop 1 = [0] := by
      match w, c with
      | [a, b], _ =>
        have hb : b = 0 := by simpa using hlast
        rw [hb]
        rfl
    rw [decide_eq_true c, Bool.true_or, e1, ed]
    show true = decide ((ts.map some).getD 0 none = some [0])
    rw [List.getD_eq_getElem?_getD, List.getElem?_map, full0 h2 hT]
    rfl
  · have hm := ln_way hG h8 hr hw (wy_sec ok c)
    have hx := List.idxOf_lt_length_iff.mpr hm
    have hg : (linesW rows)[(linesW rows).idxOf [w.getD 1 0, (r : Int)]]? = some [w.getD 1 0, (r : Int)] := by rw [List.getElem?_eq_getElem hx, List.getElem_idxOf hx]
    have hkk := hk _ _ hg
    rw [decide_eq_false c, Bool.false_or, List.getD_eq_getElem?_getD, hkk]
    obtain ⟨u, v, e, h1, hun, hv1, hvn⟩ := ln_shape hG h8 hm
    injection e with eu e
    injection e with ev _
    obtain rfl : r = v := by omega
    obtain ⟨t, htu⟩ : ∃ t, ts[u]? = some t := ⟨_, List.getElem?_eq_getElem (show u < ts.length by rw [hT.len]; exact hun)⟩
    have hrw : rows.getD r [] = row := by rw [List.getD_eq_getElem?_getD, hr]; rfl
    have etl : tellW rows ts [w.getD 1 0, (r : Int)] = if ((r : Int) :: t) ∈ row then t else [] := by
      rw [eu]
      unfold tellW
      show (if ((r : Int) :: ts.getD u []) ∈ rows.getD r [] then ts.getD u [] else []) = _
      rw [hrw, List.getD_eq_getElem?_getD, htu]
      rfl
    rw [etl]
    show decide ((if ((r : Int) :: t) ∈ row then t else []) = w.drop 1) = decide ((ts.map some).getD (w.getD 1 0).toNat none = some (w.drop 1))
    rw [eu, Int.toNat_natCast, List.getD_eq_getElem?_getD, List.getElem?_map, htu]
    show decide ((if ((r : Int) :: t) ∈ row then t else []) = w.drop 1) = decide (some t = some (w.drop 1))
    have ew : w = (r : Int) :: w.drop 1 := by
      cases w with
      | nil => simp at hl2
      | cons a w =>
        have hh := ok.hd
        simp at hh
        rw [hh]
        rfl
    have hne : w.drop 1 ≠ [] := fun z => by
      have := congrArg List.length z
      rw [List.length_drop] at this
      simp at this
      omega
    rw [decide_eq_decide, Option.some.injEq]
    constructor
    · intro z
      by_cases cm : ((r : Int) :: t) ∈ row
      · rw [if_pos cm] at z
        exact z
      · rw [if_neg cm] at z
        exact absurd z.symm hne
    · intro z
      rw [if_pos (by rw [z, ← ew]; exact hw)]
      exact z
theorem choose_best {rows : List (List Wy)} {ts ks : List Wy} (hG : GW rows) (h2 : 2 ≤ rows.length) (h8 : rows.length ≤ 8) (hT : FullT rows ts) (hk : ∀ (i : Nat) (p : Wy), (linesW rows)[i]? = some p → ks[i]? = some (tellW rows ts p)) {r : Nat} (hr : r < rows.length) : chooseW rows ks r = best (ts.map some) (rows.getD r []) := by
  have hrw : rows[r]? = some rows[r] := List.getElem?_eq_getElem hr
  rw [best_find]
  unfold chooseW
  rw [List.getD_eq_getElem?_getD, hrw]
  show (rows[r].find? (hrB rows ks r)).getD [] = (rows[r].find? (hit (ts.map some))).getD []
  have : ∀ (l : List Wy), (∀ w ∈ l, w ∈ rows[r]) → l.find? (hrB rows ks r) = l.find? (hit (ts.map some)) := fun l => by
    induction l with
    | nil => intro _; rfl
    | cons a l ih =>
      intro h
      rw [List.find?_cons, List.find?_cons, hr_hit hG h2 h8 hT hk hrw (h a List.mem_cons_self), ih fun w hw => h w (List.mem_cons_of_mem _ hw)]
  rw [this _ fun w hw => hw]
theorem ls_iff {rows : List (List Wy)} {t : List (Option Wy)} : ∀ {m i : Nat}, lsB rows t m i = true ↔ ∀ r, i ≤ r → r < i + m → t.getD r none = some (best t (rows.getD r []))
  | 0, i => by
    constructor
    · intro _ r h1 h2; omega
    · intro _; rfl
  | m + 1, i => by
    unfold lsB
    by_cases c : t.getD i none = some (best t (rows.getD i []))
    · rw [if_pos c, ls_iff]
      constructor
      · intro h r h1 h2
        by_cases e : r = i
        · rw [e]; exact c
        · exact h r (by omega) (by omega)
      · intro h r h1 h2
        exact h r (by omega) (by omega)
    · rw [if_neg c]
      constructor
      · intro z; cases z
      · intro h
        exact absurd (h i (Nat.le_refl i) (by omega)) c
/-- a stand at rest takes an outcome -/
theorem rst_ok {rows : List (List Wy)} {ts ks : List Wy} (hG : GW rows) (h2 : 2 ≤ rows.length) (h8 : rows.length ≤ 8) (hT : FullT rows ts) (h : Rst rows ts ks) : okP rows ts = true := by
  rw [okP_ls hG h2 hT, ls_iff]
  intro r h1 hr
  have hr' : r < rows.length := by omega
  rw [← choose_best hG h2 h8 hT h.tell hr', List.getD_eq_getElem?_getD, List.getElem?_map, h.choose r h1 hr']
  rfl
/-- what the lines keep of what is taken -/
def keptW (rows : List (List Wy)) (ts : List Wy) : List Wy := (linesW rows).map (tellW rows ts)
theorem kept_len (rows : List (List Wy)) (ts : List Wy) : (keptW rows ts).length = (linesW rows).length := by unfold keptW; rw [List.length_map]
theorem kept_rst {rows : List (List Wy)} {ts : List Wy} (hG : GW rows) (h2 : 2 ≤ rows.length) (h8 : rows.length ≤ 8) (hT : FullT rows ts) (ho : okP rows ts = true) : Rst rows ts (keptW rows ts) := by
  have hk : ∀ (i : Nat) (p : Wy), (linesW rows)[i]? = some p → (keptW rows ts)[i]? = some (tellW rows ts p) := fun i p hp => by
    unfold keptW
    rw [List.getElem?_map, hp]
    rfl
  refine ⟨hk, fun r h1 hr => ?_⟩
  rw [okP_ls hG h2 hT, ls_iff] at ho
  have z := ho r h1 (by omega)
  rw [choose_best hG h2 h8 hT hk hr]
  rw [List.getD_eq_getElem?_getD, List.getElem?_map] at z
  cases hq : ts[r]? with
  | none => rw [hq] at z; cases z
  | some x => rw [hq] at z; exact z
theorem kept_ok {rows : List (List Wy)} {ts : List Wy} (hG : GW rows) (h8 : rows.length ≤ 8) (hT : FullT rows ts) : StOk rows ts (keptW rows ts) := by
  refine ⟨hT, kept_len rows ts, fun i x hx => ?_⟩
  unfold keptW at hx
  rw [List.getElem?_map] at hx
  cases hp : (linesW rows)[i]? with
  | none => rw [hp] at hx; cases hx
  | some p =>
    rw [hp] at hx
    have e : tellW rows ts p = x := Option.some.inj hx
    have eg : (linesW rows).getD i [] = p := by rw [List.getD_eq_getElem?_getD, hp]; rfl
    obtain ⟨u, v, rfl, h1, hun, _, _⟩ := ln_shape hG h8 (List.mem_of_getElem? hp)
    rw [eg]
    rw [heard_tell hG h8 hT (List.mem_of_getElem? hp)] at e
    split at e
    · rename_i hm
      rw [← e]
      exact ⟨.inr hm, Nat.le_trans (restLen hG hm) (by decide)⟩
    · rw [← e]
      exact ⟨.inl rfl, by simp⟩
end Wk

set_option Elab.async false
set_option linter.all false
set_option maxRecDepth 100000
set_option maxHeartbeats 2000000
namespace Wk
open PySem PySem.Spec PyProof.Rows L2 Evl
def freeB (rows : List (List Wy)) (ts ks : List Wy) (s : Stp) : Bool := !decide (mvW rows ts ks s = (ts, ks))
def dueL (rows : List (List Wy)) (ts ks : List Wy) : List PyData := (dueW rows ts ks).map stepD
theorem dueL_upTo (rows : List (List Wy)) (ts ks : List Wy) : (upTo (fun i => freeB rows ts ks ((stepsW rows).getD i (.inr 0))) (stepsW rows).length).map (fun i => stepD ((stepsW rows).getD i (.inr 0))) = dueL rows ts ks := upTo_filt (stepsW rows) (.inr 0) (freeB rows ts ks) stepD
theorem stepsW_at {rows : List (List Wy)} (h2 : 2 ≤ rows.length) {G : Hp} {us : List V} (h : DqA G us (stepsD rows)) {i : Nat} {x : V} (hx : us[i]? = some x) : ∃ s, (stepsW rows).getD i (.inr 0) = s ∧ StpOk rows s ∧ Dq G x (stepD s) := by
  rw [stepsD_W] at h
  obtain ⟨d, h1, h2'⟩ := h.get hx
  rw [List.getElem?_map] at h1
  cases hq : (stepsW rows)[i]? with
  | none => rw [hq] at h1; cases h1
  | some s =>
    rw [hq] at h1
    have e : stepD s = d := Option.some.inj h1
    refine ⟨s, by rw [List.getD_eq_getElem?_getD, hq]; rfl, (stepsW_ok h2).mp (List.mem_of_getElem? hq), by rw [e]; exact h2'⟩
theorem noL_step (s : Stp) : noL (stepD s) = true := by
  rw [stepD_eq]
  show noLA (PyData.str (wordS s) :: (restS s).map PyData.int) = true
  exact noLA_all fun d hd => by
    rcases List.mem_cons.mp hd with z | z
    · rw [z]; rfl
    · obtain ⟨i, _, rfl⟩ := List.mem_map.mp z
      rfl
section
variable {P : Program} {w : World} {K : PySem.W.Frag} {mg : Str → Option Value} {base : Heap} {f : Addr} {fd : FuncData} {CW CN CK CB : Addr}
/-! due_steps -/
def spDS (K : PySem.W.Frag) (CK CW : Addr) : Sp := fun vs H Q _ => ∃ (x wv : Addr) (rows : List (List Wy)) (sv : V) (ts ks : List Wy), vs = [.ref x, sv] ∧ WkO CK CW H x (.ref wv) rows ∧ StD K H sv ts ks ∧ StOk rows ts ks ∧
  ∀ H' S us, Ex H H' → H S = none → H' S = some (.lst us) → DqA (off S (Fr H H')) us (dueL rows ts ks) → Q (.ref S) H'
abbrev sDS : Stmt := top 43
abbrev nDS : List Str := ["works", "stand", "step"]
theorem scDS : FnScope nDS ["works", "stand"] (defScope sDS) := ⟨rfl, rfl, rfl, by decide +kernel, rfl, by decide +kernel, by decide +kernel⟩
theorem ok_ds (T : KTx K mg CK) (CC : Cal P w K mg base "changed" ["works", "stand", "step"] 2 (spCh K CK CW)) (F : FnP K "due_steps" sDS f fd) : FnOk P w K mg base CX0 3 f fd ["works", "stand"] (spDS K CK CW) := by
  refine F.ok scDS (fun vs H Q E h => ?_) (fun cdv A outer s H vs Q E hr h => ?_)
  · obtain ⟨x, wv, rows, sv, ts, ks, rfl, _⟩ := h
    rfl
  · obtain ⟨x, wv, rows, sv, ts, ks, rfl, hk, hsv, hS, k⟩ := h
    refine ⟨_, pss_one (ps_ret (pe_lc (own := [("step", 2)]) (g := gName 2) rfl scDS.nd (pi_list (pe_fld (pv 0) rfl)) (blkOk_by (N := nDS) (sc := defScope sDS) (by decide +kernel))
      (fun _ _ _ _ _ => pg_name (i := 2) scDS.nd rfl (Or.inl rfl)) (fun _ _ _ _ _ => pts_one (pt_cmpR op_notN1 (pe_cal CC hr (by rfl) (pa_cons (pv 0) (pa_cons (pv 1) (pa_cons (pv 2) pa_nil)))) pe_non (nomark _))) (fun _ _ _ _ _ => pv 2))), ?_⟩
    have h2 := hk.wo.n2
    have h8 := hk.wo.n8
    obtain ⟨dx, Pd, Sd, fs, kvs, hv, ov, us, hx, fw, fp, fh, fo, fs', hP, hpk, hh, ho, hSd, hus⟩ := hk.ex
    have husH : DqA H us (stepsD rows) := hus.mono (off_in _ _)
    have hul := husH.length
    have hll := lnw_len rows
    have hsl : (stepsD rows).length ≤ 100 := by
      unfold stepsD
      rw [List.length_append, List.length_map, List.length_map, List.length_range]
      omega
    refine ret_any ?_
    refine dl_L (K := K) (j := 2) (vs := [2]) (fun i => freeB rows ts ks ((stepsW rows).getD i (.inr 0))) (fun i => stepD ((stepsW rows).getD i (.inr 0))) (ev_wf (mg := mg) T.cl T.n5 (ev_var (i := 0) rfl) hx fs') (sq_of hSd) (by omega) (fun y => rfl) (fun i y H1 e1 hy => ?_) (fun i y H1 e1 hy _ => ?_) H (Ex.refl _) _ fun p us' H2 np e2 hp hus' => ?_
    · obtain ⟨st, h1, h3, h4⟩ := stepsW_at h2 husH hy
      rw [h1]
      refine et_test fun H2 e2 Q2 q2 => ⟨.ref x, rfl, sv, rfl, y, rfl, x, wv, rows, sv, y, ts, ks, st, rfl, hk.up (e1.trans e2), hsv.up (e1.trans e2), hS, h4.mono (e1.trans e2), h3, fun he H' e => ⟨rfl, ?_⟩, fun hn H' u e hu nu => ⟨rfl, ?_⟩⟩
      · have : freeB rows ts ks st = false := by unfold freeB; rw [decide_eq_true he]; rfl
        rw [this] at q2
        exact q2 H' e
      · have : freeB rows ts ks st = true := by unfold freeB; rw [decide_eq_false hn]; rfl
        rw [this] at q2
        have : (!decide (u = V.non)) = true := by rw [decide_eq_false nu]; rfl
        rw [this]
        exact q2 H' e
    · obtain ⟨st, h1, h3, h4⟩ := stepsW_at h2 husH hy
      rw [h1]
      exact d_ev (ev_var (i := 2) rfl) (noL_step st) fun H2 e2 => h4.mono (e1.trans e2)
    · have el : us.length = (stepsW rows).length := by rw [hul, stepsD_W, List.length_map]
      rw [el, dueL_upTo] at hus'
      exact k H2 p us' e2 np hp hus'
/-! first_due -/
theorem dueW_none {rows : List (List Wy)} {ts ks : List Wy} (h : ∀ s ∈ stepsW rows, freeB rows ts ks s = false) : dueW rows ts ks = [] := by
  unfold dueW
  rw [List.filter_eq_nil_iff]
  intro s hs
  have := h s hs
  unfold freeB at this
  rw [this]
  simp
theorem due_first {rows : List (List Wy)} {ts ks : List Wy} : ∀ {l : List Stp} {i : Nat} {s : Stp}, (∀ j t, j < i → l[j]? = some t → freeB rows ts ks t = false) → l[i]? = some s → freeB rows ts ks s = true → ∃ r, l.filter (fun s => !decide (mvW rows ts ks s = (ts, ks))) = s :: r
  | [], i, s, _, h, _ => by cases h
  | a :: l, 0, s, _, h, hf => by
    have e : a = s := Option.some.inj h
    subst e
    unfold freeB at hf
    exact ⟨_, by rw [List.filter_cons, if_pos hf]⟩
  | a :: l, i + 1, s, hb, h, hf => by
    have h0 := hb 0 a (by omega) rfl
    unfold freeB at h0
    obtain ⟨r, hr⟩ := due_first (l := l) (i := i) (s := s) (fun j t hj ht => hb (j + 1) t (by omega) ht) h hf
    exact ⟨r, by rw [List.filter_cons, if_neg (by rw [h0]; decide)]; exact hr⟩
def spFD (K : PySem.W.Frag) (CK CW : Addr) : Sp := fun vs H Q _ => ∃ (x wv : Addr) (rows : List (List Wy)) (sv : V) (ts ks : List Wy), vs = [.ref x, sv] ∧ WkO CK CW H x (.ref wv) rows ∧ StD K H sv ts ks ∧ StOk rows ts ks ∧
  (dueW rows ts ks = [] → ∀ H', Ex H H' → Q .non H') ∧ (∀ s r u, dueW rows ts ks = s :: r → StpOk rows s → Dq H u (stepD s) → u ≠ .non → ∀ H', Ex H H' → Q u H')
abbrev sFD : Stmt := top 44
theorem scFD : FnScope nDS ["works", "stand"] (defScope sFD) := ⟨rfl, rfl, rfl, by decide +kernel, rfl, by decide +kernel, by decide +kernel⟩
theorem ok_fd (T : KTx K mg CK) (CC : Cal P w K mg base "changed" ["works", "stand", "step"] 2 (spCh K CK CW)) (F : FnP K "first_due" sFD f fd) : FnOk P w K mg base CX0 3 f fd ["works", "stand"] (spFD K CK CW) := by
  refine F.ok scFD (fun vs H Q E h => ?_) (fun cdv A outer s H vs Q E hr h => ?_)
  · obtain ⟨x, wv, rows, sv, ts, ks, rfl, _⟩ := h
    rfl
  · obtain ⟨x, wv, rows, sv, ts, ks, rfl, hk, hsv, hS, kN, kS⟩ := h
    refine ⟨_, pss_cons (ps_for (passes_of rfl) rfl (pi_list (pe_fld (pv 0) rfl)) (pg_name (i := 2) scFD.nd rfl (Or.inl rfl))
        (pss_one (ps_if (pt_cmpR op_notN1 (pe_cal CC hr (by rfl) (pa_cons (pv 0) (pa_cons (pv 1) (pa_cons (pv 2) pa_nil)))) pe_non (nomark _)) (pss_one (ps_ret (pv 2))) pss_nil)))
      (pss_one (ps_ret pe_non)), ?_⟩
    have h2 := hk.wo.n2
    obtain ⟨dx, Pd, Sd, fs, kvs, hv, ov, us, hx, fw, fp, fh, fo, fs', hP, hpk, hh, ho, hSd, hus⟩ := hk.ex
    have husH : DqA H us (stepsD rows) := hus.mono (off_in _ _)
    have hul : us.length = (stepsW rows).length := by rw [husH.length, stepsD_W, List.length_map]
    refine q_forC (fun l xs H1 => l = Sd ∧ xs = us ∧ Ex H H1) (fun Q q => (ev_wf (mg := mg) T.cl T.n5 (ev_var (i := 0) rfl) hx fs' : Ev (tFld K (tVar 0) "steps") _ H (.ref Sd)) H (Ex.refl _) _ fun H1 e1 => q Sd us H1 ⟨rfl, rfl, e1⟩) ?_
    rintro l xs H1 ⟨rfl, rfl, e1⟩
    refine ⟨sq_of (e1 _ _ hSd), fun i σ' H' => Ex H H' ∧ (∃ o2, σ' = [some (.ref x), some sv, o2]) ∧ ∀ j t, j < i → (stepsW rows)[j]? = some t → freeB rows ts ks t = false, ⟨e1, ⟨_, rfl⟩, fun j t hj => by omega⟩, fun i σ' H' _ h => sq_of (h.1 _ _ hSd), ?_, ?_⟩
    · rintro i y σ' H2 hy ⟨e2, ⟨p2, rfl⟩, hno⟩
      obtain ⟨st, h1, h3, h4⟩ := stepsW_at h2 husH hy
      have hsi : (stepsW rows)[i]? = some st := by
        have hi : i < (stepsW rows).length := by rw [← hul]; exact (List.getElem?_eq_some_iff.mp hy).1
        rw [List.getD_eq_getElem?_getD, List.getElem?_eq_getElem hi] at h1
        rw [List.getElem?_eq_getElem hi]
        exact congrArg some h1
      refine g_name ?_
      change tIfS _ _ _ _ [some (.ref x), some sv, some y] H2
      have yn : y ≠ .non := fun z => by
        have q := h4
        rw [z, stepD_eq] at q
        cases q
      refine s_when (b := freeB rows ts ks st) (et_test fun H3 e3 Q3 q3 => ⟨.ref x, rfl, sv, rfl, y, rfl, x, wv, rows, sv, y, ts, ks, st, rfl, hk.up (e2.trans e3), hsv.up (e2.trans e3), hS, h4.mono (e2.trans e3), h3, fun he H' e => ⟨rfl, ?_⟩, fun hn H' u e hu nu => ⟨rfl, ?_⟩⟩) (fun hb H3 e3 => ?_) (fun hb H3 e3 => ?_)
      · have : freeB rows ts ks st = false := by unfold freeB; rw [decide_eq_true he]; rfl
        rw [this] at q3
        exact q3 H' e
      · have : freeB rows ts ks st = true := by unfold freeB; rw [decide_eq_false hn]; rfl
        rw [this] at q3
        have : (!decide (u = V.non)) = true := by rw [decide_eq_false nu]; rfl
        rw [this]
        exact q3 H' e
      · obtain ⟨r, hr⟩ := due_first hno hsi hb
        exact s_ret (ev_var rfl) fun H4 e4 => kS st r y hr h3 h4 yn H4 ((e2.trans e3).trans e4)
      · refine ⟨e2.trans e3, ⟨_, rfl⟩, fun j t hj ht => ?_⟩
        by_cases c : j = i
        · subst c
          rw [hsi] at ht
          rw [← Option.some.inj ht]
          exact hb
        · exact hno j t (by omega) ht
    · rintro σ' H2 ⟨e2, ⟨p2, rfl⟩, hno⟩
      refine s_ret ev_c fun H3 e3 => kN (dueW_none fun t ht => ?_) H3 (e2.trans e3)
      obtain ⟨j, hj⟩ := List.mem_iff_getElem?.mp ht
      exact hno j t (by rw [hul]; exact (List.getElem?_eq_some_iff.mp hj).1) hj
/-! due, of a stand that is one -/
def spDue (K : PySem.W.Frag) (CW : Addr) : Sp := fun vs H Q _ => ∃ (wv : Addr) (rows : List (List Wy)) (sv : V) (ts ks : List Wy), vs = [.ref wv, sv] ∧ WO CW H (.ref wv) rows ∧ StD K H sv ts ks ∧ StOk rows ts ks ∧
  ∀ H' S us, Ex H H' → H S = none → H' S = some (.lst us) → DqA (off S H') us (dueL rows ts ks) → Q (.ref S) H'
abbrev sDue : Stmt := top 50
abbrev nDue : List Str := ["wishes", "stand", "works"]
theorem scDue : FnScope nDue ["wishes", "stand"] (defScope sDue) := ⟨rfl, rfl, rfl, by decide +kernel, rfl, by decide +kernel, by decide +kernel⟩
theorem ok_due (M : MkK P w K mg base CK CW) (CS : Cal P w K mg base "is_stand_of" ["works", "thing"] 9 (spSO1 K CK CW)) (CD : Cal P w K mg base "due_steps" ["works", "stand"] 3 (spDS K CK CW)) (F : FnP K "due" sDue f fd) : FnOk P w K mg base CX0 10 f fd ["wishes", "stand"] (spDue K CW) := by
  obtain ⟨fI, fdI, mk, FI, bI⟩ := M.ex
  refine F.ok scDue (fun vs H Q E h => ?_) (fun cdv A outer s H vs Q E hr h => ?_)
  · obtain ⟨wv, rows, sv, ts, ks, rfl, _⟩ := h
    rfl
  · obtain ⟨wv, rows, sv, ts, ks, rfl, hw, hsv, hS, kQ⟩ := h
    have r9 : Room 9 _ := hr
    have r3 : Room 3 _ := hr.mono (by decide)
    refine ⟨_, pss_cons (ps_set (i := 2) scDue.nd rfl (Or.inl rfl) (pe_mkAt mk FI r9 (by rfl) M.tx.g bI (W := fun _ => E0) (fun σ => passAt0) (pa_cons (pv 0) pa_nil)))
      (pss_cons (ps_if (pt_not (pt_val (pe_cal CS r9 (by rfl) (pa_cons (pv 2) (pa_cons (pv 1) pa_nil))))) (pss_one ps_never) pss_nil)
      (pss_one (ps_ret (pe_cal CD r3 (by rfl) (pa_cons (pv 2) (pa_cons (pv 1) pa_nil)))))), ?_⟩
    refine q_asgW (t_mkW (ev_var (i := 0) rfl) hw fun H1 x e1 nx hk _ => ?_)
    change tSeq _ _ _ [some (.ref wv), some sv, some (.ref x)] H1
    have c1 : Ev (tCall (spSO1 K CK CW) [] E0 (tCons (tVar 2) (tCons (tVar 1) tNil))) [some (.ref wv), some sv, some (.ref x)] H1 (.bl true) := ev_call (ea_cons (ev_var rfl) (ea_cons (ev_var rfl) ea_nil)) (spP_v fun H2 e2 => ⟨x, wv, rows, sv, ts, ks, rfl, hk.up e2, (hsv.up (e1.trans e2)).dp, hS, rfl⟩)
    refine q_when (b := !true) (et_not (et_B c1)) (fun hb => by cases hb) (fun _ H2 e2 => ?_)
    have e12 := e1.trans e2
    exact ret_any ⟨.ref x, rfl, sv, rfl, x, wv, rows, sv, ts, ks, rfl, hk.up e2, hsv.up e12, hS, fun H3 S us e3 nS hS3 hus => kQ H3 S us (e12.trans e3) (fresh_back e12 nS) hS3 (hus.mono (off_ex fr_sub))⟩
/-! done, of what is right -/
theorem stp_hd (s : Stp) : HdOk (stepD s) := fun z r h => by
  rw [stepD_eq] at h
  injection h with h
  injection h with h _
  injection h with h
  rw [← h]
  exact word_ok s
theorem stp_len {rows : List (List Wy)} {s : Stp} (hG : GW rows) (h8 : rows.length ≤ 8) (h : StpOk rows s) : (itemsT (stepD s)).length ≤ 1000 := by
  cases s with
  | inl p =>
    obtain ⟨u, v, rfl, _⟩ := ln_shape hG h8 h
    show 3 ≤ 1000
    omega
  | inr r =>
    show 2 ≤ 1000
    omega
theorem ev_stp {σ : L2.St} {H : Hp} {ta : TA} {x wv : Addr} {rows : List (List Wy)} {v : V} {s : Stp} (ha : EvA ta σ H [.ref x, v]) (hk : WkO CK CW H x (.ref wv) rows) (hv : Dq H v (stepD s)) (hs : StpOk rows s) : Ev (tCall (spStp CK CW) [] E0 ta) σ H (.bl true) :=
  ev_call ha (spP_v fun H2 e2 => ⟨x, wv, rows, v, stepD s, true, rfl, hk.up e2, hv.mono e2, stp_hd s, stp_len hk.wo.g hk.wo.n8 hs, ⟨fun _ => ⟨s, hs, rfl⟩, fun _ => rfl⟩, rfl⟩)
def spDone (K : PySem.W.Frag) (CW : Addr) : Sp := fun vs H Q _ => ∃ (wv : Addr) (rows : List (List Wy)) (sv stv : V) (ts ks : List Wy) (s : Stp), vs = [.ref wv, sv, stv] ∧ WO CW H (.ref wv) rows ∧ StD K H sv ts ks ∧ StOk rows ts ks ∧ Dq H stv (stepD s) ∧ StpOk rows s ∧
  ∀ H' u, Ex H H' → StD K H' u (mvW rows ts ks s).1 (mvW rows ts ks s).2 → Q u H'
abbrev sDone : Stmt := top 49
abbrev nDone : List Str := ["wishes", "stand", "step", "works"]
theorem scDone : FnScope nDone ["wishes", "stand", "step"] (defScope sDone) := ⟨rfl, rfl, rfl, by decide +kernel, rfl, by decide +kernel, by decide +kernel⟩
theorem ok_done (M : MkK P w K mg base CK CW) (CS : Cal P w K mg base "is_stand_of" ["works", "thing"] 9 (spSO1 K CK CW)) (CP : Cal P w K mg base "is_step_of" ["works", "thing"] 2 (spStp CK CW)) (CA : Cal P w K mg base "after" ["works", "stand", "step"] 3 (spAft K CK CW)) (F : FnP K "done" sDone f fd) : FnOk P w K mg base CX0 10 f fd ["wishes", "stand", "step"] (spDone K CW) := by
  obtain ⟨fI, fdI, mk, FI, bI⟩ := M.ex
  refine F.ok scDone (fun vs H Q E h => ?_) (fun cdv A outer s H vs Q E hr h => ?_)
  · obtain ⟨wv, rows, sv, stv, ts, ks, s, rfl, _⟩ := h
    rfl
  · obtain ⟨wv, rows, sv, stv, ts, ks, st, rfl, hw, hsv, hS, hst, hok, kQ⟩ := h
    have r9 : Room 9 _ := hr
    have r3 : Room 3 _ := hr.mono (by decide)
    have r2 : Room 2 _ := hr.mono (by decide)
    refine ⟨_, pss_cons (ps_set (i := 3) scDone.nd rfl (Or.inl rfl) (pe_mkAt mk FI r9 (by rfl) M.tx.g bI (W := fun _ => E0) (fun σ => passAt0) (pa_cons (pv 0) pa_nil)))
      (pss_cons (ps_if (pt_not (pt_val (pe_cal CS r9 (by rfl) (pa_cons (pv 3) (pa_cons (pv 1) pa_nil))))) (pss_one ps_never) pss_nil)
      (pss_cons (ps_if (pt_not (pt_val (pe_cal CP r2 (by rfl) (pa_cons (pv 3) (pa_cons (pv 2) pa_nil))))) (pss_one ps_never) pss_nil)
      (pss_one (ps_ret (pe_cal CA r3 (by rfl) (pa_cons (pv 3) (pa_cons (pv 1) (pa_cons (pv 2) pa_nil)))))))), ?_⟩
    refine q_asgW (t_mkW (ev_var (i := 0) rfl) hw fun H1 x e1 nx hk _ => ?_)
    change tSeq _ _ _ [some (.ref wv), some sv, some stv, some (.ref x)] H1
    have c1 : Ev (tCall (spSO1 K CK CW) [] E0 (tCons (tVar 3) (tCons (tVar 1) tNil))) [some (.ref wv), some sv, some stv, some (.ref x)] H1 (.bl true) := ev_call (ea_cons (ev_var rfl) (ea_cons (ev_var rfl) ea_nil)) (spP_v fun H2 e2 => ⟨x, wv, rows, sv, ts, ks, rfl, hk.up e2, (hsv.up (e1.trans e2)).dp, hS, rfl⟩)
    refine q_when (b := !true) (et_not (et_B c1)) (fun hb => by cases hb) (fun _ H2 e2 => ?_)
    have e12 := e1.trans e2
    refine q_when (b := !true) (et_not (et_B (ev_stp (ea_cons (ev_var (i := 3) rfl) (ea_cons (ev_var (i := 2) rfl) ea_nil)) (hk.up e2) (hst.mono e12) hok))) (fun hb => by cases hb) (fun _ H3 e3 => ?_)
    have e13 := e12.trans e3
    exact ret_any ⟨.ref x, rfl, sv, rfl, stv, rfl, x, wv, rows, sv, stv, ts, ks, st, rfl, hk.up (e2.trans e3), hsv.up e13, hS, hst.mono e13, hok, fun H4 u e4 hu => kQ H4 u (e13.trans e4) hu⟩
/-! is_row -/
abbrev spIsRow (K : PySem.W.Frag) : Sp := spP fun H vs z => ∃ (v : V) (ds : List PyData), vs = [v] ∧ Dp K H v (.list ds) ∧ z = .bl true
abbrev sIsRow : Stmt := top 13
theorem scIsRow : FnScope ["thing"] ["thing"] (defScope sIsRow) := ⟨rfl, rfl, rfl, by decide +kernel, rfl, by decide +kernel, by decide +kernel⟩
theorem ok_isRow (B : Bl mg) (F : FnP K "is_row" sIsRow f fd) : FnOk P w K mg base CX0 1 f fd ["thing"] (spIsRow K) := by
  refine F.ok scIsRow (fun vs H Q E h => ?_) (fun cdv A outer s H vs Q E hr h => ?_)
  · obtain ⟨z, ⟨v, d, rfl, _⟩, _⟩ := h
    rfl
  · obtain ⟨z, ⟨v, d, rfl, hv, rfl⟩, k⟩ := h
    exact ⟨_, pss_one (ps_ret (pe_callB call_isiT (by rfl) B.isi boot_isinstance (pa_cons (pv 0) (pa_cons (pe_tup (pa_cons (pe_bltn (v := .ty "list") (by rfl) B.list PyProof.Rows.boot_list rfl) (pa_cons (pe_bltn (v := .ty "tuple") (by rfl) B.tuple PyProof.Rows.boot_tuple rfl) pa_nil))) pa_nil)))),
      s_ret (ev_is (ep_isi2 (ev_var rfl) hv k_ll k_lt) rfl) k⟩
end
end Wk

set_option Elab.async false
set_option linter.all false
set_option maxRecDepth 100000
set_option maxHeartbeats 2000000
namespace Wk
open PySem PySem.Spec PyProof.Rows L2 Evl
theorem layA_stp (ss : List Stp) : PyData.canLayAll0 (ss.map stepD) = true := layAll.mpr fun d hd => by
  obtain ⟨s, _, rfl⟩ := List.mem_map.mp hd
  rw [stepD_eq]
  simp only [PyData.canLay0]
  exact lay_str1 (word_ok s) _
theorem stps_at {G : Hp} {us : List V} {ss : List Stp} (h : DqA G us (ss.map stepD)) {i : Nat} {y : V} (hy : us[i]? = some y) : ∃ s, ss[i]? = some s ∧ Dq G y (stepD s) := by
  obtain ⟨d, h1, h2⟩ := h.get hy
  rw [List.getElem?_map] at h1
  cases hs : ss[i]? with
  | none => rw [hs] at h1; cases h1
  | some s =>
    rw [hs] at h1
    rw [← (Option.some.inj h1 : stepD s = d)] at h2
    exact ⟨s, rfl, h2⟩
section
variable {P : Program} {w : World} {K : PySem.W.Frag} {mg : Str → Option Value} {base : Heap} {f : Addr} {fd : FuncData} {CW CN CK CT CR : Addr}
/-! first_stand, begin -/
def spFirstD (K : PySem.W.Frag) (CK CW : Addr) : Sp := fun vs H Q _ => ∃ (x wv : Addr) (rows : List (List Wy)), vs = [.ref x] ∧ WkO CK CW H x (.ref wv) rows ∧ ∀ H' u, Ex H H' → StD K H' u (begT rows) (begK rows) → Q u H'
abbrev sFirstD : Stmt := top 36
theorem scFirstD : FnScope ["works", "takes"] ["works"] (defScope sFirstD) := ⟨rfl, rfl, rfl, by decide +kernel, rfl, by decide +kernel, by decide +kernel⟩
theorem ok_firstD (B : Bl mg) (T : KTx K mg CK) (TW : WTx K mg CW) {ag : Addr} (hG : mg "GOAL_WAY" = some (.ref ag)) (hGt : ∀ H, SqT K H ag [.int 0]) (F : FnP K "first_stand" sFirstD f fd) : FnOk P w K mg base CX0 1 f fd ["works"] (spFirstD K CK CW) := by
  refine F.ok scFirstD (fun vs H Q E h => ?_) (fun cdv A outer s H vs Q E hr h => ?_)
  · obtain ⟨x, wv, rows, rfl, _⟩ := h
    rfl
  · obtain ⟨x, wv, rows, rfl, hk, k⟩ := h
    refine ⟨_, pss_cons (ps_set (i := 1) scFirstD.nd rfl (Or.inl rfl) (pe_op op_catA (pe_tup (pa_cons (pe_glob (v := .ref ag) (by rfl) hG rfl) pa_nil)) (pe_op (op_repV (K := K) rfl) (pe_tup (pa_cons (pe_tup pa_nil) pa_nil)) (pe_op op_sub (pe_fld (pe_fld (pv 0) rfl) rfl) pe_int))))
      (pss_one (ps_ret (pe_tup (pa_cons (pv 1) (pa_cons (pe_op (op_repV (K := K) rfl) (pe_tup (pa_cons (pe_tup pa_nil) pa_nil)) (pe_callB call_len_seq (by rfl) B.len PySem.boot_len (pa_cons (pe_fld (pv 0) rfl) pa_nil))) pa_nil))))), ?_⟩
    obtain ⟨dx, fs, ha, us, hx, fw, fh, hha, hus, hul⟩ := hk.hv
    have hw := hk.wo
    have n8 := hw.n8
    have n2 := hw.n2
    have hll := lnw_len rows
    refine q_asgW ⟨by show 1 ≤ sizeLine; decide, fun t1 ht1 => ?_⟩
    have e1 := Ex.new (o := .tup [V.ref ag]) ht1
    have h1 : (upd H t1 (.tup [V.ref ag])) t1 = some (.tup [V.ref ag]) := upd_same
    generalize upd H t1 (.tup [V.ref ag]) = H1 at *
    refine t_emRep (K := K) (n := rows.length - 1) (fun H2 e2 => ?_) (by omega) fun t e H2 e2 he ht => ?_
    · have hx2 := (e1.trans e2) _ _ hx
      exact ev_is (ev_op (ev_wsize TW (ev_wf (mg := mg) T.cl T.n1 (ev_var (i := 0) rfl) hx2 fw) (hw.up (e1.trans e2))) ev_c rv_I0) (by rw [show ((rows.length : Int) - 1) = ((rows.length - 1 : Nat) : Int) by omega])
    refine ⟨t1, t, [.ref ag], List.replicate (rows.length - 1) (.ref e), rfl, rfl, st_of (e2 _ _ h1), st_of ht, by rw [List.length_replicate, sizeLine_eq]; show 1 + _ ≤ _; omega, (fun z => by cases z), fun _ z => ?_, fun _ _ b hb => ?_⟩
    · exfalso
      have := congrArg List.length z
      rw [List.length_replicate] at this
      simp at this
      omega
    have e3 := Ex.new (o := .tup ([V.ref ag] ++ List.replicate (rows.length - 1) (.ref e))) hb
    have hb3 : (upd H2 b (.tup ([V.ref ag] ++ List.replicate (rows.length - 1) (.ref e)))) b = some (.tup ([V.ref ag] ++ List.replicate (rows.length - 1) (.ref e))) := upd_same
    have he3 := e3 _ _ he
    generalize upd H2 b (.tup ([V.ref ag] ++ List.replicate (rows.length - 1) (.ref e))) = H3 at *
    have e03 := (e1.trans e2).trans e3
    change tRet _ _ [some (.ref x), some (.ref b)] H3
    refine ⟨.ref b, rfl, t_emRep (K := K) (n := (linesW rows).length) (fun H4 e4 => ?_) (by omega) fun t' e' H4 e4 he' ht' => ⟨by show 2 ≤ sizeLine; decide, fun T2 hT2 => ?_⟩⟩
    · have hx4 := (e03.trans e4) _ _ hx
      rw [← hul]
      exact ev_len (K := K) (ev_wf (mg := mg) T.cl T.n3 (ev_var (i := 0) rfl) hx4 fh) (sq_of ((e03.trans e4) _ _ hha))
    have e5 := Ex.new (o := .tup [V.ref b, .ref t']) hT2
    refine k _ _ ((e03.trans e4).trans e5) ⟨T2, b, t', _, _, rfl, upd_same, (e4.trans e5) _ _ hb3, e5 _ _ ht', ?_, dpa_em (e5 _ _ he') _⟩
    exact .cons (dp_of_wd (w := [0]) (hGt _)) (dpa_em ((e4.trans e5) _ _ he3) _)
def spBeginD (K : PySem.W.Frag) (CW : Addr) : Sp := fun vs H Q _ => ∃ (wv : Addr) (rows : List (List Wy)), vs = [.ref wv] ∧ WO CW H (.ref wv) rows ∧ ∀ H' u, Ex H H' → StD K H' u (begT rows) (begK rows) → Q u H'
abbrev sBeginD : Stmt := top 47
theorem scBeginD : FnScope ["wishes"] ["wishes"] (defScope sBeginD) := ⟨rfl, rfl, rfl, by decide +kernel, rfl, by decide +kernel, by decide +kernel⟩
theorem ok_beginD (M : MkK P w K mg base CK CW) (CF : Cal P w K mg base "first_stand" ["works"] 1 (spFirstD K CK CW)) (F : FnP K "begin" sBeginD f fd) : FnOk P w K mg base CX0 10 f fd ["wishes"] (spBeginD K CW) := by
  obtain ⟨fI, fdI, mk, FI, bI⟩ := M.ex
  refine F.ok scBeginD (fun vs H Q E h => ?_) (fun cdv A outer s H vs Q E hr h => ?_)
  · obtain ⟨wv, rows, rfl, _⟩ := h
    rfl
  · obtain ⟨wv, rows, rfl, hw, k⟩ := h
    have r9 : Room 9 _ := hr
    have r1 : Room 1 _ := hr.mono (by decide)
    refine ⟨_, pss_one (ps_ret (pe_cal CF r1 (by rfl) (pa_cons (pe_mkAt mk FI r9 (by rfl) M.tx.g bI (W := fun _ => E0) (fun σ => passAt0) (pa_cons (pv 0) pa_nil)) pa_nil))), ?_⟩
    refine ret_any (call1 (t_mkW (ev_var (i := 0) rfl) hw fun H1 x e1 nx hk _ => ?_))
    exact ⟨x, wv, rows, rfl, hk, fun H2 u e2 hu => k H2 u (e1.trans e2) hu⟩
theorem tf_new (kw pa : Addr) (sv : V) : Tf (putF "past" (.ref pa) (putF "many" (.int 0) (putF "stand" sv (putF "_works" (.ref kw) [])))) kw sv pa 0 := by
  refine ⟨?_, ?_, ?_, lk_putS, ?_, ?_, ?_, ?_, ?_, ?_, ?_, ?_⟩
  · rw [lk_putF (by decide +kernel), lk_putF (by decide +kernel), lk_putF (by decide +kernel)]; exact lk_putS
  · rw [lk_putF (by decide +kernel), lk_putF (by decide +kernel)]; exact lk_putS
  · rw [lk_putF (by decide +kernel)]; exact lk_putS
  · rw [lk_putF (by decide +kernel), lk_putF (by decide +kernel), lk_putF (by decide +kernel), lk_putF (by decide +kernel)]; rfl
  · rw [lk_putF (by decide +kernel), lk_putF (by decide +kernel), lk_putF (by decide +kernel), lk_putF (by decide +kernel)]; rfl
  · rw [lk_putF (by decide +kernel), lk_putF (by decide +kernel), lk_putF (by decide +kernel), lk_putF (by decide +kernel)]; rfl
  · rw [lk_putF (by decide +kernel), lk_putF (by decide +kernel), lk_putF (by decide +kernel), lk_putF (by decide +kernel)]; rfl
  · rw [lk_putF (by decide +kernel), lk_putF (by decide +kernel), lk_putF (by decide +kernel), lk_putF (by decide +kernel)]; rfl
  · rw [lk_putF (by decide +kernel), lk_putF (by decide +kernel), lk_putF (by decide +kernel), lk_putF (by decide +kernel)]; rfl
  · rw [lk_putF (by decide +kernel), lk_putF (by decide +kernel), lk_putF (by decide +kernel), lk_putF (by decide +kernel)]; rfl
  · have h1 := len_putF "past" (.ref pa) (putF "many" (.int 0) (putF "stand" sv (putF "_works" (.ref kw) [])))
    have h2 := len_putF "many" (.int 0) (putF "stand" sv (putF "_works" (.ref kw) []))
    have h3 := len_putF "stand" sv (putF "_works" (.ref kw) [])
    have h4 := len_putF "_works" (.ref kw) []
    simp only [List.length_nil] at h4
    omega
/-! Talk.__init__ -/
theorem WkO.hide {CT : Addr} {H : Hp} {k x dx wv : Addr} {fs : List (Str × V)} {rows : List (List Wy)} (h : WkO CK CW H k (.ref wv) rows) (hx : H x = some (.ins CT dx fs)) (nk : k ≠ x) (nw : wv ≠ x) {H' : Hp} (o : Of1 x H H') : WkO CK CW H' k (.ref wv) rows := by
  obtain ⟨dk, Pd, Sd, fk, kvs, hv, ov, us, h1, fw, fp, fh, fo, fs', hP, hpk, hh, ho, hSd, hus⟩ := h.ex
  have nP : Pd ≠ x := fun z => by rw [z, hx] at hP; cases hP
  have nS : Sd ≠ x := fun z => by rw [z, hx] at hSd; cases hSd
  refine ⟨⟨dk, Pd, Sd, fk, kvs, hv, ov, us, o _ _ nk h1, fw, fp, fh, fo, fs', o _ _ nP hP, hpk, dq_of1 o hx hh, dq_of1 o hx ho, o _ _ nS hSd, ?_⟩, h.wo.of1 nw o hx⟩
  refine dqa_of1 (x := x) (C := CT) (dx := dx) (fs := fs) (fun b u nb hb => ?_) (by rw [off_at (Ne.symm nS)]; exact hx) hus
  have nbS : b ≠ Sd := fun z => by rw [z] at hb; unfold off at hb; rw [if_pos rfl] at hb; cases hb
  rw [off_at nbS] at hb ⊢
  exact o b u nb hb
def spTI (K : PySem.W.Frag) (CT CK CW : Addr) : Sp := fun vs H Q _ => ∃ (x dx wv : Addr) (rows : List (List Wy)), vs = [.ref x, .ref wv] ∧ H x = some (.ins CT dx []) ∧ wv ≠ x ∧ WO CW H (.ref wv) rows ∧ ∀ H' pa kw, Of1 x H H' → (∀ b, H' b = none → H b = none) → H pa = none → TaO K CT CK CW H' x pa wv kw rows (begT rows, begK rows) [] → Q .non H'
abbrev sTI : Stmt := inClass (top 51) 0
abbrev nTI : List Str := ["self", "wishes"]
theorem scTI : FnScope nTI nTI (defScope sTI) := ⟨rfl, rfl, rfl, by decide +kernel, rfl, by decide +kernel, by decide +kernel⟩
theorem ok_ti (T : TTx K CT) (M : MkK P w K mg base CK CW) (CF : Cal P w K mg base "first_stand" ["works"] 1 (spFirstD K CK CW)) (F : FnM K "__init__" "Talk.__init__" sTI f fd) : FnOk P w K mg base CX0 10 f fd nTI (spTI K CT CK CW) := by
  obtain ⟨fI, fdI, mk, FI, bI⟩ := M.ex
  refine F.ok scTI (fun vs H Q E h => ?_) (fun cdv A outer s H vs Q E hr h => ?_)
  · obtain ⟨x, dx, wv, rows, rfl, _⟩ := h
    rfl
  · obtain ⟨x, dx, wv, rows, rfl, hx, nw, hw, k⟩ := h
    have r9 : Room 9 _ := hr
    have r1 : Room 1 _ := hr.mono (by decide)
    refine ⟨_, pss_cons (ps_fld (pv 0) (pe_mkAt mk FI r9 (by rfl) M.tx.g bI (W := fun _ => E0) (fun σ => passAt0) (pa_cons (pv 1) pa_nil)) rfl)
      (pss_cons (ps_fld (pv 0) (pe_cal CF r1 (by rfl) (pa_cons (pe_fld (pv 0) rfl) pa_nil)) rfl)
      (pss_cons (ps_fld (pv 0) pe_int rfl)
      (pss_one (ps_fld (pv 0) (pe_lst pa_nil) rfl)))), ?_⟩
    have h2 := hw.n2
    refine q_fldU (t_mkW (ev_var (i := 1) rfl) hw fun H1 kw e1 nk hk _ => ?_)
    have hx1 := e1 _ _ hx
    have nkx : kw ≠ x := fun z => by rw [z, hx] at nk; cases nk
    refine ⟨.ref x, rfl, x, CT, dx, [], rfl, hx1, T.cl, T.n1, by decide, ?_⟩
    have o2 := Of1.upd x H1 (.ins CT dx (putF "_works" (.ref kw) []))
    have s2 : ∀ b, (upd H1 x (.ins CT dx (putF "_works" (.ref kw) []))) b = none → H b = none := fun b h => ex_sv e1 (upd_sv h)
    have hx2 : (upd H1 x (.ins CT dx (putF "_works" (.ref kw) []))) x = some (.ins CT dx (putF "_works" (.ref kw) [])) := upd_same
    have hk2 := hk.hide hx1 nkx nw o2
    have f1 : (putF "_works" (.ref kw) ([] : List (Str × V))).length ≤ 1 := len_putF _ _ _
    generalize hF1 : putF "_works" (.ref kw) ([] : List (Str × V)) = fs1 at *
    generalize upd H1 x (.ins CT dx fs1) = H2 at *
    have a1 : fs1.lookup ("_works" : Str) = some (.ref kw) := by rw [← hF1]; exact lk_putS
    refine q_fldU ⟨.ref x, rfl, x, CT, dx, fs1, _, rfl, hx2, T.cl, T.n1, a1, kw, wv, rows, rfl, hk2, fun H3 sv e3 hsv => ⟨.ref x, rfl, x, CT, dx, fs1, rfl, e3 _ _ hx2, T.cl, T.n2, by omega, ?_⟩⟩
    have hx3 := e3 _ _ hx2
    have o4 := Of1.upd x H3 (.ins CT dx (putF "stand" sv fs1))
    have s4 : ∀ b, (upd H3 x (.ins CT dx (putF "stand" sv fs1))) b = none → H b = none := fun b h => s2 b (ex_sv e3 (upd_sv h))
    have hx4 : (upd H3 x (.ins CT dx (putF "stand" sv fs1))) x = some (.ins CT dx (putF "stand" sv fs1)) := upd_same
    have hk4 := (hk2.up e3).hide hx3 nkx nw o4
    have hsv4 := hsv.kt (Kt.of1 o4 hx3)
    have o04 := ((Of1.ex (x := x) e1).trans o2).trans ((Of1.ex e3).trans o4)
    have f2 : (putF "stand" sv fs1).length ≤ 2 := by have := len_putF "stand" sv fs1; omega
    generalize hF2 : putF "stand" sv fs1 = fs2 at *
    generalize upd H3 x (.ins CT dx fs2) = H4 at *
    refine q_fldU ⟨.ref x, rfl, x, CT, dx, fs2, rfl, hx4, T.cl, T.n3, by omega, ?_⟩
    have o5 := Of1.upd x H4 (.ins CT dx (putF "many" (.int 0) fs2))
    have s5 : ∀ b, (upd H4 x (.ins CT dx (putF "many" (.int 0) fs2))) b = none → H b = none := fun b h => s4 b (upd_sv h)
    have hx5 : (upd H4 x (.ins CT dx (putF "many" (.int 0) fs2))) x = some (.ins CT dx (putF "many" (.int 0) fs2)) := upd_same
    have hk5 := hk4.hide hx4 nkx nw o5
    have hsv5 := hsv4.kt (Kt.of1 o5 hx4)
    have o05 := o04.trans o5
    have f3 : (putF "many" (.int 0) fs2).length ≤ 3 := by have := len_putF "many" (.int 0) fs2; omega
    generalize hF3 : putF "many" (.int 0) fs2 = fs3 at *
    generalize upd H4 x (.ins CT dx fs3) = H5 at *
    refine s_fldU ⟨by show 0 ≤ sizeLine; decide, fun pa np => ⟨.ref x, rfl, x, CT, dx, fs3, rfl, ?_, T.cl, T.n4, by omega, ?_⟩⟩
    · rw [upd_ne (fun z => by rw [← z, hx5] at np; cases np)]
      exact hx5
    have npx : pa ≠ x := fun z => by rw [z, hx5] at np; cases np
    have o7 := (Of1.ex (x := x) (Ex.new (o := .lst []) np)).trans (Of1.upd x (upd H5 pa (.lst [])) (.ins CT dx (putF "past" (.ref pa) fs3)))
    have s7 : ∀ b, (upd (upd H5 pa (.lst [])) x (.ins CT dx (putF "past" (.ref pa) fs3))) b = none → H b = none := fun b h => s5 b (upd_sv (upd_sv h))
    have hx7 : (upd (upd H5 pa (.lst [])) x (.ins CT dx (putF "past" (.ref pa) fs3))) x = some (.ins CT dx (putF "past" (.ref pa) fs3)) := upd_same
    have hp7 : (upd (upd H5 pa (.lst [])) x (.ins CT dx (putF "past" (.ref pa) fs3))) pa = some (.lst []) := by rw [upd_ne npx, upd_same]
    have hh : Of1 x H5 (Hd (upd (upd H5 pa (.lst [])) x (.ins CT dx (putF "past" (.ref pa) fs3))) x pa) := fun b u nb hb => by
      rw [hd_at nb (fun z => by rw [z, np] at hb; cases hb)]
      exact o7 b u nb hb
    refine k _ pa kw (o05.trans o7) s7 (s5 _ np) ⟨⟨dx, _, sv, [], hx7, ?_, hp7, hk5.hide hx5 nkx nw hh, hsv5.kt (Kt.of1 hh hx5), PsA.nil _ _⟩, stOk_beg h2, fun t ht => by cases ht⟩
    subst hF3 hF2 hF1
    exact tf_new kw pa sv
end
end Wk

set_option Elab.async false
set_option linter.all false
set_option maxRecDepth 100000
set_option maxHeartbeats 2000000
namespace Wk
open PySem PySem.Spec PyProof.Rows L2 Evl
theorem take_all {α : Type} (l : List α) : l.take l.length = l := List.take_length
section
variable {P : Program} {w : World} {K : PySem.W.Frag} {mg : Str → Option Value} {base : Heap} {f : Addr} {fd : FuncData} {CW CN CK CT CR : Addr}
theorem TaO.wk {H : Hp} {x pa wv kw : Addr} {rows : List (List Wy)} {st : St2} {past : List St2} {σ : L2.St} {te : TE} (T : TTx K CT) (hT : TaO K CT CK CW H x pa wv kw rows st past) (h : Ev te σ H (.ref x)) : WkO CK CW H kw (.ref wv) rows ∧ Ev (tFld K te "_works") σ H (.ref kw) := by
  obtain ⟨dx, fs, sv, us, hx, tf, hp, hk, hsv, hps⟩ := hT.ex
  exact ⟨hk.up hd_sub, fun H1 e Q q => h H1 e _ fun H2 e2 => ⟨x, CT, dx, fs, _, rfl, (e.trans e2) _ _ hx, T.cl, T.n1, tf.wk, q H2 e2⟩⟩
/-! Talk.do -/
abbrev sDo : Stmt := inClass (top 51) 1
theorem scDo : FnScope ["self", "step"] ["self", "step"] (defScope sDo) := ⟨rfl, rfl, rfl, by decide +kernel, rfl, by decide +kernel, by decide +kernel⟩
theorem ok_do (T : TTx K CT) (CP : Cal P w K mg base "is_step_of" ["works", "thing"] 2 (spStp CK CW)) (MG : Msk P w K mg base CT "_go" ["self", "step"] 3 (spGo K CT CK CW)) (F : FnM K "do" "Talk.do" sDo f fd) : FnOk P w K mg base CX0 4 f fd ["self", "step"] (spGo K CT CK CW) := by
  obtain ⟨f1, fd1, me1, F1, b1⟩ := MG.ex
  refine F.ok scDo (fun vs H Q E h => ?_) (fun cdv A outer s H vs Q E hr h => ?_)
  · obtain ⟨x, pa, wv, kw, stv, rows, st, past, s, rfl, _⟩ := h
    rfl
  · obtain ⟨x, pa, wv, kw, stv, rows, st, past, s, rfl, hT, hm, hst, hs, k⟩ := h
    have r3 : Room 3 _ := hr
    have r2 : Room 2 _ := hr.mono (by decide)
    refine ⟨_, pss_cons (ps_if (pt_not (pt_val (pe_cal CP r2 (by rfl) (pa_cons (pe_fld (pv 0) rfl) (pa_cons (pv 1) pa_nil))))) (pss_one ps_never) pss_nil)
      (pss_one (ps_ret (pe_meth (pv 0) T.cl me1 F1 r3 b1 .nil pass0 (pa_cons (pv 1) pa_nil)))), ?_⟩
    obtain ⟨hk, ek⟩ := hT.wk T (σ := start ["self", "step"] [.ref x, stv]) (te := tVar 0) (ev_var rfl)
    refine q_when (b := !true) (et_not (et_B (ev_stp (ea_cons ek (ea_cons (ev_var rfl) ea_nil)) hk (hst.mono hd_sub) hs))) (fun z => by cases z) fun _ H1 e1 => ?_
    obtain ⟨dx, fs, sv, us, hx, tf, hp, _⟩ := hT.ex
    refine ⟨.ref x, rfl, x, dx, fs, rfl, e1 _ _ hx, tf.m2, stv, rfl, x, pa, wv, kw, stv, rows, st, past, s, rfl, hT.up e1, hm, hst.mono (hd_mono e1), hs, fun H' t hT' => k H' ((Tn.ex e1).trans t) hT'⟩
/-! Talk.run -/
def spRun (K : PySem.W.Frag) (CT CK CW : Addr) : Sp := fun vs H Q _ => ∃ (x pa wv kw la : Addr) (us : List V) (rows : List (List Wy)) (st : St2) (past : List St2) (ss : List Stp), vs = [.ref x, .ref la] ∧ TaO K CT CK CW H x pa wv kw rows st past ∧ past.length + ss.length ≤ 20000 ∧ Hd H x pa la = some (.lst us) ∧ DqA (Hd H x pa) us (ss.map stepD) ∧ (∀ s ∈ ss, StpOk rows s) ∧
  ∀ H', Tn x pa pa H H' → TaO K CT CK CW H' x pa wv kw rows (runW rows st ss) (past ++ wayW rows st ss) → Q (.int (chgW rows st ss : Int)) H'
abbrev sRun : Stmt := inClass (top 51) 2
abbrev nRun : List Str := ["self", "steps", "step", "changes"]
theorem scRun : FnScope nRun ["self", "steps"] (defScope sRun) := ⟨rfl, rfl, rfl, by decide +kernel, rfl, by decide +kernel, by decide +kernel⟩
theorem ok_run (T : TTx K CT) (CI : Cal P w K mg base "is_row" ["thing"] 1 (spIsRow K)) (CP : Cal P w K mg base "is_step_of" ["works", "thing"] 2 (spStp CK CW)) (MG : Msk P w K mg base CT "_go" ["self", "step"] 3 (spGo K CT CK CW)) (F : FnM K "run" "Talk.run" sRun f fd) : FnOk P w K mg base CX0 4 f fd ["self", "steps"] (spRun K CT CK CW) := by
  obtain ⟨f1, fd1, me1, F1, b1⟩ := MG.ex
  refine F.ok scRun (fun vs H Q E h => ?_) (fun cdv A outer s H vs Q E hr h => ?_)
  · obtain ⟨x, pa, wv, kw, la, us, rows, st, past, ss, rfl, _⟩ := h
    rfl
  · obtain ⟨x, pa, wv, kw, la, us, rows, st, past, ss, rfl, hT, hm, hla, hus, hs, k⟩ := h
    have r3 : Room 3 _ := hr
    have r2 : Room 2 _ := hr.mono (by decide)
    have r1 : Room 1 _ := hr.mono (by decide)
    refine ⟨_, pss_cons (ps_if (pt_not (pt_val (pe_cal CI r1 (by rfl) (pa_cons (pv 1) pa_nil)))) (pss_one ps_never) pss_nil)
      (pss_cons (ps_for (passes_of rfl) rfl (pi_list (pv 1)) (pg_name (i := 2) scRun.nd rfl (Or.inl rfl)) (pss_one (ps_if (pt_not (pt_val (pe_cal CP r2 (by rfl) (pa_cons (pe_fld (pv 0) rfl) (pa_cons (pv 2) pa_nil))))) (pss_one ps_never) pss_nil)))
      (pss_cons (ps_set (i := 3) scRun.nd rfl (Or.inl rfl) pe_int)
      (pss_cons (ps_for (passes_of rfl) rfl (pi_list (pv 1)) (pg_name (i := 2) scRun.nd rfl (Or.inl rfl)) (pss_one (ps_if (pt_val (pe_meth (pv 0) T.cl me1 F1 r3 b1 .nil pass0 (pa_cons (pv 2) pa_nil))) (pss_one (ps_aug (i := 3) scRun.nd rfl (Or.inl rfl) pe_int ip_add)) pss_nil)))
      (pss_one (ps_ret (pv 3)))))), ?_⟩
    have hla0 := hd_sub _ _ hla
    have hul := hus.length
    rw [List.length_map] at hul
    have hG := hT.wo.g
    have h8 := hT.wo.n8
    have c1 : Ev (tCall (spIsRow K) [] E0 (tCons (tVar 1) tNil)) (start nRun [.ref x, .ref la]) H (.bl true) := ev_call (ea_cons (ev_var rfl) ea_nil) (spP_v fun H1 e => ⟨.ref la, ss.map stepD, rfl, .lst (sq_of (e _ _ hla0)) (DqA.dp (layA_stp ss) (hus.mono (hd_sub.trans e))), rfl⟩)
    refine q_when (b := !true) (et_not (et_B c1)) (fun z => by cases z) fun _ H1 e1 => ?_
    refine q_forC (fun l xs H2 => l = la ∧ xs = us ∧ Ex H H2) (fun Q q => ⟨.ref la, rfl, q la us H1 ⟨rfl, rfl, e1⟩⟩ ) ?_
    rintro l xs H2 ⟨rfl, rfl, e2⟩
    refine ⟨sq_of (e2 _ _ hla0), fun i σ' H' => Ex H H' ∧ ∃ o2, σ' = [some (.ref x), some (.ref l), o2, none], ⟨e2, _, rfl⟩, fun i σ' H' _ h => sq_of (h.1 _ _ hla0), ?_, ?_⟩
    · rintro i y σ' H3 hy ⟨e3, o2, rfl⟩
      obtain ⟨s, h1, h2⟩ := stps_at hus hy
      refine g_name ?_
      change tIfS _ _ _ _ [some (.ref x), some (.ref l), some y, none] H3
      obtain ⟨hk, ek⟩ := (hT.up e3).wk T (σ := [some (.ref x), some (.ref l), some y, none]) (te := tVar 0) (ev_var rfl)
      exact s_when (b := !true) (et_not (et_B (ev_stp (ea_cons ek (ea_cons (ev_var (i := 2) rfl) ea_nil)) hk (h2.mono (hd_sub.trans e3)) (hs s (List.mem_of_getElem? h1))))) (fun z => by cases z) fun _ H4 e4 => ⟨e3.trans e4, _, rfl⟩
    · rintro σ' H3 ⟨e3, o2, rfl⟩
      refine q_c ?_
      change tSeq _ _ _ [some (.ref x), some (.ref l), o2, some (.int 0)] H3
      have t3 := Tn.ex (x := x) (pa := pa) e3
      refine q_forC (fun l' xs' H4 => l' = l ∧ xs' = xs ∧ H4 = H3) (fun Q q => ⟨.ref l, rfl, q l xs H3 ⟨rfl, rfl, rfl⟩⟩) ?_
      rintro l' xs' H4 ⟨rfl, rfl, rfl⟩
      refine ⟨sq_of (e3 _ _ hla0), fun i σ' H' => Tn x pa pa H H' ∧ TaO K CT CK CW H' x pa wv kw rows (runW rows st (ss.take i)) (past ++ wayW rows st (ss.take i)) ∧ ∃ o2, σ' = [some (.ref x), some (.ref l'), o2, some (.int (chgW rows st (ss.take i) : Int))], ⟨t3, ?_, _, rfl⟩, fun i σ' H' _ h => sq_of (hd_sub _ _ (h.1.hd _ _ hla)), ?_, ?_⟩
      · rw [List.take_zero]
        show TaO K CT CK CW H4 x pa wv kw rows st (past ++ [])
        rw [List.append_nil]
        exact hT.up e3
      · rintro i y σ' H5 hy ⟨t5, hT5, o2', rfl⟩
        obtain ⟨s, h1, h2⟩ := stps_at hus hy
        obtain ⟨dx, fs, sv, us', hx, tf, hp, _⟩ := hT5.ex
        refine g_name ?_
        have hil := (List.getElem?_eq_some_iff.mp h1).1
        have hlen : (past ++ wayW rows st (ss.take i)).length ≤ 20000 := by
          rw [List.length_append, wayW_len, List.length_take]
          omega
        refine ⟨.ref x, rfl, x, dx, fs, rfl, hx, tf.m2, y, rfl, x, pa, wv, kw, y, rows, _, _, s, rfl, hT5, hlen, h2.mono t5.hd, hs s (List.mem_of_getElem? h1), fun H6 t6 hT6 => ⟨_, rfl, ?_⟩⟩
        have t56 := t5.trans t6
        have e1' := runW_snoc rows st (ss.take i) s
        have e2' := wayW_snoc rows (ss.take i) st s
        have e3' := chgW_snoc rows (ss.take i) st s
        rw [← take_snoc h1] at e1' e2' e3'
        rw [List.append_assoc, ← e2', ← e1'] at hT6
        by_cases c : goW rows (runW rows st (ss.take i)) s = runW rows st (ss.take i)
        · rw [decide_eq_true c]
          dsimp only
          rw [if_neg (by decide)]
          rw [if_pos c] at e3'
          exact ⟨t56, hT6, some y, by rw [e3']; rfl⟩
        · rw [decide_eq_false c]
          dsimp only
          rw [if_pos (by decide)]
          rw [if_neg c] at e3'
          refine s_aug (f := (· + ·)) (i := 3) (a := (chgW rows st (ss.take i) : Int)) (b := 1) rfl ev_c fun H7 e7 => ⟨t56.trans (Tn.ex e7), hT6.up e7, some y, ?_⟩
          rw [e3']
          rfl
      · rintro σ' H5 ⟨t5, hT5, o2', rfl⟩
        rw [hul, take_all] at hT5 ⊢
        exact s_ret (ev_var rfl) fun H6 e6 => k H6 (t5.trans (Tn.ex e6)) (hT5.up e6)
/-! Talk.back -/
def spBk (K : PySem.W.Frag) (CT CK CW : Addr) : Sp := fun vs H Q _ => ∃ (x pa wv kw : Addr) (rows : List (List Wy)) (st st' : St2) (past : List St2) (n : Nat), vs = [.ref x, .int (n : Int)] ∧ TaO K CT CK CW H x pa wv kw rows st past ∧ 1 ≤ n ∧ n ≤ past.length ∧ past[past.length - n]? = some st' ∧
  ∀ H' pb, Tn x pa pb H H' → TaO K CT CK CW H' x pb wv kw rows st' (past.take (past.length - n)) → Q .non H'
abbrev sBk : Stmt := inClass (top 51) 3
abbrev nBk : List Str := ["self", "many", "left"]
theorem scBk : FnScope nBk ["self", "many"] (defScope sBk) := ⟨rfl, rfl, rfl, by decide +kernel, rfl, by decide +kernel, by decide +kernel⟩
theorem ok_bk (T : TTx K CT) (CB : Cal P w K mg base "is_between" ["least", "most", "thing"] 2 spBetween) (F : FnM K "back" "Talk.back" sBk f fd) : FnOk P w K mg base CX0 3 f fd ["self", "many"] (spBk K CT CK CW) := by
  refine F.ok scBk (fun vs H Q E h => ?_) (fun cdv A outer s H vs Q E hr h => ?_)
  · obtain ⟨x, pa, wv, kw, rows, st, st', past, n, rfl, _⟩ := h
    rfl
  · obtain ⟨x, pa, wv, kw, rows, st, st', past, n, rfl, hT, hn1, hnl, hpast, k⟩ := h
    refine ⟨_, pss_cons (ps_if (pt_not (pt_val (pe_cal CB hr (by rfl) (pa_cons pe_int (pa_cons (pe_fld (pv 0) rfl) (pa_cons (pv 1) pa_nil)))))) (pss_one ps_never) pss_nil)
      (pss_cons (ps_set (i := 2) scBk.nd rfl (Or.inl rfl) (pe_op op_sub (pe_fld (pv 0) rfl) (pv 1)))
      (pss_cons (ps_fld (pv 0) (pe_ix ix_list (pe_fld (pv 0) rfl) (pv 2) (fun _ _ => rfl)) rfl)
      (pss_cons (ps_fld (pv 0) (pe_slice sl_list (pe_fld (pv 0) rfl) po_none (po_some (pv 2))) rfl)
      (pss_one (ps_fld (pv 0) (pv 2) rfl))))), ?_⟩
    have hoks := hT.oks
    have nxp := hT.ne
    obtain ⟨dx, fs, sv, us, hx, tf, hp, hk, hsv, hps⟩ := hT.ex
    have hul := hps.len
    have b1 : (isI (.int (n : Int)) && (decide ((1 : Int) ≤ valI (.int (n : Int))) && decide (valI (.int (n : Int)) ≤ (past.length : Int)))) = true := by
      show (true && (decide ((1 : Int) ≤ (n : Int)) && decide ((n : Int) ≤ (past.length : Int)))) = true
      rw [decide_eq_true (show (1 : Int) ≤ n by omega), decide_eq_true (show (n : Int) ≤ past.length by omega)]
      rfl
    have fM : Ev (tFld K (tVar 0) "many") (start nBk [.ref x, .int (n : Int)]) H (.int (past.length : Int)) := fun H2 e2 Q2 q => ⟨.ref x, rfl, x, CT, dx, _, _, rfl, e2 _ _ hx, T.cl, T.n3, tf.mn, q H2 (Ex.refl H2)⟩
    have c1 : Ev (tCall spBetween [] E0 (tCons (tC (.int 1)) (tCons (tFld K (tVar 0) "many") (tCons (tVar 1) tNil)))) (start nBk [.ref x, .int (n : Int)]) H (.bl true) := ev_call (ea_cons ev_c (ea_cons fM (ea_cons (ev_var rfl) ea_nil))) (spP_v fun H1 e => ⟨1, (past.length : Int), .int (n : Int), .int (n : Int), rfl, .int _, by rw [b1]⟩)
    refine q_when (b := !true) (et_not (et_B c1)) (fun z => by cases z) fun _ H1 e1 => ?_
    have hx1 := e1 _ _ hx
    have em : (past.length : Int) - (n : Int) = ((past.length - n : Nat) : Int) := by omega
    refine q_asgW ⟨.ref x, rfl, x, CT, dx, fs, _, rfl, hx1, T.cl, T.n3, tf.mn, .int (n : Int), rfl, (past.length : Int), (n : Int), rfl, rfl, ?_⟩
    dsimp only
    rw [em]
    change tSeq _ _ _ [some (.ref x), some (.int (n : Int)), some (.int ((past.length - n : Nat) : Int))] H1
    have hli : past.length - n < us.length := by omega
    have hui : us[past.length - n]? = some us[past.length - n] := List.getElem?_eq_getElem hli
    obtain ⟨t', ht1, ht2⟩ := hps.at_ _ _ hui
    have et : t' = st' := by rw [hpast] at ht1; exact (Option.some.inj ht1).symm
    subst et
    generalize us[past.length - n] = pv' at *
    refine q_fldU ⟨.ref x, rfl, x, CT, dx, fs, _, rfl, hx1, T.cl, T.n4, tf.ps, .int ((past.length - n : Nat) : Int), rfl, pa, us, ((past.length - n : Nat) : Int), pv', rfl, rfl, sq_of (e1 _ _ hp), atI_nat hui, .ref x, rfl, x, CT, dx, fs, rfl, hx1, T.cl, T.n2, by have := tf.few; omega, ?_⟩
    have t2 : Tn x pa pa H (upd H1 x (.ins CT dx (putF "stand" pv' fs))) := (Tn.ex e1).trans Tn.updX
    have hx2 : (upd H1 x (.ins CT dx (putF "stand" pv' fs))) x = some (.ins CT dx (putF "stand" pv' fs)) := upd_same
    have hp2 : (upd H1 x (.ins CT dx (putF "stand" pv' fs))) pa = some (.lst us) := by rw [upd_ne (Ne.symm nxp)]; exact e1 _ _ hp
    have tf2 : Tf (putF "stand" pv' fs) kw pv' pa past.length := tf.stand
    generalize upd H1 x (.ins CT dx (putF "stand" pv' fs)) = H2 at *
    generalize putF "stand" pv' fs = fs2 at *
    refine q_fldU ⟨.ref x, rfl, x, CT, dx, fs2, _, rfl, hx2, T.cl, T.n4, tf2.ps, .int ((past.length - n : Nat) : Int), rfl, _, rfl, pa, us, rfl, sq_of hp2, fun pb npb => ?_⟩
    rw [cut_to us _ (by omega)]
    have t3 : Tn x pa pb H (upd H2 pb (.lst (us.take (past.length - n)))) := t2.trans (Tn.newP npb)
    have nbx : pb ≠ x := fun z => by rw [z, hx2] at npb; cases npb
    have hx3 : (upd H2 pb (.lst (us.take (past.length - n)))) x = some (.ins CT dx fs2) := by rw [upd_ne (Ne.symm nbx)]; exact hx2
    have hp3 : (upd H2 pb (.lst (us.take (past.length - n)))) pb = some (.lst (us.take (past.length - n))) := upd_same
    generalize upd H2 pb (.lst (us.take (past.length - n))) = H3 at *
    refine ⟨.ref x, rfl, x, CT, dx, fs2, rfl, hx3, T.cl, T.n4, by have := tf2.few; omega, ?_⟩
    have t4 : Tn x pa pb H (upd H3 x (.ins CT dx (putF "past" (.ref pb) fs2))) := t3.trans Tn.updX
    have hx4 : (upd H3 x (.ins CT dx (putF "past" (.ref pb) fs2))) x = some (.ins CT dx (putF "past" (.ref pb) fs2)) := upd_same
    have hp4 : (upd H3 x (.ins CT dx (putF "past" (.ref pb) fs2))) pb = some (.lst (us.take (past.length - n))) := by rw [upd_ne nbx]; exact hp3
    have tf4 : Tf (putF "past" (.ref pb) fs2) kw pv' pb past.length := tf2.past
    generalize upd H3 x (.ins CT dx (putF "past" (.ref pb) fs2)) = H4 at *
    generalize putF "past" (V.ref pb) fs2 = fs4 at *
    refine s_fldU ⟨.int ((past.length - n : Nat) : Int), rfl, .ref x, rfl, x, CT, dx, fs4, rfl, hx4, T.cl, T.n3, by have := tf4.few; omega, ?_⟩
    have t5 : Tn x pa pb H (upd H4 x (.ins CT dx (putF "many" (.int ((past.length - n : Nat) : Int)) fs4))) := t4.trans Tn.updX
    have tf5 : Tf (putF "many" (.int ((past.length - n : Nat) : Int)) fs4) kw pv' pb (past.take (past.length - n)).length := by
      have := tf4.many (m' := past.length - n)
      rw [List.length_take, Nat.min_eq_left (by omega)]
      exact this
    refine k _ pb t5 ⟨⟨dx, _, pv', us.take (past.length - n), upd_same, tf5, by rw [upd_ne nbx]; exact hp4, hk.up t5.hd, ht2.up t5.hd, (hps.take _).up t5.hd⟩, hoks _ (List.mem_of_getElem? hpast), fun t ht => hoks t (List.mem_of_mem_take ht)⟩
end
end Wk

set_option Elab.async false
set_option linter.all false
set_option maxRecDepth 100000
set_option maxHeartbeats 2000000
namespace Wk
open PySem PySem.Spec PyProof.Rows L2 Evl
structure RTx (K : PySem.W.Frag) (mg : Str → Option Value) (CR : Addr) : Prop where
  cl : Cls K CR
  n1 : NoAttr K CR "held"
  n2 : NoAttr K CR "stand"
  n3 : NoAttr K CR "many"
  n4 : NoAttr K CR "past"
  g : mg "Trial" = some (.ref CR)
/-- the fields of a trial under way -/
structure Rf (fs : List (Str × V)) (x : Addr) (sv : V) (m : Nat) (pc : Addr) : Prop where
  hl : fs.lookup ("held" : Str) = some (.ref x)
  st : fs.lookup ("stand" : Str) = some sv
  mn : fs.lookup ("many" : Str) = some (.int (m : Int))
  ps : fs.lookup ("past" : Str) = some (.ref pc)
theorem rf_new (x pc : Addr) (sv : V) (m : Nat) : Rf (putF "past" (.ref pc) (putF "many" (.int (m : Int)) (putF "stand" sv (putF "held" (.ref x) [])))) x sv m pc := by
  refine ⟨?_, ?_, ?_, lk_putS⟩
  · rw [lk_putF (by decide +kernel), lk_putF (by decide +kernel), lk_putF (by decide +kernel)]; exact lk_putS
  · rw [lk_putF (by decide +kernel), lk_putF (by decide +kernel)]; exact lk_putS
  · rw [lk_putF (by decide +kernel)]; exact lk_putS
theorem len_putL {f : Str} {v : V} {fs : List (Str × V)} {n : Nat} (h : fs.length ≤ n) : (putF f v fs).length ≤ n + 1 := by have := len_putF f v fs; omega
section
variable {P : Program} {w : World} {K : PySem.W.Frag} {mg : Str → Option Value} {base : Heap} {f : Addr} {fd : FuncData} {CW CN CK CT CR : Addr}
/-! Trial.__init__, Talk.trying -/
def spRI (CR : Addr) : Sp := fun vs H Q _ => ∃ (t dt : Addr) (v : V), vs = [.ref t, v] ∧ H t = some (.ins CR dt []) ∧ Q .non (upd H t (.ins CR dt (putF "held" v [])))
abbrev sRI : Stmt := inClass (top 22) 0
theorem scRI : FnScope ["self", "held"] ["self", "held"] (defScope sRI) := ⟨rfl, rfl, rfl, by decide +kernel, rfl, by decide +kernel, by decide +kernel⟩
theorem ok_ri (T : RTx K mg CR) (F : FnM K "__init__" "Trial.__init__" sRI f fd) : FnOk P w K mg base CX0 1 f fd ["self", "held"] (spRI CR) := by
  refine F.ok scRI (fun vs H Q E h => ?_) (fun cdv A outer s H vs Q E hr h => ?_)
  · obtain ⟨t, dt, v, rfl, _⟩ := h
    rfl
  · obtain ⟨t, dt, v, rfl, ht, k⟩ := h
    refine ⟨_, pss_one (ps_fld (pv 0) (pv 1) rfl), ?_⟩
    exact s_fldU ⟨v, rfl, .ref t, rfl, t, CR, dt, [], rfl, ht, T.cl, T.n1, by decide, k⟩
structure MkR (P : Program) (w : World) (K : PySem.W.Frag) (mg : Str → Option Value) (base : Heap) (CR : Addr) : Prop where
  tx : RTx K mg CR
  ex : ∃ (fI : Addr) (fd : FuncData), Mk K CR fI ∧ FnOk P w K mg base CX0 1 fI fd ["self", "held"] (spRI CR) ∧ Binds K fd ["self", "held"] []
def spTry (CT CR : Addr) : Sp := fun vs H Q _ => ∃ (x dx : Addr) (fs : List (Str × V)), vs = [.ref x] ∧ H x = some (.ins CT dx fs) ∧ ∀ H' t dt, Ex H H' → H t = none → H' t = some (.ins CR dt (putF "held" (.ref x) [])) → Q (.ref t) H'
abbrev sTry : Stmt := inClass (top 51) 4
theorem scTry : FnScope ["self"] ["self"] (defScope sTry) := ⟨rfl, rfl, rfl, by decide +kernel, rfl, by decide +kernel, by decide +kernel⟩
theorem ok_try (M : MkR P w K mg base CR) (F : FnM K "trying" "Talk.trying" sTry f fd) : FnOk P w K mg base CX0 3 f fd ["self"] (spTry CT CR) := by
  obtain ⟨fI, fdI, mk, FI, bI⟩ := M.ex
  refine F.ok scTry (fun vs H Q E h => ?_) (fun cdv A outer s H vs Q E hr h => ?_)
  · obtain ⟨x, dx, fs, rfl, _⟩ := h
    rfl
  · obtain ⟨x, dx, fs, rfl, hx, k⟩ := h
    have r2 : Room 2 _ := hr
    refine ⟨_, pss_one (ps_ret (pe_mkAt mk FI r2 (by rfl) M.tx.g bI (W := fun _ => E0) (fun σ => passAt0) (pa_cons (pv 0) pa_nil))), ?_⟩
    refine ret_any ⟨.ref x, rfl, fun t dt nt ndt nex => ?_⟩
    refine ⟨t, dt, .ref x, rfl, upd_same, rfl, k _ t dt (fun b o hb => ?_) nt upd_same⟩
    have nb := ne_of_none hb nt
    rw [upd_ne nb, upd_ne nb, upd_ne (ne_of_none hb ndt)]
    exact hb
/-! Trial.__enter__ -/
def spEn (CR CT : Addr) : Sp := fun vs H Q _ => ∃ (t dt x dx k pa : Addr) (fs : List (Str × V)) (sv : V) (m : Nat) (us : List V), vs = [.ref t] ∧ H t = some (.ins CR dt (putF "held" (.ref x) [])) ∧ t ≠ x ∧ H x = some (.ins CT dx fs) ∧ Tf fs k sv pa m ∧ H pa = some (.lst us) ∧
  ∀ H' pc fr, Of1 t H H' → (∀ b, H' b = none → H b = none) → H pc = none → H' pc = some (.lst us) → H' t = some (.ins CR dt fr) → Rf fr x sv m pc → Q (.ref x) H'
abbrev sEn : Stmt := inClass (top 22) 1
theorem scEn : FnScope ["self"] ["self"] (defScope sEn) := ⟨rfl, rfl, rfl, by decide +kernel, rfl, by decide +kernel, by decide +kernel⟩
theorem ok_en (hl : mg "list" = none) (T : TTx K CT) (R : RTx K mg CR) (F : FnM K "__enter__" "Trial.__enter__" sEn f fd) : FnOk P w K mg base CX0 1 f fd ["self"] (spEn CR CT) := by
  refine F.ok scEn (fun vs H Q E h => ?_) (fun cdv A outer s H vs Q E hr h => ?_)
  · obtain ⟨t, dt, x, dx, k, pa, fs, sv, m, us, rfl, _⟩ := h
    rfl
  · obtain ⟨t, dt, x, dx, kw, pa, fs, sv, m, us, rfl, ht, ntx, hx, tf, hp, k⟩ := h
    refine ⟨_, pss_cons (ps_fld (pv 0) (pe_fld (pe_fld (pv 0) rfl) rfl) rfl)
      (pss_cons (ps_fld (pv 0) (pe_fld (pe_fld (pv 0) rfl) rfl) rfl)
      (pss_cons (ps_fld (pv 0) (pe_callTy call_list_of (by rfl) hl PyProof.Rows.boot_list (pa_cons (pe_fld (pe_fld (pv 0) rfl) rfl) pa_nil)) rfl)
      (pss_one (ps_ret (pe_fld (pv 0) rfl))))), ?_⟩
    have npt : pa ≠ t := fun z => by rw [z, ht] at hp; cases hp
    have l0 : (putF "held" (.ref x) ([] : List (Str × V))).length ≤ 1 := len_putL (n := 0) (by simp)
    have a0 : (putF "held" (.ref x) ([] : List (Str × V))).lookup ("held" : Str) = some (.ref x) := lk_putS
    have hrf := rf_new x
    generalize putF "held" (.ref x) ([] : List (Str × V)) = f0 at *
    refine q_fldU ⟨.ref t, rfl, t, CR, dt, f0, _, rfl, ht, R.cl, R.n1, a0, x, CT, dx, fs, _, rfl, hx, T.cl, T.n2, tf.st, .ref t, rfl, t, CR, dt, f0, rfl, ht, R.cl, R.n2, by omega, ?_⟩
    have o1 := Of1.upd t H (.ins CR dt (putF "stand" sv f0))
    have ht1 : (upd H t (.ins CR dt (putF "stand" sv f0))) t = some (.ins CR dt (putF "stand" sv f0)) := upd_same
    have s1 : ∀ b, (upd H t (.ins CR dt (putF "stand" sv f0))) b = none → H b = none := fun b h => upd_sv h
    have l1 : (putF "stand" sv f0).length ≤ 2 := len_putL l0
    have a1 : (putF "stand" sv f0).lookup ("held" : Str) = some (.ref x) := by rw [lk_putF (by decide +kernel)]; exact a0
    have hrf1 := fun pc m => hrf pc sv m
    generalize putF "stand" sv f0 = f1 at *
    generalize upd H t (.ins CR dt f1) = H1 at *
    refine q_fldU ⟨.ref t, rfl, t, CR, dt, f1, _, rfl, ht1, R.cl, R.n1, a1, x, CT, dx, fs, _, rfl, o1 _ _ (Ne.symm ntx) hx, T.cl, T.n3, tf.mn, .ref t, rfl, t, CR, dt, f1, rfl, ht1, R.cl, R.n3, by omega, ?_⟩
    have o2 := o1.trans (Of1.upd t H1 (.ins CR dt (putF "many" (.int (m : Int)) f1)))
    have ht2 : (upd H1 t (.ins CR dt (putF "many" (.int (m : Int)) f1))) t = some (.ins CR dt (putF "many" (.int (m : Int)) f1)) := upd_same
    have s2 : ∀ b, (upd H1 t (.ins CR dt (putF "many" (.int (m : Int)) f1))) b = none → H b = none := fun b h => s1 b (upd_sv h)
    have l2 : (putF "many" (.int (m : Int)) f1).length ≤ 3 := len_putL l1
    have a2 : (putF "many" (.int (m : Int)) f1).lookup ("held" : Str) = some (.ref x) := by rw [lk_putF (by decide +kernel)]; exact a1
    have hrf2 := fun pc => hrf1 pc m
    generalize putF "many" (V.int (m : Int)) f1 = f2 at *
    generalize upd H1 t (.ins CR dt f2) = H2 at *
    have hx2 := o2 _ _ (Ne.symm ntx) hx
    have hp2 := o2 _ _ npt hp
    refine q_fldU ⟨.ref t, rfl, t, CR, dt, f2, _, rfl, ht2, R.cl, R.n1, a2, x, CT, dx, fs, _, rfl, hx2, T.cl, T.n4, tf.ps, pa, us, rfl, .inl (sq_of hp2), fun pc npc => ⟨.ref t, rfl, t, CR, dt, f2, rfl, ?_, R.cl, R.n4, by omega, ?_⟩⟩
    · rw [upd_ne (fun z => by rw [← z, ht2] at npc; cases npc)]
      exact ht2
    have nct : pc ≠ t := fun z => by rw [z, ht2] at npc; cases npc
    have o3 := (o2.trans (Of1.ex (Ex.new (o := .lst us) npc))).trans (Of1.upd t (upd H2 pc (.lst us)) (.ins CR dt (putF "past" (.ref pc) f2)))
    have ht3 : (upd (upd H2 pc (.lst us)) t (.ins CR dt (putF "past" (.ref pc) f2))) t = some (.ins CR dt (putF "past" (.ref pc) f2)) := upd_same
    have hc3 : (upd (upd H2 pc (.lst us)) t (.ins CR dt (putF "past" (.ref pc) f2))) pc = some (.lst us) := by rw [upd_ne nct, upd_same]
    have s3 : ∀ b, (upd (upd H2 pc (.lst us)) t (.ins CR dt (putF "past" (.ref pc) f2))) b = none → H b = none := fun b h => s2 b (upd_sv (upd_sv h))
    exact ret_any ⟨.ref t, rfl, t, CR, dt, _, _, rfl, ht3, R.cl, R.n1, by rw [lk_putF (by decide +kernel)]; exact a2, k _ pc _ o3 s3 (s2 _ npc) hc3 ht3 (hrf2 pc)⟩
/-! Trial.__exit__ -/
def spEx (CR CT : Addr) : Sp := fun vs H Q _ => ∃ (t dt x dx k pa pc : Addr) (fr fs : List (Str × V)) (sv sv0 : V) (m m0 : Nat), vs = [.ref t, .non, .non, .non] ∧ H t = some (.ins CR dt fr) ∧ Rf fr x sv0 m0 pc ∧ t ≠ x ∧ H x = some (.ins CT dx fs) ∧ Tf fs k sv pa m ∧
  ∀ H' fs', Of1 x H H' → (∀ b, H' b = none → H b = none) → H' x = some (.ins CT dx fs') → Tf fs' k sv0 pc m0 → Q .non H'
abbrev sEx : Stmt := inClass (top 22) 2
abbrev nEx : List Str := ["self", "kind", "value", "trace"]
theorem scEx : FnScope nEx nEx (defScope sEx) := ⟨rfl, rfl, rfl, by decide +kernel, rfl, by decide +kernel, by decide +kernel⟩
theorem ok_ex (T : TTx K CT) (R : RTx K mg CR) (F : FnM K "__exit__" "Trial.__exit__" sEx f fd) : FnOk P w K mg base CX0 1 f fd nEx (spEx CR CT) := by
  refine F.ok scEx (fun vs H Q E h => ?_) (fun cdv A outer s H vs Q E hr h => ?_)
  · obtain ⟨t, dt, x, dx, k, pa, pc, fr, fs, sv, sv0, m, m0, rfl, _⟩ := h
    rfl
  · obtain ⟨t, dt, x, dx, kw, pa, pc, fr, fs, sv, sv0, m, m0, rfl, ht, rf, ntx, hx, tf, k⟩ := h
    refine ⟨_, pss_cons (ps_fld (pe_fld (pv 0) rfl) (pe_fld (pv 0) rfl) rfl)
      (pss_cons (ps_fld (pe_fld (pv 0) rfl) (pe_fld (pv 0) rfl) rfl)
      (pss_one (ps_fld (pe_fld (pv 0) rfl) (pe_fld (pv 0) rfl) rfl))), ?_⟩
    refine q_fldU ⟨.ref t, rfl, t, CR, dt, fr, _, rfl, ht, R.cl, R.n2, rf.st, .ref t, rfl, t, CR, dt, fr, _, rfl, ht, R.cl, R.n1, rf.hl, x, CT, dx, fs, rfl, hx, T.cl, T.n2, by have := tf.few; omega, ?_⟩
    have o1 := Of1.upd x H (.ins CT dx (putF "stand" sv0 fs))
    have hx1 : (upd H x (.ins CT dx (putF "stand" sv0 fs))) x = some (.ins CT dx (putF "stand" sv0 fs)) := upd_same
    have s1 : ∀ b, (upd H x (.ins CT dx (putF "stand" sv0 fs))) b = none → H b = none := fun b h => upd_sv h
    have tf1 := tf.stand (sv' := sv0)
    generalize putF "stand" sv0 fs = f1 at *
    generalize upd H x (.ins CT dx f1) = H1 at *
    have ht1 := o1 _ _ ntx ht
    refine q_fldU ⟨.ref t, rfl, t, CR, dt, fr, _, rfl, ht1, R.cl, R.n3, rf.mn, .ref t, rfl, t, CR, dt, fr, _, rfl, ht1, R.cl, R.n1, rf.hl, x, CT, dx, f1, rfl, hx1, T.cl, T.n3, by have := tf1.few; omega, ?_⟩
    have o2 := o1.trans (Of1.upd x H1 (.ins CT dx (putF "many" (.int (m0 : Int)) f1)))
    have hx2 : (upd H1 x (.ins CT dx (putF "many" (.int (m0 : Int)) f1))) x = some (.ins CT dx (putF "many" (.int (m0 : Int)) f1)) := upd_same
    have s2 : ∀ b, (upd H1 x (.ins CT dx (putF "many" (.int (m0 : Int)) f1))) b = none → H b = none := fun b h => s1 b (upd_sv h)
    have tf2 := tf1.many (m' := m0)
    generalize putF "many" (V.int (m0 : Int)) f1 = f2 at *
    generalize upd H1 x (.ins CT dx f2) = H2 at *
    have ht2 := o2 _ _ ntx ht
    refine s_fldU ⟨.ref t, rfl, t, CR, dt, fr, _, rfl, ht2, R.cl, R.n4, rf.ps, .ref t, rfl, t, CR, dt, fr, _, rfl, ht2, R.cl, R.n1, rf.hl, x, CT, dx, f2, rfl, hx2, T.cl, T.n4, by have := tf2.few; omega, ?_⟩
    exact k _ _ (o2.trans (Of1.upd x H2 _)) (fun b h => s2 b (upd_sv h)) upd_same tf2.past
/-! Talk.ahead -/
def spAh (K : PySem.W.Frag) (CT CK CW : Addr) : Sp := fun vs H Q _ => ∃ (x pa wv kw la : Addr) (us : List V) (rows : List (List Wy)) (st : St2) (past : List St2) (ss : List Stp), vs = [.ref x, .ref la] ∧ TaO K CT CK CW H x pa wv kw rows st past ∧ past.length + ss.length ≤ 20000 ∧ Hd H x pa la = some (.lst us) ∧ DqA (Hd H x pa) us (ss.map stepD) ∧ (∀ s ∈ ss, StpOk rows s) ∧
  ∀ H' pc v, Tn x pa pc H H' → TaO K CT CK CW H' x pc wv kw rows st past → StD K (Hd H' x pc) v (runW rows st ss).1 (runW rows st ss).2 → Q v H'
abbrev sAh : Stmt := inClass (top 51) 5
theorem scAh : FnScope ["self", "steps"] ["self", "steps"] (defScope sAh) := ⟨rfl, rfl, rfl, by decide +kernel, rfl, by decide +kernel, by decide +kernel⟩
structure Ctx (P : Program) (w : World) (K : PySem.W.Frag) (mg : Str → Option Value) (base : Heap) (CR CT : Addr) : Prop where
  en : Msk P w K mg base CR "__enter__" ["self"] 1 (spEn CR CT)
  ex : Msk P w K mg base CR "__exit__" nEx 1 (spEx CR CT)
theorem ok_ah (T : TTx K CT) (C : Ctx P w K mg base CR CT) (MT : Msk P w K mg base CT "trying" ["self"] 3 (spTry CT CR)) (MR : Msk P w K mg base CT "run" ["self", "steps"] 4 (spRun K CT CK CW)) (F : FnM K "ahead" "Talk.ahead" sAh f fd) : FnOk P w K mg base CX0 5 f fd ["self", "steps"] (spAh K CT CK CW) := by
  obtain ⟨f1, fd1, me1, F1, b1⟩ := MT.ex
  obtain ⟨f2, fd2, me2, F2, b2⟩ := MR.ex
  obtain ⟨f3, fd3, me3, F3, b3⟩ := C.en.ex
  obtain ⟨f4, fd4, me4, F4, b4⟩ := C.ex.ex
  refine F.ok scAh (fun vs H Q E h => ?_) (fun cdv A outer s H vs Q E hr h => ?_)
  · obtain ⟨x, pa, wv, kw, la, us, rows, st, past, ss, rfl, _⟩ := h
    rfl
  · obtain ⟨x, pa, wv, kw, la, us, rows, st, past, ss, rfl, hT, hm, hla, hus, hs, k⟩ := h
    have r4 : Room 4 _ := hr
    have r3 : Room 3 _ := hr.mono (by decide)
    have r1 : Room 1 _ := hr.mono (by decide)
    refine ⟨_, pss_one (ps_with (C := CR) (pe_meth0 (pv 0) T.cl me1 F1 r3 b1 .nil pass0) me3 me4 F3 F4 r1 r1 b3 b4
      (pss_cons (ps_expr (pe_meth (pv 0) T.cl me2 F2 r4 b2 .nil pass0 (pa_cons (pv 1) pa_nil))) (pss_one (ps_ret (pe_fld (pv 0) rfl))))), ?_⟩
    obtain ⟨dx, fs, sv, us0, hx, tf, hp, hk, hsv, hps⟩ := hT.ex
    have nxp := hT.ne
    refine ⟨.ref x, rfl, x, dx, fs, rfl, hx, tf.m5, x, dx, fs, rfl, hx, fun H1 t dt e1 nt ht1 => ?_⟩
    have hx1 := e1 _ _ hx
    have hp1 := e1 _ _ hp
    have ntx : t ≠ x := fun z => by rw [z, hx] at nt; cases nt
    refine ⟨t, dt, _, rfl, ht1, t, dt, x, dx, kw, pa, fs, sv, past.length, us0, rfl, ht1, ntx, hx1, tf, hp1, fun H2 pc fr o2 s2 npc hpc ht2 rf => ?_⟩
    have e2 : Ex H H2 := fun b u hb => o2 b u (fun z => by rw [z, nt] at hb; cases hb) (e1 b u hb)
    have hT2 := hT.up e2
    obtain ⟨dx2, fs2, sv2, us2, hx2, tf2, hp2, hk2, hsv2, hps2⟩ := hT2.ex
    have ncx : pc ≠ x := fun z => by rw [z, hx1] at npc; cases npc
    have ncp : pc ≠ pa := fun z => by rw [z, hp1] at npc; cases npc
    have ntp : t ≠ pa := fun z => by rw [z, hp] at nt; cases nt
    refine ⟨.ref x, rfl, x, dx2, fs2, rfl, hx2, tf2.m3, .ref la, rfl, x, pa, wv, kw, la, us, rows, st, past, ss, rfl, hT2, hm, hd_mono e2 _ _ hla, hus.mono (hd_mono e2), hs, fun H3 t3 hT3 => ?_⟩
    obtain ⟨dx3, fs3, sv3, us3, hx3, tf3, hp3, hk3, hsv3, hps3⟩ := hT3.ex
    refine ⟨.ref x, rfl, x, CT, dx3, fs3, _, rfl, hx3, T.cl, T.n2, tf3.st, ?_⟩
    refine ⟨t, dt, x, dx3, kw, pa, pc, fr, fs3, sv3, sv, _, past.length, rfl, t3.off _ _ ntx ntp ht2, rf, ntx, hx3, tf3, fun H4 fs4 o4 s4 hx4 tf4 => ?_⟩
    have hc4 : H4 pc = some (.lst us0) := o4 _ _ ncx (t3.off _ _ ncx ncp hpc)
    have t4 : Tn x pa pc H H4 := ⟨fun b u h1 h2 hb => o4 b u h1 (t3.off b u h1 h2 (e2 b u hb)), fun b hb => ex_sv e1 (s2 b (t3.sv b (s4 b hb))), .inr (ex_sv e1 npc)⟩
    have hv4 := ((hsv3.up hd_sub).kt (Kt.of1 o4 hx3)).kt (Kt.hd hx4 hc4)
    exact k H4 pc sv3 t4 ⟨⟨dx3, fs4, sv, us0, hx4, tf4, hc4, hk.up t4.hd, hsv.up t4.hd, hps.up t4.hd⟩, hT.ok, hT.oks⟩ hv4
end
end Wk

set_option Elab.async false
set_option linter.all false
set_option maxRecDepth 100000
set_option maxHeartbeats 2000000
namespace Wk
open PySem PySem.Spec PyProof.Rows L2 Evl
theorem lay_stand (ts ks : List Wy) : (standD ts ks).canLay0 = true := by
  unfold standD
  simp only [PyData.canLay0, PyData.canLayAll0, lay_wds, Bool.and_true]
theorem shaped_stand (ts ks : List Wy) : SeqAt.shaped (standD ts ks) = true := by
  unfold SeqAt.shaped
  have h1 := dep_wds ts
  have h2 := dep_wds ks
  have : decide ((standD ts ks).depth ≤ 64) = true := decide_eq_true (by unfold standD; simp only [PyData.depth, PyData.depthAll]; omega)
  rw [this, lay_stand]
  rfl
theorem eqv_wds : ∀ a b : List Wy, PyData.eqvAll (a.map wd) (b.map wd) = decide (a = b)
  | [], [] => by simp [PyData.eqvAll]
  | [], _ :: _ => by simp [PyData.eqvAll]
  | _ :: _, [] => by simp [PyData.eqvAll]
  | x :: a, y :: b => by
    have ih := eqv_wds a b
    simp only [List.map_cons, PyData.eqvAll, eqv_wd, ih]
    by_cases h1 : x = y
    · subst h1
      by_cases h2 : a = b
      · subst h2; simp
      · simp [h2]
    · simp [h1]
theorem eqv_stand (a b c d : List Wy) : PyData.eqv (standD a b) (standD c d) = decide ((a, b) = (c, d)) := by
  unfold standD
  simp only [PyData.eqv, PyData.eqvAll, eqv_wds, Bool.and_true]
  by_cases h1 : a = c
  · subst h1
    by_cases h2 : b = d
    · subst h2; simp
    · simp [h2]
  · simp [h1]
theorem StOk.sh {rows : List (List Wy)} {ts ks : List Wy} (hG : GW rows) (h2 : 2 ≤ rows.length) (h : StOk rows ts ks) : ShS rows ts ks := by
  refine ⟨h.t.len, h.kl, fun x hx => ?_, fun x hx => ?_⟩
  · obtain ⟨i, hi⟩ := List.mem_iff_getElem?.mp hx
    have hc := h.t.ok i x hi
    unfold chW at hc
    split at hc
    · rw [List.mem_singleton.mp hc]
      exact ⟨by decide, fun j hj => by rw [List.mem_singleton.mp hj]; omega⟩
    · rcases List.mem_append.mp hc with z | z
      · rw [List.getD_eq_getElem?_getD] at z
        cases hr : rows[i]? with
        | none => rw [hr] at z; cases z
        | some row =>
          rw [hr] at z
          exact (hG.ok i row hr x z).ws
      · rw [List.mem_singleton.mp z]
        exact ws_nil rows
  · obtain ⟨i, hi⟩ := List.mem_iff_getElem?.mp hx
    rcases (h.ko i x hi).1 with z | z
    · rw [z]; exact ws_nil rows
    · exact restWS hG z
/-! the list of what is due -/
theorem due_mem {rows : List (List Wy)} {ts ks : List Wy} {d : PyData} (h : d ∈ dueL rows ts ks) : ∃ s ∈ stepsW rows, d = stepD s := by
  unfold dueL dueW at h
  obtain ⟨s, hs, rfl⟩ := List.mem_map.mp h
  exact ⟨s, (List.mem_filter.mp hs).1, rfl⟩
theorem due_len (rows : List (List Wy)) (ts ks : List Wy) (h8 : rows.length ≤ 8) : (dueL rows ts ks).length ≤ 100 := by
  unfold dueL dueW
  rw [List.length_map]
  refine Nat.le_trans (List.length_filter_le _ _) ?_
  have := lnw_len rows
  unfold stepsW
  rw [List.length_append, List.length_map, List.length_map, List.length_range]
  omega
theorem lay_due (rows : List (List Wy)) (ts ks : List Wy) : PyData.canLayAll0 (dueL rows ts ks) = true := layAll.mpr fun d hd => by
  obtain ⟨s, _, rfl⟩ := due_mem hd
  rw [stepD_eq]
  simp only [PyData.canLay0]
  exact lay_str1 (word_ok s) _
theorem shaped_due (rows : List (List Wy)) (ts ks : List Wy) : SeqAt.shaped (.list (dueL rows ts ks)) = true := by
  unfold SeqAt.shaped
  have h1 := lay_due rows ts ks
  have h2 : PyData.depthAll (dueL rows ts ks) ≤ 1 := depAll.mpr fun d hd => by
    obtain ⟨s, _, rfl⟩ := due_mem hd
    rw [stepD_eq]
    have := dep_str1 (wordS s) (restS s)
    simp [PyData.depth, this]
  have : decide ((PyData.list (dueL rows ts ks)).depth ≤ 64) = true := decide_eq_true (by simp only [PyData.depth]; omega)
  rw [this]
  simp [PyData.canLay0, h1]
theorem smx_due {rows : List (List Wy)} (hG : GW rows) (h2 : 2 ≤ rows.length) (h8 : rows.length ≤ 8) (ts ks : List Wy) : Smx 3 (.list (dueL rows ts ks)) := by
  refine .lst 2 _ (fun d hd => ?_) (Nat.le_trans (due_len rows ts ks h8) (by decide))
  obtain ⟨s, hs, rfl⟩ := due_mem hd
  rw [stepD_eq]
  have hr : (restS s).length ≤ 2 := by
    have hs' := (stepsW_ok h2).mp hs
    cases s with
    | inl p =>
      obtain ⟨u, v, rfl, _⟩ := ln_shape hG h8 hs'
      exact Nat.le_refl 2
    | inr r => show 1 ≤ 2; decide
  refine .tup 1 _ (fun d hd => ?_) (by rw [List.length_cons, List.length_map]; omega)
  rcases List.mem_cons.mp hd with z | z
  · rw [z]; exact .str 1 _
  · obtain ⟨i, _, rfl⟩ := List.mem_map.mp z
    exact .int 1 i
theorem noL_due (rows : List (List Wy)) (ts ks : List Wy) : noLA (dueL rows ts ks) = true := noLA_all fun d hd => by
  obtain ⟨s, _, rfl⟩ := due_mem hd
  exact noL_step s
theorem eqv_emD (ds : List PyData) : PyData.eqv (.list ds) (.list []) = decide (ds = []) := by
  cases ds <;> simp [PyData.eqv, PyData.eqvAll]
theorem due_nil {rows : List (List Wy)} {ts ks : List Wy} : dueL rows ts ks = [] ↔ dueW rows ts ks = [] := by
  unfold dueL
  exact List.map_eq_nil_iff
/-- a new list of what is due, compared -/
theorem ev_same {K : PySem.W.Frag} {σ : L2.St} {H : Hp} {i j : Nat} {v u : V} {d : PyData} (hi : σ[i]? = some (some v)) (hj : σ[j]? = some (some u)) (hv : Dp K H v d) (hu : Dp K H u d) (hd : Smx 3 d) : Ev (tCall (spSame K 3) [] E0 (tCons (tVar i) (tCons (tVar j) tNil))) σ H (.bl true) :=
  ev_call (ea_cons (ev_var hi) (ea_cons (ev_var hj) ea_nil)) (spP_v fun H1 e => ⟨v, u, d, rfl, Dp.up e hv, Dp.up e hu, hd, rfl⟩)
/-- x == [] -/
theorem ev_eqEm {K : PySem.W.Frag} {σ : L2.St} {H : Hp} {te : TE} {v : V} {d : PyData} {b : Bool} (h : Ev te σ H v) (hv : Dp K H v d) (hs : SeqAt.shaped d = true) (hb : PyData.eqv d (.list []) = b) : EvT (tTest (tOp (rEqD K) te (tLst tNil))) σ H b := et_test fun H1 e1 Q q => h H1 e1 _ fun H2 e2 => ⟨by show 0 ≤ sizeLine; decide, fun l hl => by
  have e3 := Ex.new (o := .lst ([] : List V)) hl
  refine ⟨d, .list [], Dp.up ((e1.trans e2).trans e3) hv, .lst (sq_of upd_same) .nil, hs, shaped_wds [], ?_⟩
  rw [hb]
  exact q _ (e2.trans e3)⟩
theorem map_wd_inj : ∀ {a b : List Wy}, a.map wd = b.map wd → a = b
  | [], [], _ => rfl
  | [], _ :: _, h => by cases h
  | _ :: _, [], h => by cases h
  | x :: a, y :: b, h => by
    rw [List.map_cons, List.map_cons] at h
    injection h with h1 h2
    rw [wd_inj h1, map_wd_inj h2]
theorem standD_inj {a b c d : List Wy} (h : standD a b = standD c d) : a = c ∧ b = d := by
  unfold standD at h
  injection h with h
  injection h with h1 h
  injection h with h2 _
  injection h1 with h1
  injection h2 with h2
  exact ⟨map_wd_inj h1, map_wd_inj h2⟩
theorem q_ifJ {b : Bool} {t : TT} {te : TE} {i : Nat} {tz : TS} {D : Ends} {σ : L2.St} {H : Hp} (h : EvT t σ H b) (J : V → Hp → Prop) (h1 : b = true → ∀ H1, Ex H H1 → ∀ Q : VK, (∀ v H2, J v H2 → Q v H2) → te σ H1 Q) (h2 : b = false → ∀ H1, Ex H H1 → ∃ v, σ.set i (some v) = σ ∧ J v H1) (k : ∀ v H2, J v H2 → tz D (σ.set i (some v)) H2) :
    tSeq (tIfS t (tAsg te (gName i)) tNext) tz D σ H :=
  q_when h (fun hb H1 e1 => h1 hb H1 e1 _ fun v H2 j => k v H2 j) (fun hb H1 e1 => by
    obtain ⟨v, e, j⟩ := h2 hb H1 e1
    have := k v H1 j
    rw [e] at this
    exact this)
/-- how wishes are made -/
structure Mkr (P : Program) (w : World) (K : PySem.W.Frag) (mg : Str → Option Value) (base : Heap) (CW CB : Addr) : Prop where
  tx : WTx K mg CW
  ex : ∃ (fI : Addr) (fd : FuncData), Mk K CW fI ∧ FnOk P w K mg base (L2.CX P w) 8 fI fd ["self", "lists"] (spWI CW CB) ∧ Binds K fd ["self", "lists"] []
/-! data of tuples stay with the tuples -/
mutual
theorem dq_kt {H H' : Hp} (kt : Kt H H') : ∀ {d : PyData} {v : V}, noL d = true → Dq H v d → Dq H' v d
  | .none, _, _, .non => .non
  | .bool _, _, _, .bl b => .bl b
  | .int _, _, _, .int i => .int i
  | .str _, _, _, .str x => .str x
  | .list _, _, h, .lst _ _ => by simp [noL] at h
  | .tuple _, _, h, .tup a b => .tup (kt.t _ _ a) (dqa_kt kt (by simpa [noL] using h) b)
  | .dict _, _, h, .dic _ => by simp [noL] at h
theorem dqa_kt {H H' : Hp} (kt : Kt H H') : ∀ {ds : List PyData} {vs : List V}, noLA ds = true → DqA H vs ds → DqA H' vs ds
  | [], _, _, .nil => .nil
  | d :: ds, _, h, .cons a t => by
    have h' : noL d = true ∧ noLA ds = true := by
      have z : (noL d && noLA ds) = true := h
      simpa using z
    exact .cons (dq_kt kt h'.1 a) (dqa_kt kt h'.2 t)
end
theorem noLA_stp (ss : List Stp) : noLA (ss.map stepD) = true := noLA_all fun d hd => by
  obtain ⟨s, _, rfl⟩ := List.mem_map.mp hd
  exact noL_step s
theorem smx_stand {rows : List (List Wy)} {ts ks : List Wy} (h8 : rows.length ≤ 8) (h : ShS rows ts ks) : Smx 3 (standD ts ks) := by
  have hw : ∀ (us : List Wy), (∀ x ∈ us, WS rows x) → us.length ≤ 1000 → Smx 2 (.tuple (us.map wd)) := fun us hu hl => .tup 1 _ (fun d hd => by
    obtain ⟨x, hx, rfl⟩ := List.mem_map.mp hd
    refine .tup 0 _ (fun e he => ?_) (by rw [List.length_map]; have := (hu x hx).1; omega)
    obtain ⟨i, _, rfl⟩ := List.mem_map.mp he
    exact .int 0 i) (by rw [List.length_map]; exact hl)
  have hl := lnw_len rows
  have h1 := h.tl
  have h2 := h.kl
  refine .tup 2 _ (fun d hd => ?_) (by simp)
  rcases List.mem_cons.mp hd with z | z
  · rw [z]; exact hw ts h.t8 (by omega)
  · rw [List.mem_singleton.mp z]; exact hw ks h.k8 (by omega)
section
variable {P : Program} {w : World} {K : PySem.W.Frag} {mg : Str → Option Value} {base : Heap} {f : Addr} {fd : FuncData} {CW CN CK CT CR : Addr}
/-! Talk.to_rest(0) -/
def spTR (K : PySem.W.Frag) (CT CK CW : Addr) : Sp := fun vs H Q _ => ∃ (x pa wv kw : Addr) (rows : List (List Wy)) (st : St2) (past : List St2), vs = [.ref x, .int 0] ∧ TaO K CT CK CW H x pa wv kw rows st past ∧ ∀ H', Ex H H' → Q (.bl (decide (dueW rows st.1 st.2 = []))) H'
abbrev sTR : Stmt := inClass (top 51) 6
abbrev nTR : List Str := ["self", "limit", "_", "step"]
theorem scTR : FnScope nTR ["self", "limit"] (defScope sTR) := ⟨rfl, rfl, rfl, by decide +kernel, rfl, by decide +kernel, by decide +kernel⟩
theorem ok_tr (B : Bl mg) (T : TTx K CT) {tm : Tok} (hM : mg "MOST_STEPS_TO_REST" = some (.int 10000 tm)) (CB : Cal P w K mg base "is_between" ["least", "most", "thing"] 2 spBetween) (CF : Cal P w K mg base "first_due" ["works", "stand"] 3 (spFD K CK CW)) (MG : Msk P w K mg base CT "_go" ["self", "step"] 3 (spGo K CT CK CW)) (F : FnM K "to_rest" "Talk.to_rest" sTR f fd) : FnOk P w K mg base CX0 4 f fd ["self", "limit"] (spTR K CT CK CW) := by
  obtain ⟨f1, fd1, me1, F1, b1⟩ := MG.ex
  refine F.ok scTR (fun vs H Q E h => ?_) (fun cdv A outer s H vs Q E hr h => ?_)
  · obtain ⟨x, pa, wv, kw, rows, st, past, rfl, _⟩ := h
    rfl
  · obtain ⟨x, pa, wv, kw, rows, st, past, rfl, hT, k⟩ := h
    have r3 : Room 3 _ := hr
    have r2 : Room 2 _ := hr.mono (by decide)
    refine ⟨_, pss_cons (ps_if (pt_not (pt_val (pe_cal CB r2 (by rfl) (pa_cons pe_int (pa_cons (pe_glob (v := .int 10000) (by rfl) hM ⟨_, rfl⟩) (pa_cons (pv 1) pa_nil)))))) (pss_one ps_never) pss_nil)
      (pss_cons (ps_for (passes_of rfl) rfl (pi_range1 (by rfl) B.range (pa_cons (pv 1) pa_nil)) (pg_name (i := 2) scTR.nd rfl (Or.inl rfl))
        (pss_cons (ps_set (i := 3) scTR.nd rfl (Or.inl rfl) (pe_cal CF r3 (by rfl) (pa_cons (pe_fld (pv 0) rfl) (pa_cons (pe_fld (pv 0) rfl) pa_nil))))
        (pss_cons (ps_if (pt_cmpR op_isN1 (pv 3) pe_non (nomark _)) (pss_one (ps_ret pe_bl)) pss_nil)
        (pss_one (ps_expr (pe_meth (pv 0) T.cl me1 F1 r3 b1 .nil pass0 (pa_cons (pv 3) pa_nil)))))))
      (pss_one (ps_ret (pe_cmpR op_isN1 (pe_cal CF r3 (by rfl) (pa_cons (pe_fld (pv 0) rfl) (pa_cons (pe_fld (pv 0) rfl) pa_nil))) pe_non (nomark _))))), ?_⟩
    have c1 : Ev (tCall spBetween [] E0 (tCons (tC (.int 0)) (tCons (tC (.int 10000)) (tCons (tVar 1) tNil)))) (start nTR [.ref x, .int 0]) H (.bl true) := ev_call (ea_cons ev_c (ea_cons ev_c (ea_cons (ev_var rfl) ea_nil))) (spP_v fun H1 e => ⟨0, 10000, .int 0, .int 0, rfl, .int _, rfl⟩)
    refine q_when (b := !true) (et_not (et_B c1)) (fun z => by cases z) fun _ H1 e1 => ?_
    refine q_forR1 (ea_cons (ev_var rfl) ea_nil) (n := 0) (by omega) (fun i σ' H' => Ex H H' ∧ σ' = start nTR [.ref x, .int 0]) (fun H2 e2 => ⟨e1.trans e2, rfl⟩) (fun i σ' H' hi => absurd hi (by omega)) ?_
    rintro σ' H2 ⟨e2, rfl⟩
    obtain ⟨dx, fs, sv, us, hx, tf, hp, hk, hsv, hps⟩ := (hT.up e2).ex
    refine ret_any ⟨.ref x, rfl, x, CT, dx, fs, _, rfl, hx, T.cl, T.n1, tf.wk, .ref x, rfl, x, CT, dx, fs, _, rfl, hx, T.cl, T.n2, tf.st, kw, wv, rows, sv, st.1, st.2, rfl, hk.up hd_sub, hsv.up hd_sub, hT.ok, fun hn H3 e3 => ⟨rfl, ?_⟩, fun s r u hd hs hu nu H3 e3 => ⟨rfl, ?_⟩⟩
    · have := k H3 (e2.trans e3)
      rw [decide_eq_true hn] at this
      exact this
    · have := k H3 (e2.trans e3)
      rw [decide_eq_false (by rw [hd]; exact List.cons_ne_nil _ _)] at this
      show Q (.bl (decide (u = V.non))) H3
      rw [decide_eq_false nu]
      exact this
end
end Wk

set_option Elab.async false
set_option linter.all false
set_option maxRecDepth 100000
set_option maxHeartbeats 2000000
namespace Wk
open PySem PySem.Spec PyProof.Rows L2 Evl
section
variable {P : Program} {w : World} {K : PySem.W.Frag} {mg : Str → Option Value} {base : Heap} {f : Addr} {fd : FuncData} {CW CN CK CT CR : Addr}
/-! _law_drawn_order -/
def spDO : Sp := fun vs H Q _ => ∃ (p q : Addr) (lv : V) (rows : List (List Wy)), vs = [.ref p, lv] ∧ Pl Em H p q ∧ Dq H lv (pd rows) ∧ GW rows ∧ 2 ≤ rows.length ∧ rows.length ≤ 8 ∧ (∀ row ∈ rows, row.length ≤ 6) ∧
  ∀ (H' : Hp) (R : Addr) (us : List V) (ss : List Stp), Dv p q H H' → H R = none → H' R = some (.lst us) → DqA H' us (ss.map stepD) → ss.length ≤ 90 → (∀ s ∈ ss, StpOk rows s) → Q (.ref R) H'
abbrev sDO : Stmt := top 78
abbrev nDO : List Str := ["_law_pool_here", "_law_lists_here", "_law_moves", "_law_row", "_law_rounds", "_law_left", "_law_count"]
theorem scDO : FnScope nDO ["_law_pool_here", "_law_lists_here"] (defScope sDO) := ⟨rfl, rfl, rfl, by decide +kernel, rfl, by decide +kernel, by decide +kernel⟩
theorem stepsW_ne {rows : List (List Wy)} (h2 : 2 ≤ rows.length) : stepsW rows ≠ [] := fun z => by
  have := congrArg List.length z
  unfold stepsW at this
  rw [List.length_append, List.length_map, List.length_map, List.length_range] at this
  simp at this
  omega
theorem stepsW_len (rows : List (List Wy)) (h8 : rows.length ≤ 8) : (stepsW rows).length ≤ 100 := by
  have := lnw_len rows
  unfold stepsW
  rw [List.length_append, List.length_map, List.length_map, List.length_range]
  omega
theorem ok_dord (B : Bl mg) (C : Cal P w K mg base "_law_draw" ["_law_pool_here", "_law_size"] 1 spDraw) (CS : Cal P w K mg base "_law_steps" ["_law_lists_here"] 2 spLSteps) (F : FnP K "_law_drawn_order" sDO f fd) : FnOk P w K mg base CX0 3 f fd ["_law_pool_here", "_law_lists_here"] spDO := by
  refine F.ok scDO (fun vs H Q E h => ?_) (fun cdv A outer s H vs Q E hr h => ?_)
  · obtain ⟨p, q, lv, rows, rfl, _⟩ := h
    rfl
  · obtain ⟨p, q, lv, rows, rfl, hP, hl, hG, h2, h8, h6, k⟩ := h
    have r2 : Room 2 _ := hr
    have r1 : Room 1 _ := hr.mono (by decide)
    have hu : (A.deeper (envOfC "_law_drawn_order" (defScope sDO) s.heap.objs.size f cdv)).units < cLine := by have := hr.un; omega
    refine ⟨_, pss_cons (ps_set (i := 2) scDO.nd rfl (Or.inl rfl) (pe_cal CS r2 (by rfl) (pa_cons (pv 1) pa_nil)))
      (pss_cons (ps_set (i := 3) scDO.nd rfl (Or.inl rfl) (pe_lst pa_nil))
      (pss_cons (ps_set (i := 4) scDO.nd rfl (Or.inl rfl) (pe_cal C r1 (by rfl) (pa_cons (pv 0) (pa_cons pe_int pa_nil))))
      (pss_cons (ps_set (i := 5) scDO.nd rfl (Or.inl rfl) (pe_lst pa_nil))
      (pss_cons (ps_for (passes_of rfl) rfl (pi_range1 (by rfl) B.range (pa_cons (pe_cal C r1 (by rfl) (pa_cons (pv 0) (pa_cons pe_int pa_nil))) pa_nil)) (pg_name (i := 6) scDO.nd rfl (Or.inl rfl))
        (pss_cons (ps_if (PW.pt (pw_or (pt_cmpR (op_eqEL hu) (pv 5) (pe_lst pa_nil) (nomark _)) (pw_or1 (pt_cmpR op_eq (pv 4) pe_int (nomark _))))) (pss_one (ps_set (i := 5) scDO.nd rfl (Or.inl rfl) (pe_callTy call_list_of (by rfl) B.list PyProof.Rows.boot_list (pa_cons (pv 2) pa_nil)))) pss_nil)
        (pss_one (ps_expr (pe_bm PySem.F.plainAttrs_list PySem.F.slot_list_append PySem.F.type_list_append mt_append (pv 3) (pa_cons
          (pe_bm PySem.F.plainAttrs_list PySem.F.slot_list_pop PySem.F.type_list_pop mt_popAt (pv 5) (pa_cons (pe_cal C r1 (by rfl) (pa_cons (pv 0) (pa_cons (pe_callB call_len_seq (by rfl) B.len PySem.boot_len (pa_cons (pv 5) pa_nil)) pa_nil))) pa_nil)) pa_nil))))))
      (pss_one (ps_ret (pv 3))))))), ?_⟩
    refine q_asgW ⟨lv, rfl, lv, rows, rfl, hl, hG, h2, h8, h6, fun H1 M ms e1 nM hM hms => ?_⟩
    change tSeq _ _ _ [some (.ref p), some lv, some (.ref M), none, none, none, none] H1
    have hms1 : DqA H1 ms (stepsD rows) := hms.mono ((off_in _ _).trans fr_sub)
    rw [stepsD_W] at hms1
    have hml := hms1.length
    rw [List.length_map] at hml
    have hP1 := hP.ext e1
    have pM : M ≠ p := fun z => by
      obtain ⟨_, _, q1, _⟩ := hP.at_
      rw [z, q1] at nM; cases nM
    have qM : M ≠ q := fun z => by
      obtain ⟨_, _, _, q2, _⟩ := hP.at_
      rw [z, q2] at nM; cases nM
    refine q_asgW ⟨by show 0 ≤ sizeLine; decide, fun R nR => ?_⟩
    have e2 := Ex.new (o := .lst ([] : List V)) nR
    have hR2 : (upd H1 R (.lst ([] : List V))) R = some (.lst []) := upd_same
    have hM2 := e2 _ _ hM
    have hms2 := hms1.mono e2
    have hP2 := hP1.ext e2
    have nMR : M ≠ R := fun z => by rw [← z, hM] at nR; cases nR
    have gR := fresh_back e1 nR
    generalize upd H1 R (.lst ([] : List V)) = H2 at *
    have pR : R ≠ p := fun z => by
      obtain ⟨_, _, q1, _⟩ := hP.at_
      rw [z, q1] at gR; cases gR
    have qR : R ≠ q := fun z => by
      obtain ⟨_, _, _, q2, _⟩ := hP.at_
      rw [z, q2] at gR; cases gR
    change tSeq _ _ _ [some (.ref p), some lv, some (.ref M), some (.ref R), none, none, none] H2
    refine q_asgW ⟨.ref p, rfl, Hd H2 p q, p, q, 2, rfl, hP2.hd, by omega, by omega, fun H3 rd' hd3 _ _ => ?_⟩
    have dv3 : Dv p q H H3 := (((Dv.refl hP).ext e1).ext e2).draw hd3
    have d23 : Dv p q H2 H3 := (Dv.refl hP2).draw hd3
    have kp3 := d23.kp hP2
    have hM3 := hd3.off _ _ pM qM hM2
    have hR3 := hd3.off _ _ pR qR hR2
    have hms3 := dqa_kp kp3 (noLA_stp _) hms2
    change tSeq _ _ _ [some (.ref p), some lv, some (.ref M), some (.ref R), some (.int rd'), none, none] H3
    refine q_asgW ⟨by show 0 ≤ sizeLine; decide, fun L nL => ?_⟩
    have e4 := Ex.new (o := .lst ([] : List V)) nL
    have hL4 : (upd H3 L (.lst ([] : List V))) L = some (.lst []) := upd_same
    have dv4 := dv3.ext e4
    have hM4 := e4 _ _ hM3
    have hR4 := e4 _ _ hR3
    have hms4 := hms3.mono e4
    have nLR : L ≠ R := fun z => by rw [z, hR3] at nL; cases nL
    have nLM : L ≠ M := fun z => by rw [z, hM3] at nL; cases nL
    have pL : L ≠ p := fun z => by
      obtain ⟨_, _, q1, _⟩ := dv3.pl.at_
      rw [z, q1] at nL; cases nL
    have qL : L ≠ q := fun z => by
      obtain ⟨_, _, _, q2, _⟩ := dv3.pl.at_
      rw [z, q2] at nL; cases nL
    have gL : H L = none := by
      refine fresh_back e1 (fresh_back e2 ?_)
      cases hz : H2 L with
      | none => rfl
      | some o =>
        have := hd3.off _ _ pL qL hz
        rw [nL] at this
        cases this
    generalize upd H3 L (.lst ([] : List V)) = H4 at *
    change tSeq _ _ _ [some (.ref p), some lv, some (.ref M), some (.ref R), some (.int rd'), some (.ref L), none] H4
    refine q_forRO (fun n H' => Dv p q H H' ∧ n ≤ 90 ∧ H' M = some (.lst ms) ∧ DqA H' ms ((stepsW rows).map stepD) ∧ H' R = some (.lst []) ∧ H' L = some (.lst [])) (fun Q hQ => ⟨.ref p, rfl, Hd H4 p q, p, q, 91, rfl, dv4.pl.hd, by omega, by omega, fun H5 n hd5 hn0 hn1 => ?_⟩)
      (fun n i σ' H' => n ≤ 90 ∧ ∃ (L' : Addr) (o6 : Option V) (us ws : List V) (ss ls : List Stp), σ' = [some (.ref p), some lv, some (.ref M), some (.ref R), some (.int rd'), some (.ref L'), o6] ∧ Dv p q H H' ∧ H' M = some (.lst ms) ∧ DqA H' ms ((stepsW rows).map stepD) ∧ H' R = some (.lst us) ∧ DqA H' us (ss.map stepD) ∧ ss.length = i ∧ (∀ s ∈ ss, StpOk rows s) ∧ H' L' = some (.lst ws) ∧ DqA H' ws (ls.map stepD) ∧ (∀ s ∈ ls, StpOk rows s) ∧ ls.length ≤ 100 ∧ L' ≠ R ∧ L' ≠ M ∧ L' ≠ p ∧ L' ≠ q ∧ H L' = none) ?_ ?_ ?_
    · have d45 : Dv p q H4 H5 := (Dv.refl dv4.pl).draw hd5
      have kp5 := d45.kp dv4.pl
      obtain ⟨m, rfl⟩ : ∃ m : Nat, n = (m : Int) := ⟨n.toNat, by omega⟩
      exact hQ m H5 (by omega) ⟨dv4.trans d45, by omega, hd5.off _ _ pM qM hM4, dqa_kp kp5 (noLA_stp _) hms4, hd5.off _ _ pR qR hR4, hd5.off _ _ pL qL hL4⟩
    · rintro n H5 ⟨dv5, hn, a1, a2, a3, a4⟩
      exact ⟨hn, L, _, [], [], [], [], rfl, dv5, a1, a2, a3, .nil, rfl, fun s hs => (by cases hs), a4, .nil, fun s hs => (by cases hs), by simp, nLR, nLM, pL, qL, gL⟩
    · rintro n i σ' H5 hi ⟨hn, L', o6, us, ws, ss, ls, rfl, dv5, hM5, hms5, hR5, hus5, hsl, hss, hL5, hws5, hls, hll, n1, n2, n3, n4, n5⟩
      have hwl := hws5.length
      rw [List.length_map] at hwl
      change tSeq _ _ _ [some (.ref p), some lv, some (.ref M), some (.ref R), some (.int rd'), some (.ref L'), some (.int (i : Int))] H5
      have c1 : EvT (tTest (tOp (rEqEL K) (tVar 5) (tLst tNil))) [some (.ref p), some lv, some (.ref M), some (.ref R), some (.int rd'), some (.ref L'), some (.int (i : Int))] H5 ws.isEmpty := et_test fun H6 e6 Q6 q6 => ⟨.ref L', rfl, by show 0 ≤ sizeLine; decide, fun l hl => ⟨L', l, ws, rfl, rfl, sq_of ((e6.trans (Ex.new hl)) _ _ hL5), sq_of upd_same, q6 _ (Ex.new hl)⟩⟩
      refine q_ifJ (i := 5) (b := ws.isEmpty || decide (V.int rd' = V.int 0)) (et_or c1 fun _ => et_test (ev_op (ev_var (i := 4) rfl) ev_c (rv_eq rfl))) (fun v H' => ∃ (L2 : Addr) (ws2 : List V) (ls2 : List Stp), v = .ref L2 ∧ Ex H5 H' ∧ H' L2 = some (.lst ws2) ∧ DqA H' ws2 (ls2.map stepD) ∧ (∀ s ∈ ls2, StpOk rows s) ∧ ls2.length ≤ 100 ∧ 0 < ls2.length ∧ L2 ≠ R ∧ L2 ≠ M ∧ L2 ≠ p ∧ L2 ≠ q ∧ H L2 = none) (fun hb H6 e6 Q6 q6 => ?_) (fun hb H6 e6 => ?_) (fun v H6 hJ => ?_)
      · refine ⟨.ref M, rfl, M, ms, rfl, .inl (sq_of (e6 _ _ hM5)), fun l hl => q6 _ _ ⟨l, ms, stepsW rows, rfl, e6.trans (Ex.new hl), upd_same, hms5.mono (e6.trans (Ex.new hl)), fun s hs => (stepsW_ok h2).mp hs, stepsW_len rows h8, ?_, ?_, ?_, ?_, ?_, ?_⟩⟩
        · have := stepsW_ne h2
          cases hz : stepsW rows with
          | nil => exact absurd hz this
          | cons a b => simp
        · exact fun z => by rw [z, e6 _ _ hR5] at hl; cases hl
        · exact fun z => by rw [z, e6 _ _ hM5] at hl; cases hl
        · exact fun z => by
            obtain ⟨_, _, q1, _⟩ := dv5.pl.at_
            rw [z, e6 _ _ q1] at hl; cases hl
        · exact fun z => by
            obtain ⟨_, _, _, q2, _⟩ := dv5.pl.at_
            rw [z, e6 _ _ q2] at hl; cases hl
        · cases hz : H l with
          | none => rfl
          | some o =>
            by_cases c1 : l = p
            · obtain ⟨_, _, q1, _⟩ := dv5.pl.at_
              rw [c1, e6 _ _ q1] at hl; cases hl
            by_cases c2 : l = q
            · obtain ⟨_, _, _, q2, _⟩ := dv5.pl.at_
              rw [c2, e6 _ _ q2] at hl; cases hl
            have := e6 _ _ (dv5.off _ _ c1 c2 hz)
            rw [hl] at this; cases this
      · refine ⟨.ref L', rfl, L', ws, ls, rfl, e6, e6 _ _ hL5, hws5.mono e6, hls, hll, ?_, n1, n2, n3, n4, n5⟩
        cases ls with
        | nil =>
          cases hws5
          simp at hb
        | cons a b => simp
      obtain ⟨L2', ws2, ls2, rfl, e6, hL6, hws6, hls2, hll2, hl0, m1, m2, m3, m4, m5⟩ := hJ
      change tDrop _ _ [some (.ref p), some lv, some (.ref M), some (.ref R), some (.int rd'), some (.ref L2'), some (.int (i : Int))] H6
      have hwl2 := hws6.length
      rw [List.length_map] at hwl2
      have dv6 := dv5.ext e6
      have hR6 := e6 _ _ hR5
      have hM6 := e6 _ _ hM5
      refine ⟨.ref R, rfl, .inl ⟨rfl, _, sq_of hR6⟩, .ref L2', rfl, .inl ⟨rfl, _, sq_of hL6⟩, .ref p, rfl, .ref L2', rfl, L2', _, rfl, .inl (sq_of hL6), ?_⟩
      refine ⟨Hd H6 p q, p, q, (ws2.length : Int), rfl, dv6.pl.hd, by omega, by omega, fun H7 j hd7 hj0 hj1 => ?_⟩
      have d67 : Dv p q H6 H7 := (Dv.refl dv6.pl).draw hd7
      have kp7 := d67.kp dv6.pl
      have dv7 := dv6.trans d67
      obtain ⟨m, rfl⟩ : ∃ m : Nat, j = (m : Int) := ⟨j.toNat, by omega⟩
      have hm : m < ws2.length := by omega
      have hL7 := hd7.off _ _ m3 m4 hL6
      have hR7 := hd7.off _ _ pR qR hR6
      have hM7 := hd7.off _ _ pM qM hM6
      have hul := hus5.length
      rw [List.length_map] at hul
      refine ⟨L2', _, (m : Int), m, ws2[m], rfl, rfl, hL7, by omega, by omega, seqIx hm, List.getElem?_eq_getElem hm, ?_⟩
      refine ⟨R, us, ws2[m], rfl, rfl, by rw [upd_ne (Ne.symm m1)]; exact hR7, by rw [sizeLine_eq]; omega, ?_⟩
      have hws7 := dqa_kp kp7 (noLA_stp _) hws6
      obtain ⟨st, s1, s2⟩ := stps_at hws7 (List.getElem?_eq_getElem hm)
      have k1 : Kp H7 (upd (upd H7 L2' (.lst (ws2.eraseIdx m))) R (.lst (us ++ [ws2[m]]))) := (Kp.mut hL7).trans (Kp.mut (by rw [upd_ne (Ne.symm m1)]; exact hR7))
      have nRM : R ≠ M := Ne.symm nMR
      refine ⟨hn, L2', _, us ++ [ws2[m]], ws2.eraseIdx m, ss ++ [st], ls2.eraseIdx m, rfl, (dv7.mut m5 m3 m4).mut gR pR qR, ?_, dqa_kp k1 (noLA_stp _) (dqa_kp kp7 (noLA_stp _) (hms5.mono e6)), upd_same, ?_, by simp [hsl], ?_, ?_, ?_, ?_, ?_, m1, m2, m3, m4, m5⟩
      · rw [upd_ne nMR, upd_ne (Ne.symm m2)]
        exact hM7
      · rw [List.map_append]
        exact (dqa_kp k1 (noLA_stp _) (dqa_kp kp7 (noLA_stp _) (hus5.mono e6))).append (.cons (dq_kp k1 (noL_step st) s2) .nil)
      · intro t ht
        rcases List.mem_append.mp ht with z | z
        · exact hss t z
        · rw [List.mem_singleton.mp z]
          exact hls2 st (List.mem_of_getElem? s1)
      · rw [upd_ne m1, upd_same]
      · rw [← eraseIdx_mp]
        exact dqa_kp k1 (by rw [eraseIdx_mp]; exact noLA_stp _) (hws7.erase m)
      · exact fun t ht => hls2 t (List.mem_of_mem_eraseIdx ht)
      · have := List.length_eraseIdx_le ls2 m
        omega
    · rintro n σ' H5 ⟨hn, L', o6, us, ws, ss, ls, rfl, dv5, hM5, hms5, hR5, hus5, hsl, hss, hL5, hws5, hls, hll, n1, n2, n3, n4, n5⟩
      exact s_ret (ev_var rfl) fun H6 e6 => k H6 R us ss (dv5.ext e6) gR (e6 _ _ hR5) (hus5.mono e6) (by omega) hss
end
end Wk

set_option Elab.async false
set_option linter.all false
set_option maxRecDepth 100000
set_option maxHeartbeats 2000000
namespace Wk
open PySem PySem.Spec PyProof.Rows L2 Evl
theorem row_inv {K : PySem.W.Frag} {n : Nat} {H : Hp} {u : V} {pre : List Wy} (h : RowAt K n H u pre) (hn : pre.length = n) : ∃ b xs, u = .ref b ∧ H b = some (.tup xs) ∧ DpAll K H xs (pre.map wd) ∧ xs.length = n := by
  subst hn
  obtain ⟨b, xs, h1, h2, h3⟩ := h
  rw [ptk_full, od_some] at h3
  exact ⟨b, xs, h1, h2, h3, by have := dpa_len h3; rw [List.length_map] at this; exact this⟩
theorem eqv_tks : ∀ a b : List Wy, PyData.eqvAll (a.map wd) (b.map wd) = decide (a = b)
  | [], [] => by simp [PyData.eqvAll]
  | [], _ :: _ => by simp [PyData.eqvAll]
  | _ :: _, [] => by simp [PyData.eqvAll]
  | x :: a, y :: b => by
    have ih := eqv_tks a b
    simp only [List.map_cons, PyData.eqvAll, ih, eqv_wd]
    by_cases h : x = y
    · subst h; simp
    · simp [h]
theorem eqv_tk (a b : List Wy) : PyData.eqv (tkd a) (tkd b) = decide (a = b) := eqv_tks a b
theorem any_tk (L : List (List Wy)) (x : List Wy) : ((L.map tkd).any fun z => PyData.eqv z (tkd x)) = decide (x ∈ L) := by
  induction L with
  | nil => rfl
  | cons a l ih =>
    rw [List.map_cons, List.any_cons, ih, eqv_tk]
    by_cases h : a = x
    · subst h; simp
    · rw [decide_eq_false h, Bool.false_or, decide_eq_decide]
      constructor
      · exact fun z => List.mem_cons_of_mem _ z
      · intro z
        rcases List.mem_cons.mp z with q | q
        · exact absurd q.symm h
        · exact q
theorem lay_tk (t : List Wy) : (tkd t).canLay0 = true := by
  simp only [tkd, PyData.canLay0]
  exact lay_wds t
theorem lay_tks (L : List (List Wy)) : PyData.canLayAll0 (L.map tkd) = true := layAll.mpr fun d hd => by
  obtain ⟨w, _, rfl⟩ := List.mem_map.mp hd
  exact lay_tk w
theorem dep_tks (L : List (List Wy)) : PyData.depthAll (L.map tkd) ≤ 2 := depAll.mpr fun d hd => by
  obtain ⟨w, _, rfl⟩ := List.mem_map.mp hd
  exact dep_tk w
theorem shaped_tk (t : List Wy) : SeqAt.shaped (tkd t) = true := by
  unfold SeqAt.shaped
  have h2 := dep_tk t
  rw [lay_tk t, decide_eq_true (show (tkd t).depth ≤ 64 by omega)]
  rfl
theorem shaped_tks (L : List (List Wy)) : SeqAt.shaped (.list (L.map tkd)) = true := by
  unfold SeqAt.shaped
  have h1 := lay_tks L
  have h2 := dep_tks L
  have : decide ((PyData.list (L.map tkd)).depth ≤ 64) = true := decide_eq_true (by simp only [PyData.depth]; omega)
  rw [this]
  simp [PyData.canLay0, h1]
theorem rw_dpa {K : PySem.W.Frag} {n : Nat} {H : Hp} {us : List V} {L : List (List Wy)} (h : RwT K n H us L) (hl : ∀ pre ∈ L, pre.length = n) : DpAll K H us (L.map tkd) := by
  induction h with
  | nil => exact .nil
  | cons a b ih =>
    obtain ⟨c, xs, rfl, h1, h2, _⟩ := row_inv a (hl _ List.mem_cons_self)
    exact .cons (.tup (st_of h1) h2) (ih fun pre hp => hl pre (List.mem_cons_of_mem _ hp))
theorem smx_tk (t : List Wy) (h1 : t.length ≤ 1000) (h2 : ∀ x ∈ t, x.length ≤ 1000) : Smx 2 (tkd t) := by
  refine .tup 1 _ (fun d hd => ?_) (by rw [List.length_map]; exact h1)
  obtain ⟨x, hx, rfl⟩ := List.mem_map.mp hd
  refine .tup 0 _ (fun d hd => ?_) (by rw [List.length_map]; exact h2 x hx)
  obtain ⟨i, _, rfl⟩ := List.mem_map.mp hd
  exact .int 0 i
theorem stp_inj {t s : Stp} (h1 : wordS t = wordS s) (h2 : restS t = restS s) : t = s := by
  cases t with
  | inl p =>
    cases s with
    | inl p' => exact congrArg Sum.inl h2
    | inr r' => exact absurd (show ("tell" : Str) = "choose" from h1) (by decide +kernel)
  | inr r =>
    cases s with
    | inl p' => exact absurd (show ("choose" : Str) = "tell" from h1) (by decide +kernel)
    | inr r' =>
      have h2' : [(r : Int)] = [(r' : Int)] := h2
      injection h2' with h2' _
      exact congrArg Sum.inr (by omega)
theorem any_due {rows : List (List Wy)} {ts ks : List Wy} {s : Stp} (h2 : 2 ≤ rows.length) (hs : StpOk rows s) : ((dueL rows ts ks).any fun e => PyData.eqv e (stepD s)) = !decide (mvW rows ts ks s = (ts, ks)) := by
  rw [Bool.eq_iff_iff, List.any_eq_true]
  constructor
  · rintro ⟨e, he, hq⟩
    unfold dueL dueW at he
    obtain ⟨t, ht, rfl⟩ := List.mem_map.mp he
    obtain ⟨_, hf⟩ := List.mem_filter.mp ht
    rw [stepD_eq, stepD_eq, eqv_str1] at hq
    obtain ⟨q1, q2⟩ := Bool.and_eq_true_iff.mp hq
    rw [stp_inj (eq_of_beq q1) (of_decide_eq_true q2)] at hf
    exact hf
  · intro hf
    refine ⟨stepD s, List.mem_map.mpr ⟨s, List.mem_filter.mpr ⟨(stepsW_ok h2).mpr hs, hf⟩, rfl⟩, ?_⟩
    rw [stepD_eq, eqv_str1]
    simp
theorem shaped_stp (s : Stp) : SeqAt.shaped (stepD s) = true := by
  rw [stepD_eq]
  exact shaped_str1 (word_ok s) _
theorem DqA.rev {G : Hp} : ∀ {us : List V} {ds : List PyData}, DqA G us ds → DqA G us.reverse ds.reverse
  | [], _, .nil => .nil
  | u :: us, d :: ds, .cons a t => by
    rw [List.reverse_cons, List.reverse_cons]
    exact (DqA.rev t).append (.cons a .nil)
/-- at rest no step changes the stand -/
theorem rest_go {rows : List (List Wy)} {st : St2} (h2 : 2 ≤ rows.length) (h : dueW rows st.1 st.2 = []) {s : Stp} (hs : StpOk rows s) : goW rows st s = st := by
  unfold dueW at h
  rw [List.filter_eq_nil_iff] at h
  have := h s ((stepsW_ok h2).mpr hs)
  have e : mvW rows st.1 st.2 s = (st.1, st.2) := by simpa using this
  exact e
theorem rest_run {rows : List (List Wy)} {st : St2} (h2 : 2 ≤ rows.length) (h : dueW rows st.1 st.2 = []) : ∀ {ss : List Stp}, (∀ s ∈ ss, StpOk rows s) → runW rows st ss = st ∧ chgW rows st ss = 0 ∧ wayW rows st ss = List.replicate ss.length st
  | [], _ => ⟨rfl, rfl, rfl⟩
  | a :: ss, hs => by
    have e := rest_go h2 h (hs a List.mem_cons_self)
    obtain ⟨i1, i2, i3⟩ := rest_run h2 h (ss := ss) fun s hm => hs s (List.mem_cons_of_mem _ hm)
    refine ⟨?_, ?_, ?_⟩
    · show runW rows (goW rows st a) ss = st
      rw [e, i1]
    · show (if goW rows st a = st then 0 else 1) + chgW rows (goW rows st a) ss = 0
      rw [if_pos e, e, i2]
    · show st :: wayW rows (goW rows st a) ss = _
      rw [e, i3]
      rfl
section
variable {P : Program} {w : World} {K : PySem.W.Frag} {mg : Str → Option Value} {base : Heap} {f : Addr} {fd : FuncData} {CW CN CK CT CR CM : Addr}
/-! _law_same of flags -/
theorem kb_l {b : Bool} : kitB (tyN (PyData.bool b)) "list" = some false := show kitB "bool" "list" = some false by decide +kernel
theorem kb_t {b : Bool} : kitB (tyN (PyData.bool b)) "tuple" = some false := show kitB "bool" "tuple" = some false by decide +kernel
theorem kb_i {b : Bool} : kitB (tyN (PyData.bool b)) "int" = some true := show kitB "bool" "int" = some true by decide +kernel
theorem kb_b {b : Bool} : kitB (tyN (PyData.bool b)) "bool" = some true := show kitB "bool" "bool" = some true by decide +kernel
abbrev spSameB : Sp := spP fun H vs z => ∃ b : Bool, vs = [.bl b, .bl b] ∧ z = .bl true
theorem ok_sameB (B : Bl mg) (k' : Nat) (sp' : Sp) (C : Cal P w K mg base "_law_same" ["_law_actual", "_law_expected"] k' sp') (F : FnP K "_law_same" sSame f fd) : FnOk P w K mg base CX0 (k' + 1) f fd ["_law_actual", "_law_expected"] spSameB := by
  refine F.ok scSame (fun vs H Q E h => ?_) (fun cdv A outer s H vs Q E hr h => ?_)
  · obtain ⟨z, ⟨b, rfl, _⟩, _⟩ := h
    rfl
  · obtain ⟨z, ⟨b, rfl, rfl⟩, k⟩ := h
    refine ⟨_, pss_cons (ps_if (pt_val (pe_callB call_isiT (by rfl) B.isi boot_isinstance (pa_cons (pv 1) (pa_cons (pe_tup (pa_cons (pe_bltn (v := .ty "list") (by rfl) B.list PyProof.Rows.boot_list rfl) (pa_cons (pe_bltn (v := .ty "tuple") (by rfl) B.tuple PyProof.Rows.boot_tuple rfl) pa_nil))) pa_nil))))
        (pss_cons (ps_if (PW.pt (pw_or (pt_not (pt_val (pe_callB call_isiT (by rfl) B.isi boot_isinstance (pa_cons (pv 0) (pa_cons (pe_tup (pa_cons (pe_bltn (v := .ty "list") (by rfl) B.list PyProof.Rows.boot_list rfl) (pa_cons (pe_bltn (v := .ty "tuple") (by rfl) B.tuple PyProof.Rows.boot_tuple rfl) pa_nil))) pa_nil)))))
            (pw_or1 (pt_cmpR op_ne (pe_callB call_isi (by rfl) B.isi boot_isinstance (pa_cons (pv 1) (pa_cons (pe_bltn (v := .ty "list") (by rfl) B.list PyProof.Rows.boot_list rfl) pa_nil))) (pe_callB call_isi (by rfl) B.isi boot_isinstance (pa_cons (pv 0) (pa_cons (pe_bltn (v := .ty "list") (by rfl) B.list PyProof.Rows.boot_list rfl) pa_nil))) (nomark _))))) (pss_one (ps_ret pe_bl)) pss_nil)
        (pss_cons (ps_if (pt_cmpR op_ne (pe_callB call_len_seq (by rfl) B.len PySem.boot_len (pa_cons (pv 0) pa_nil)) (pe_callB call_len_seq (by rfl) B.len PySem.boot_len (pa_cons (pv 1) pa_nil)) (nomark _)) (pss_one (ps_ret pe_bl)) pss_nil)
        (pss_cons (ps_for (passes_of rfl) rfl (pi_range1 (by rfl) B.range (pa_cons (pe_callB call_len_seq (by rfl) B.len PySem.boot_len (pa_cons (pv 1) pa_nil)) pa_nil)) (pg_name (i := 2) scSame.nd rfl (Or.inl rfl))
          (pss_one (ps_if (pt_not (pt_val (pe_cal C hr (by rfl) (pa_cons (pe_ix ix_seq (pv 0) (pv 2) (fun _ _ => rfl)) (pa_cons (pe_ix ix_seq (pv 1) (pv 2) (fun _ _ => rfl)) pa_nil)) (Nat.le_refl _)))) (pss_one (ps_ret pe_bl)) pss_nil)))
        (pss_one (ps_ret pe_bl))))) pss_nil)
      (pss_cons (ps_if (pt_val (pe_callB call_isi (by rfl) B.isi boot_isinstance (pa_cons (pv 1) (pa_cons (pe_bltn (v := .ty "int") (by rfl) B.int PyProof.Rows.boot_int rfl) pa_nil))))
        (pss_one (ps_ret (pe_and (pe_callB call_isi (by rfl) B.isi boot_isinstance (pa_cons (pv 0) (pa_cons (pe_bltn (v := .ty "int") (by rfl) B.int PyProof.Rows.boot_int rfl) pa_nil)))
          (pe_and (pe_cmpR op_eq (pe_callB call_isi (by rfl) B.isi boot_isinstance (pa_cons (pv 0) (pa_cons (pe_bltn (v := .ty "bool") (by rfl) B.bool PyProof.Rows.boot_bool rfl) pa_nil))) (pe_callB call_isi (by rfl) B.isi boot_isinstance (pa_cons (pv 1) (pa_cons (pe_bltn (v := .ty "bool") (by rfl) B.bool PyProof.Rows.boot_bool rfl) pa_nil))) (nomark _))
            (pe_one (pe_cmpR op_eq (pv 0) (pv 1) (nomark _))))))) pss_nil)
      (pss_cons (ps_if (pt_cmp (pc_isN (pv 1))) (pss_one (ps_ret (pe_cmp (pc_isN (pv 0))))) pss_nil)
      (pss_one (ps_ret (pe_and (pe_callB call_isi (by rfl) B.isi boot_isinstance (pa_cons (pv 0) (pa_cons (pe_bltn (v := .ty "str") (by rfl) B.str PyProof.Rows.boot_str rfl) pa_nil))) (pe_one (pe_cmpR op_eq (pv 0) (pv 1) (nomark _)))))))), ?_⟩
    have v0 : ∀ {H1 : Hp}, Ev (tVar 0) [some (.bl b), some (.bl b), none] H1 (.bl b) := ev_var rfl
    have v1 : ∀ {H1 : Hp}, Ev (tVar 1) [some (.bl b), some (.bl b), none] H1 (.bl b) := ev_var rfl
    refine q_when (b := false || false) (et_B (ep_isi2 (K := K) v1 (.bl b) kb_l kb_t)) (fun hb => by cases hb) fun _ H1 e1 => ?_
    refine q_when (b := true) (et_B (ep_isi (K := K) v1 (.bl b) kb_i)) (fun _ H2 e2 => ?_) (fun hb => by cases hb)
    refine s_ret (ev_is (ev_andV (a := true) (b := true && true) (ep_isi (K := K) v0 (.bl b) kb_i) fun _ => ev_andV (a := true) (b := true) (ev_is (ev_op (ep_isi (K := K) (b := true) v0 (.bl b) kb_b) (ep_isi (K := K) (b := true) v1 (.bl b) kb_b) (rv_eq rfl)) (by simp)) fun _ => ev_is (ev_op v0 v1 (rv_eq rfl)) (by simp)) rfl) fun H3 e3 => k H3 ((e1.trans e2).trans e3)
/-! _law_looked -/
abbrev spLk (K : PySem.W.Frag) (CW : Addr) : Sp := spP fun H vs z => ∃ (wv : Addr) (rows : List (List Wy)) (sv stv : V) (ts ks : List Wy) (s : Stp), vs = [.ref wv, sv, stv] ∧ WO CW H (.ref wv) rows ∧ StD K H sv ts ks ∧ StOk rows ts ks ∧ Dq H stv (stepD s) ∧ StpOk rows s ∧ z = .bl true
abbrev sLk : Stmt := top 79
abbrev nLk : List Str := ["_law_wishes", "_law_stand", "_law_step", "_law_changes", "_law_behind"]
theorem scLk : FnScope nLk ["_law_wishes", "_law_stand", "_law_step"] (defScope sLk) := ⟨rfl, rfl, rfl, by decide +kernel, rfl, by decide +kernel, by decide +kernel⟩
theorem ok_lk (CD : Cal P w K mg base "due" ["wishes", "stand"] 10 (spDue K CW)) (CN : Cal P w K mg base "done" ["wishes", "stand", "step"] 10 (spDone K CW)) (CI : Cal P w K mg base "is_stand" ["wishes", "thing"] 10 (spIS1 K CW)) (F : FnP K "_law_looked" sLk f fd) : FnOk P w K mg base CX0 11 f fd ["_law_wishes", "_law_stand", "_law_step"] (spLk K CW) := by
  refine F.ok scLk (fun vs H Q E h => ?_) (fun cdv A outer s H vs Q E hr h => ?_)
  · obtain ⟨z, ⟨wv, rows, sv, stv, ts, ks, s, rfl, _⟩, _⟩ := h
    rfl
  · obtain ⟨z, ⟨wv, rows, sv, stv, ts, ks, st, rfl, hw, hsv, hS, hst, hok, rfl⟩, k⟩ := h
    have hu : (A.deeper (envOfC "_law_looked" (defScope sLk) s.heap.objs.size f cdv)).units + 65 < cLine := by have := hr.un; omega
    have hu4 : (A.deeper (envOfC "_law_looked" (defScope sLk) s.heap.objs.size f cdv)).units + 64 < cLine := by have := hr.un; omega
    refine ⟨_, pss_cons (ps_set (i := 3) scLk.nd rfl (Or.inl rfl) (pe_cmpR (op_inD hu) (pv 2) (pe_cal CD hr (by rfl) (pa_cons (pv 0) (pa_cons (pv 1) pa_nil))) rfl))
      (pss_cons (ps_set (i := 4) scLk.nd rfl (Or.inl rfl) (pe_cal CN hr (by rfl) (pa_cons (pv 0) (pa_cons (pv 1) (pa_cons (pv 2) pa_nil)))))
      (pss_one (ps_ret (pe_and (pe_cmpR op_is_bl (pe_cal CI hr (by rfl) (pa_cons (pv 0) (pa_cons (pv 4) pa_nil))) pe_bl (nomark _)) (pe_one (pe_cmpR op_eq (pv 3) (pe_cmpR (op_neD hu4) (pv 4) (pv 1) (nomark _)) (nomark _))))))), ?_⟩
    have hG := hw.g
    have h2 := hw.n2
    have h8 := hw.n8
    refine q_asgW ⟨stv, rfl, .ref wv, rfl, sv, rfl, wv, rows, sv, ts, ks, rfl, hw, hsv, hS, fun H1 S us e1 nS hS1 hus => ⟨stepD st, dueL rows ts ks, Dq.dp (SeqAt.canLay_of_shaped (shaped_stp st)) (hst.mono e1), .lst (sq_of hS1) (DqA.dp (lay_due rows ts ks) (hus.mono (off_in _ _))), shaped_stp st, shaped_due rows ts ks, ?_⟩⟩
    rw [any_due h2 hok]
    change tSeq _ _ _ [some (.ref wv), some sv, some stv, some (.bl _), none] H1
    refine q_asgW ⟨.ref wv, rfl, sv, rfl, stv, rfl, wv, rows, sv, stv, ts, ks, st, rfl, hw.up e1, hsv.up e1, hS, hst.mono e1, hok, fun H2 u e2 hu2 => ?_⟩
    change tRet _ _ [some (.ref wv), some sv, some stv, some (.bl (!decide (mvW rows ts ks st = (ts, ks)))), some u] H2
    have e12 := e1.trans e2
    have hS2 := mv_ok hG h8 hS hok
    refine s_ret (ev_is (ev_andV (a := true) (b := true) (ev_op (x := .bl true) (y := .bl true) (ev_call (sp := spIS1 K CW) (ea_cons (ev_var (i := 0) rfl) (ea_cons (ev_var (i := 4) rfl) ea_nil)) (spP_v fun H3 e3 => ⟨wv, rows, u, _, _, rfl, hw.up (e12.trans e3), (hu2.up e3).dp, hS2, rfl⟩)) ev_c fun H3 e3 Q3 q3 => ⟨true, true, rfl, rfl, q3 H3 (Ex.refl _)⟩) fun _ => ?_) rfl) fun H3 e3 => k H3 (e12.trans e3)
    refine ev_is (ev_op (y := .bl (!decide (mvW rows ts ks st = (ts, ks)))) (ev_var (i := 3) rfl) (ev_op (ev_var (i := 4) rfl) (ev_var (i := 1) rfl) fun H3 e3 Q3 q3 => ⟨standD (mvW rows ts ks st).1 (mvW rows ts ks st).2, standD ts ks, (hu2.up e3).dp, (hsv.up (e12.trans e3)).dp, shaped_stand _ _, shaped_stand _ _, ?_⟩) (rv_eq rfl)) (by simp)
    rw [eqv_stand]
    exact q3 H3 (Ex.refl _)
/-! _law_at_rest -/
def spAR (K : PySem.W.Frag) (CT CK CW : Addr) : Sp := fun vs H Q _ => ∃ (x pa wv kw M : Addr) (ms : List V) (rows : List (List Wy)) (st : St2) (past : List St2), vs = [.ref wv, .ref x, .ref M] ∧ TaO K CT CK CW H x pa wv kw rows st past ∧ Hd H x pa M = some (.lst ms) ∧ DqA (Hd H x pa) ms ((stepsW rows).map stepD) ∧ dueW rows st.1 st.2 = [] ∧ past.length ≤ 10000 ∧ tks rows ≤ 20000 ∧
  ∀ H' pb, Tn x pa pb H H' → TaO K CT CK CW H' x pb wv kw rows st past → Q (.bl true) H'
abbrev sAR : Stmt := top 80
abbrev nAR : List Str := ["_law_wishes", "_law_talk", "_law_moves", "_law_stand"]
theorem scAR : FnScope nAR ["_law_wishes", "_law_talk", "_law_moves"] (defScope sAR) := ⟨rfl, rfl, rfl, by decide +kernel, rfl, by decide +kernel, by decide +kernel⟩
theorem ok_ar (B : Bl mg) (T : TTx K CT) (CO : Cal P w K mg base "is_outcome" ["wishes", "thing"] 9 (spOut1 K CW)) (CC : CalX P w K mg base "outcomes" ["wishes"] 9 (spOcs K CW CM)) (MR : Msk P w K mg base CT "run" ["self", "steps"] 4 (spRun K CT CK CW)) (MT : Msk P w K mg base CT "to_rest" ["self", "limit"] 4 (spTR K CT CK CW)) (MB : Msk P w K mg base CT "back" ["self", "many"] 3 (spBk K CT CK CW)) (CS : Cal P w K mg base "_law_same" ["_law_actual", "_law_expected"] 4 (spSame K 3))
    (F : FnP K "_law_at_rest" sAR f fd) : FnOk P w K mg base CX0 10 f fd ["_law_wishes", "_law_talk", "_law_moves"] (spAR K CT CK CW) := by
  obtain ⟨fC, fdC, FC, gC, kC, bC⟩ := CC.ex
  obtain ⟨f1, fd1, me1, F1, b1⟩ := MR.ex
  obtain ⟨f2, fd2, me2, F2, b2⟩ := MT.ex
  obtain ⟨f3, fd3, me3, F3, b3⟩ := MB.ex
  refine F.ok scAR (fun vs H Q E h => ?_) (fun cdv A outer s H vs Q E hr h => ?_)
  · obtain ⟨x, pa, wv, kw, M, ms, rows, st, past, rfl, _⟩ := h
    rfl
  · obtain ⟨x, pa, wv, kw, M, ms, rows, st, past, rfl, hT, hM, hms, hrest, hpl, htk, k⟩ := h
    have r9 : Room 9 _ := hr
    have r4 : Room 4 _ := hr.mono (by decide)
    have r3 : Room 3 _ := hr.mono (by decide)
    have hu : (A.deeper (envOfC "_law_at_rest" (defScope sAR) s.heap.objs.size f cdv)).units + 65 < cLine := by have := hr.un; omega
    refine ⟨_, pss_cons (ps_set (i := 3) scAR.nd rfl (Or.inl rfl) (pe_fld (pv 1) rfl))
      (pss_cons (ps_if (PW.pt (pw_or (pt_cmpR op_isnot_bl (pe_cal CO r9 (by rfl) (pa_cons (pv 0) (pa_cons (pe_ix ix_tup (pv 3) pe_int (fun _ _ => rfl)) pa_nil))) pe_bl (nomark _)) (pw_or1 (pt_cmpR (op_notInD hu) (pe_ix ix_tup (pv 3) pe_int (fun _ _ => rfl)) (pe_callS FC r9 (by rfl) gC kC bC (fun σ => passAt takes0 σ) (pa_cons (pv 0) pa_nil)) rfl)))) (pss_one (ps_ret pe_bl)) pss_nil)
      (pss_cons (ps_if (PW.pt (pw_or (pt_cmpR op_ne (pe_meth (pv 1) T.cl me1 F1 r4 b1 .nil pass0 (pa_cons (pe_revL (pv 2)) pa_nil)) pe_int (nomark _)) (pw_or1 (pt_cmpR op_isnot_bl (pe_meth (pv 1) T.cl me2 F2 r4 b2 .nil pass0 (pa_cons pe_int pa_nil)) pe_bl (nomark _))))) (pss_one (ps_ret pe_bl)) pss_nil)
      (pss_cons (ps_expr (pe_meth (pv 1) T.cl me3 F3 r3 b3 .nil pass0 (pa_cons (pe_callB call_len_seq (by rfl) B.len PySem.boot_len (pa_cons (pv 2) pa_nil)) pa_nil)))
      (pss_one (ps_ret (pe_cal CS r4 (by rfl) (pa_cons (pe_fld (pv 1) rfl) (pa_cons (pv 3) pa_nil)))))))), ?_⟩
    have hw := hT.wo
    have hG := hw.g
    have h2 := hw.n2
    have h8 := hw.n8
    have hok := hT.ok
    have hsh := hok.sh hG h2
    have hml := hms.length
    rw [List.length_map] at hml
    have hsl := stepsW_len rows h8
    obtain ⟨dx, fs, sv, us, hx, tf, hp, hk, hsv, hps⟩ := hT.ex
    refine q_asgW ⟨.ref x, rfl, x, CT, dx, fs, _, rfl, hx, T.cl, T.n2, tf.st, ?_⟩
    change tSeq _ _ _ [some (.ref wv), some (.ref x), some (.ref M), some sv] H
    obtain ⟨sa, ta, ka, txs, kxs, rfl, s1, a1, c1, a2, c2⟩ := hsv.up hd_sub
    have hout : okP rows st.1 = true := rst_ok hG h2 h8 hok.t ((due_rest h2 hok.t.len hok.kl).mp hrest)
    have t0 : ∀ {H1 : Hp}, Ex H H1 → Ev (tOp (rIxT K) (tVar 3) (tC (.int 0))) [some (.ref wv), some (.ref x), some (.ref M), some (.ref sa)] H1 (.ref ta) := fun e => ev_at (K := K) (j := 0) (ev_var rfl) (st_of (e _ _ s1)) (ev_is ev_c rfl) rfl
    have hta : ∀ {H1 : Hp}, Ex H H1 → Dp K H1 (.ref ta) (tkd st.1) := fun e => .tup (st_of (e _ _ a1)) (DpAll.up e a2)
    refine q_when (b := false || false) (et_or (et_test (ev_is (ev_op (x := .bl true) (y := .bl true) (ev_is (ev_call (sp := spOut1 K CW) (ea_cons (ev_var (i := 0) rfl) (ea_cons (t0 (Ex.refl _)) ea_nil)) (spP_v fun H1 e1 => ⟨.ref wv, .ref ta, st.1, rows, rfl, hw.up (hd_sub.trans e1), hta e1, hok.t, rfl⟩)) (by rw [hout])) ev_c fun H1 e1 Q1 q1 => ⟨true, true, rfl, rfl, q1 H1 (Ex.refl _)⟩) rfl)) fun _ => et_test fun H1 e1 Q1 q1 => ?_) (fun hb => by cases hb) fun _ H1 e1 => ?_
    · refine (t0 e1) H1 (Ex.refl _) _ fun H2 e2 => ⟨.ref wv, rfl, .ref wv, rows, rfl, hw.up ((hd_sub.trans e1).trans e2), fun _ H3 l us' L e3 nl hl hrw hst => ?_, fun hgt => by omega⟩
      have e13 := (e1.trans e2).trans e3
      refine ⟨tkd st.1, L.map tkd, hta e13, .lst (sq_of hl) (rw_dpa hrw fun pre hp => by have := ((hst.mem pre).mp hp).1; omega), shaped_tk _, shaped_tks _, ?_⟩
      rw [any_tk, decide_eq_true ((hst.mem st.1).mpr ⟨by have := hok.t.len; omega, hok.t.pre, hout⟩)]
      exact q1 H3 (e2.trans e3)
    have hT1 := hT.up e1
    have hM1 := hd_mono (x := x) (pa := pa) e1 _ _ hM
    have hms1 := hms.mono (hd_mono (x := x) (pa := pa) e1)
    obtain ⟨dx1, fs1, sv1, us1, hx1, tf1, _⟩ := hT1.ex
    have hsr : ∀ s ∈ (stepsW rows).reverse, StpOk rows s := fun s hs => (stepsW_ok h2).mp (List.mem_reverse.mp hs)
    obtain ⟨i1, i2, i3⟩ := rest_run h2 hrest hsr
    refine ⟨.ref x, rfl, x, dx1, fs1, rfl, hx1, tf1.m3, .ref M, rfl, M, ms, rfl, sq_of (hd_sub _ _ hM1), fun r nr => ?_⟩
    have e2 := Ex.new (o := .lst ms.reverse) nr
    have hr2 : (upd H1 r (.lst ms.reverse)) r = some (.lst ms.reverse) := upd_same
    have hT2 := hT1.up e2
    have nrx : r ≠ x := fun z => by rw [z, hx1] at nr; cases nr
    obtain ⟨_, _, _, us1', _, _, hp1, _⟩ := hT1.ex
    have nrp : r ≠ pa := fun z => by rw [z, hp1] at nr; cases nr
    generalize upd H1 r (.lst ms.reverse) = H2 at *
    refine ⟨x, pa, wv, kw, r, ms.reverse, rows, st, past, (stepsW rows).reverse, rfl, hT2, by rw [List.length_reverse]; omega, by rw [hd_at nrx nrp]; exact hr2, by rw [List.map_reverse]; exact (hms1.mono (hd_mono e2)).rev, hsr, fun H3 t3 hT3 => ?_⟩
    rw [i1, i3] at hT3
    rw [i2]
    refine ⟨rfl, _, rfl, ?_⟩
    dsimp only
    rw [if_neg (by decide)]
    obtain ⟨dx3, fs3, sv3, us3, hx3, tf3, hp3, _⟩ := hT3.ex
    refine ⟨.ref x, rfl, x, dx3, fs3, rfl, hx3, tf3.m7, x, pa, wv, kw, rows, st, _, rfl, hT3, fun H4 e4 => ⟨true, true, ?_, rfl, _, rfl, ?_⟩⟩
    · rw [decide_eq_true hrest]
    dsimp only
    rw [if_neg (by decide)]
    have hT4 := hT3.up e4
    have t04 : Tn x pa pa H H4 := ((Tn.ex (e1.trans e2)).trans t3).trans (Tn.ex e4)
    obtain ⟨dx4, fs4, sv4, us4, hx4, tf4, hp4, _⟩ := hT4.ex
    have hn0 := stepsW_ne h2
    have hn1 : 1 ≤ (stepsW rows).length := by
      cases hz : stepsW rows with
      | nil => exact absurd hz hn0
      | cons a b => simp
    have hlen : (past ++ List.replicate (stepsW rows).reverse.length st).length - (stepsW rows).length = past.length := by simp
    refine ⟨.ref x, rfl, x, dx4, fs4, rfl, hx4, tf4.m4, .ref M, rfl, M, ms, rfl, .inl (sq_of (hd_sub _ _ (t04.hd _ _ hM))), x, pa, wv, kw, rows, st, st, _, (stepsW rows).length, ?_, hT4, hn1, ?_, ?_, fun H5 pb t5 hT5 => ?_⟩
    · rw [hml]
      rfl
    · rw [List.length_append, List.length_replicate, List.length_reverse]
      omega
    · rw [hlen, List.getElem?_append_right (Nat.le_refl _), Nat.sub_self, List.getElem?_replicate, if_pos (by rw [List.length_reverse]; omega)]
    rw [hlen, List.take_left' rfl] at hT5
    have t05 := t04.trans t5
    obtain ⟨dx5, fs5, sv5, us5, hx5, tf5, hp5, hk5, hsv5, _⟩ := hT5.ex
    refine ⟨.ref x, rfl, x, CT, dx5, fs5, _, rfl, hx5, T.cl, T.n2, tf5.st, .ref sa, rfl, .bl true, ⟨sv5, .ref sa, standD st.1 st.2, rfl, (hsv5.up hd_sub).dp, (hsv.up (t05.hd.trans hd_sub)).dp, smx_stand h8 hsh, rfl⟩, fun H6 e6 => k H6 pb (t05.trans (Tn.ex e6)) (hT5.up e6)⟩
end
end Wk

set_option Elab.async false
set_option linter.all false
set_option maxRecDepth 100000
set_option maxHeartbeats 4000000
namespace Wk
open PySem PySem.Spec PyProof.Rows L2 Evl
theorem shaped_stps (ss : List Stp) : SeqAt.shaped (.list (ss.map stepD)) = true := by
  unfold SeqAt.shaped
  have h1 := layA_stp ss
  have h2 : PyData.depthAll (ss.map stepD) ≤ 1 := depAll.mpr fun d hd => by
    obtain ⟨s, _, rfl⟩ := List.mem_map.mp hd
    rw [stepD_eq]
    have := dep_str1 (wordS s) (restS s)
    simp [PyData.depth, this]
  have : decide ((PyData.list (ss.map stepD)).depth ≤ 64) = true := decide_eq_true (by simp only [PyData.depth]; omega)
  rw [this]
  simp [PyData.canLay0, h1]
/-- an if with and, with or, whose second part may change what stands -/
theorem q_andS {tA tN : TT} {tu tz : TS} {D : Ends} {σ : L2.St} {H : Hp} (J : Hp → Prop) {b : Bool} (hA : EvT tA σ H b) (hN : b = true → ∀ H1, Ex H H1 → ∀ R : Bool → Hp → Prop, (∀ H2, J H2 → R false H2) → tN σ H1 R) (hF : b = false → ∀ H1, Ex H H1 → J H1) (k : ∀ H2, J H2 → tz D σ H2) : tSeq (tIfS (tAnd tA tN) tu tNext) tz D σ H :=
  hA H (Ex.refl _) _ fun H1 e1 => by
    cases b with
    | true =>
      rw [if_pos rfl]
      refine hN rfl H1 e1 _ fun H2 j => ?_
      rw [if_neg (by decide)]
      exact k H2 j
    | false =>
      rw [if_neg (by decide)]
      dsimp only
      rw [if_neg (by decide)]
      exact k H1 (hF rfl H1 e1)
theorem q_orS {tA tN : TT} {tu tz : TS} {D : Ends} {σ : L2.St} {H : Hp} (J : Hp → Prop) (hA : EvT tA σ H false) (hN : ∀ H1, Ex H H1 → ∀ R : Bool → Hp → Prop, (∀ H2, J H2 → R false H2) → tN σ H1 R) (k : ∀ H2, J H2 → tz D σ H2) : tSeq (tIfS (tOr tA tN) tu tNext) tz D σ H :=
  hA H (Ex.refl _) _ fun H1 e1 => by
    rw [if_neg (by decide)]
    refine hN H1 e1 _ fun H2 j => ?_
    rw [if_neg (by decide)]
    exact k H2 j
section
variable {P : Program} {w : World} {K : PySem.W.Frag} {mg : Str → Option Value} {base : Heap} {f : Addr} {fd : FuncData} {CW CB CK CT CM : Addr}
structure MkT (P : Program) (w : World) (K : PySem.W.Frag) (mg : Str → Option Value) (base : Heap) (CT CK CW : Addr) : Prop where
  tx : TTx K CT
  g : mg "Talk" = some (.ref CT)
  ex : ∃ (fI : Addr) (fd : FuncData), Mk K CT fI ∧ FnOk P w K mg base CX0 10 fI fd nTI (spTI K CT CK CW) ∧ Binds K fd nTI []
theorem t_mkT {σ : L2.St} {H : Hp} {ta : TE} {wv : Addr} {rows : List (List Wy)} {Q : VK} {W : L2.St → XK} (ha : Ev ta σ H (.ref wv)) (hw : WO CW H (.ref wv) rows) (k : ∀ H' x pa kw, Ex H H' → H x = none → H pa = none → TaO K CT CK CW H' x pa wv kw rows (begT rows, begK rows) [] → Q (.ref x) H') : tMkAt CT (spTI K CT CK CW) W (tCons ta tNil) σ H Q := ha H (Ex.refl H) _ fun H1 e1 => fun x dx nx ndx nex => by
  have eU : Ex H1 (upd (upd H1 dx (.own x)) x (.ins CT dx [])) := fun b o hb => by
    rw [upd_ne (ne_of_none hb nx), upd_ne (ne_of_none hb ndx)]
    exact hb
  have nwx : wv ≠ x := fun z => by
    obtain ⟨w', _, _, h1, h2, _⟩ := (hw.up e1).ex
    injection h1 with h1
    rw [← h1, z, nx] at h2
    cases h2
  refine ⟨x, dx, wv, rows, rfl, upd_same, nwx, hw.up (e1.trans eU), fun H' pa kw o sv np hT => ⟨rfl, k H' x pa kw (fun b u hb => ?_) (fresh_back e1 nx) (fresh_back (e1.trans eU) np) hT⟩⟩
  have hb1 := e1 _ _ hb
  exact o b u (ne_of_none hb1 nx) (eU _ _ hb1)
def spLaw (K : PySem.W.Frag) : Sp := fun vs H Q _ => ∃ (a : Addr) (ns : List Int), vs = [.ref a] ∧ SqL K H a (ns.map V.int) ∧ ns.length ≤ 63 ∧ ∀ H', Q (.bl true) H'
abbrev sLaw : Stmt := top 81
abbrev nLaw : List Str := ["_law_script", "_law_pool_here", "_law_lists_here", "_law_wishes", "_law_lines_here", "_law_order_here", "_law_talk", "_law_stand", "_law_changes", "_law_k", "_law_behind", "_law_resting"]
theorem scLaw : FnScope nLaw ["_law_script"] (defScope sLaw) := ⟨rfl, rfl, rfl, by decide +kernel, rfl, by decide +kernel, by decide +kernel⟩
structure Ms (P : Program) (w : World) (K : PySem.W.Frag) (mg : Str → Option Value) (base : Heap) (CW CB CK CT CM : Addr) : Prop where
  pool : Cal P w K mg base "_law_pool" ["_law_script"] 1 (spPool K)
  lists : Cal P w K mg base "_law_lists" ["_law_pool_here", "_law_most", "_law_limit", "_law_cap"] 5 spLists
  same : Cal P w K mg base "_law_same" ["_law_actual", "_law_expected"] 4 (spSame K 3)
  sameB : Cal P w K mg base "_law_same" ["_law_actual", "_law_expected"] 5 spSameB
  lines : Cal P w K mg base "_law_lines" ["_law_lists_here"] 1 spLLines
  steps : Cal P w K mg base "_law_steps" ["_law_lists_here"] 2 spLSteps
  beg : Cal P w K mg base "_law_begin" ["_law_lists_here"] 2 spLBegin
  moved : Cal P w K mg base "_law_moved" ["_law_lists_here", "_law_lines_here", "_law_stand", "_law_step"] 1 spMoved
  dord : Cal P w K mg base "_law_drawn_order" ["_law_pool_here", "_law_lists_here"] 3 spDO
  looked : Cal P w K mg base "_law_looked" ["_law_wishes", "_law_stand", "_law_step"] 11 (spLk K CW)
  ar : Cal P w K mg base "_law_at_rest" ["_law_wishes", "_law_talk", "_law_moves"] 10 (spAR K CT CK CW)
  done : Cal P w K mg base "done" ["wishes", "stand", "step"] 10 (spDone K CW)
  due : Cal P w K mg base "due" ["wishes", "stand"] 10 (spDue K CW)
  begin_ : Cal P w K mg base "begin" ["wishes"] 10 (spBeginD K CW)
  mkW : Mkr P w K mg base CW CB
  mkT : MkT P w K mg base CT CK CW
  mDo : Msk P w K mg base CT "do" ["self", "step"] 4 (spGo K CT CK CW)
  mRun : Msk P w K mg base CT "run" ["self", "steps"] 4 (spRun K CT CK CW)
  mTR : Msk P w K mg base CT "to_rest" ["self", "limit"] 4 (spTR K CT CK CW)
  mBk : Msk P w K mg base CT "back" ["self", "many"] 3 (spBk K CT CK CW)
  mAh : Msk P w K mg base CT "ahead" ["self", "steps"] 5 (spAh K CT CK CW)
theorem ok_law (B : Bl mg) (S : Ms P w K mg base CW CB CK CT CM) (F : FnP K "law" sLaw f fd) : FnOk P w K mg base CX0 12 f fd ["_law_script"] (spLaw K) := by
  obtain ⟨fI, fdI, mk, FI, bI⟩ := S.mkW.ex
  obtain ⟨fT, fdT, mkT, FT, bT⟩ := S.mkT.ex
  obtain ⟨f1, fd1, me1, F1, b1⟩ := S.mDo.ex
  obtain ⟨f2, fd2, me2, F2, b2⟩ := S.mTR.ex
  obtain ⟨f3, fd3, me3, F3, b3⟩ := S.mBk.ex
  obtain ⟨f4, fd4, me4, F4, b4⟩ := S.mAh.ex
  obtain ⟨f5, fd5, me5, F5, b5⟩ := S.mRun.ex
  have T := S.mkT.tx
  refine F.ok scLaw (fun vs H Q E h => ?_) (fun cdv A outer s H vs Q E hr h => ?_)
  · obtain ⟨a, ns, rfl, _⟩ := h
    rfl
  · obtain ⟨a0, ns, rfl, hS, hns, k⟩ := h
    have r1 : Room 1 _ := hr.mono (by decide)
    have r2 : Room 2 _ := hr.mono (by decide)
    have r3 : Room 3 _ := hr.mono (by decide)
    have r4 : Room 4 _ := hr.mono (by decide)
    have r5 : Room 5 _ := hr.mono (by decide)
    have r9 : Room 9 _ := hr.mono (by decide)
    have r10 : Room 10 _ := hr.mono (by decide)
    have hu4 : (A.deeper (envOfC "law" (defScope sLaw) s.heap.objs.size f cdv)).units + 64 < cLine := by have := hr.un; omega
    refine ⟨_, pss_cons (ps_set (i := 1) scLaw.nd rfl (Or.inl rfl) (pe_cal S.pool r1 (by rfl) (pa_cons (pv 0) pa_nil)))
      (pss_cons (ps_set (i := 2) scLaw.nd rfl (Or.inl rfl) (pe_cal S.lists r5 (by rfl) (pa_cons (pv 1) (pa_cons pe_int (pa_cons pe_int (pa_cons pe_int pa_nil))))))
      (pss_cons (ps_set (i := 3) scLaw.nd rfl (Or.inl rfl) (pe_mkAt mk FI r9 (by rfl) S.mkW.tx.g bI (fun σ => passAt takes0 σ) (pa_cons (pv 2) pa_nil)))
      (pss_cons (ps_set (i := 4) scLaw.nd rfl (Or.inl rfl) (pe_cal S.lines r1 (by rfl) (pa_cons (pv 2) pa_nil)))
      (pss_cons (ps_set (i := 5) scLaw.nd rfl (Or.inl rfl) (pe_cal S.dord r3 (by rfl) (pa_cons (pv 1) (pa_cons (pv 2) pa_nil))))
      (pss_cons (ps_set (i := 6) scLaw.nd rfl (Or.inl rfl) (pe_mkAt mkT FT hr (by rfl) S.mkT.g bT (W := fun _ => E0) (fun σ => passAt0) (pa_cons (pv 3) pa_nil)))
      (pss_cons (ps_set (i := 7) scLaw.nd rfl (Or.inl rfl) (pe_cal S.beg r2 (by rfl) (pa_cons (pv 2) pa_nil)))
      (pss_cons (ps_set (i := 8) scLaw.nd rfl (Or.inl rfl) pe_int)
      (pss_cons (ps_for (passes_of rfl) rfl (pi_range1 (by rfl) B.range (pa_cons (pe_callB call_len_seq (by rfl) B.len PySem.boot_len (pa_cons (pv 5) pa_nil)) pa_nil)) (pg_name (i := 9) scLaw.nd rfl (Or.inl rfl))
        (pss_cons (ps_if (PW.pt (pw_and (pt_cmpR op_lt (pv 9) pe_int (nomark _)) (pw_and1 (pt_not (pt_val (pe_cal S.looked hr (by rfl) (pa_cons (pv 3) (pa_cons (pv 7) (pa_cons (pe_ix ix_list (pv 5) (pv 9) (fun _ _ => rfl)) pa_nil))))))))) (pss_one (ps_ret pe_bl)) pss_nil)
        (pss_cons (ps_set (i := 10) scLaw.nd rfl (Or.inl rfl) (pe_cal S.moved r1 (by rfl) (pa_cons (pv 2) (pa_cons (pv 4) (pa_cons (pv 7) (pa_cons (pe_ix ix_list (pv 5) (pv 9) (fun _ _ => rfl)) pa_nil))))))
        (pss_cons (ps_if (pt_not (pt_val (pe_cal S.same r4 (by rfl) (pa_cons (pe_cal S.done r10 (by rfl) (pa_cons (pv 3) (pa_cons (pv 7) (pa_cons (pe_ix ix_list (pv 5) (pv 9) (fun _ _ => rfl)) pa_nil)))) (pa_cons (pv 10) pa_nil))))) (pss_one (ps_ret pe_bl)) pss_nil)
        (pss_cons (ps_if (PW.pt (pw_or (pt_not (pt_val (pe_cal S.sameB r5 (by rfl) (pa_cons (pe_meth (pv 6) T.cl me1 F1 r4 b1 .nil pass0 (pa_cons (pe_ix ix_list (pv 5) (pv 9) (fun _ _ => rfl)) pa_nil)) (pa_cons (pe_cmpR (op_neD hu4) (pv 10) (pv 7) (nomark _)) pa_nil)))))
            (pw_or1 (pt_not (pt_val (pe_cal S.same r4 (by rfl) (pa_cons (pe_fld (pv 6) rfl) (pa_cons (pv 10) pa_nil)))))))) (pss_one (ps_ret pe_bl)) pss_nil)
        (pss_cons (ps_set (i := 8) scLaw.nd rfl (Or.inl rfl) (pe_op op_add (pv 8) (pe_callTy call_int1 (by rfl) B.int PyProof.Rows.boot_int (pa_cons (pe_cmpR (op_neD hu4) (pv 10) (pv 7) (nomark _)) pa_nil))))
        (pss_one (ps_set (i := 7) scLaw.nd rfl (Or.inl rfl) (pv 10)))))))))
      (pss_cons (ps_set (i := 11) scLaw.nd rfl (Or.inl rfl) (pe_cmpR (op_eqD hu4) (pe_cal S.due r10 (by rfl) (pa_cons (pv 3) (pa_cons (pv 7) pa_nil))) (pe_lst pa_nil) (nomark _)))
      (pss_cons (ps_if (PW.pt (pw_and (pt_val (pv 11)) (pw_and1 (pt_not (pt_val (pe_cal S.ar r10 (by rfl) (pa_cons (pv 3) (pa_cons (pv 6) (pa_cons (pe_cal S.steps r2 (by rfl) (pa_cons (pv 2) pa_nil)) pa_nil))))))))) (pss_one (ps_ret pe_bl)) pss_nil)
      (pss_cons (ps_if (PW.pt (pw_or (pt_cmpR op_ne (pv 11) (pe_cmpR op_is_bl (pe_meth (pv 6) T.cl me2 F2 r4 b2 .nil pass0 (pa_cons pe_int pa_nil)) pe_bl (nomark _)) (nomark _))
          (pw_or1 (pt_not (pt_val (pe_cal S.same r4 (by rfl) (pa_cons (pe_fld (pv 6) rfl) (pa_cons (pe_callB call_len_seq (by rfl) B.len PySem.boot_len (pa_cons (pv 5) pa_nil)) pa_nil)))))))) (pss_one (ps_ret pe_bl)) pss_nil)
      (pss_cons (ps_if (PW.pt (pw_and (pt_cmpR (op_neD hu4) (pv 5) (pe_lst pa_nil) (nomark _)) (pw_and1 (pt_cmpR op_notN1 (pe_meth (pv 6) T.cl me3 F3 r3 b3 .nil pass0 (pa_cons (pe_callB call_len_seq (by rfl) B.len PySem.boot_len (pa_cons (pv 5) pa_nil)) pa_nil)) pe_non (nomark _))))) (pss_one (ps_ret pe_bl)) pss_nil)
      (pss_cons (ps_if (PW.pt (pw_or (pt_not (pt_val (pe_cal S.same r4 (by rfl) (pa_cons (pe_fld (pv 6) rfl) (pa_cons (pe_cal S.begin_ r10 (by rfl) (pa_cons (pv 3) pa_nil)) pa_nil)))))
          (pw_or1 (pt_not (pt_val (pe_cal S.same r4 (by rfl) (pa_cons (pe_meth (pv 6) T.cl me4 F4 r5 b4 .nil pass0 (pa_cons (pv 5) pa_nil)) (pa_cons (pv 7) pa_nil)))))))) (pss_one (ps_ret pe_bl)) pss_nil)
      (pss_one (ps_ret (pe_and (pe_cal S.same r4 (by rfl) (pa_cons (pe_fld (pv 6) rfl) (pa_cons pe_int pa_nil))) (pe_and (pe_cal S.same r4 (by rfl) (pa_cons (pe_meth (pv 6) T.cl me5 F5 r4 b5 .nil pass0 (pa_cons (pv 5) pa_nil)) (pa_cons (pv 8) pa_nil)))
        (pe_one (pe_cal S.same r4 (by rfl) (pa_cons (pe_fld (pv 6) rfl) (pa_cons (pv 7) pa_nil))))))))))))))))))))), ?_⟩
    refine ⟨.ref a0, rfl, a0, ns, rfl, hS, hns, fun H1 p q hP1 => ?_⟩
    refine g_name ?_
    have hP1' := hP1.em
    refine ⟨.ref p, rfl, Em, p, q, 7, 4, 200, rfl, hP1', by decide, by decide, by decide, by decide, fun n hn => by unfold tkM; split <;> decide, fun G3 H3 lv rows eG3 hP3 hlv0 hn2 hn7 hG h4 htk => ?_⟩
    have hn8 : rows.length ≤ 8 := by omega
    have h6 : ∀ row ∈ rows, row.length ≤ 6 := fun row hr => by have := h4 row hr; omega
    have htk' : tks rows ≤ 20000 := by omega
    refine g_name ?_
    dsimp only
    change tSeq _ _ _ [some (.ref a0), some (.ref p), some lv, none, none, none, none, none, none, none, none, none] H3
    have hlv := hlv0.mono hP3.ex
    refine q_asgW (t_makeH (CB := CB) (fun R hR => ⟨lv, rfl, hR lv H3 (Ex.refl _) hlv⟩) hG hn2 hn8 h6 fun H4 wv e4 hW4 => ?_)
    have hl4 := hlv.mono e4
    have hP4 := hP3.em.ext e4
    change tSeq _ _ _ [some (.ref a0), some (.ref p), some lv, some (.ref wv), none, none, none, none, none, none, none, none] H4
    refine q_asgW ⟨lv, rfl, lv, rows, rfl, hl4, hG, hn8, h6, fun H5 L lls e5 nL hL5 hlls5 => ?_⟩
    have hl5 := hl4.mono e5
    have hW5 := hW4.up e5
    have hP5 := hP4.ext e5
    change tSeq _ _ _ [some (.ref a0), some (.ref p), some lv, some (.ref wv), some (.ref L), none, none, none, none, none, none, none] H5
    have pL : L ≠ p := fun z => by
      obtain ⟨_, _, q1, _⟩ := hP4.at_
      rw [z, q1] at nL; cases nL
    have qL : L ≠ q := fun z => by
      obtain ⟨_, _, _, q2, _⟩ := hP4.at_
      rw [z, q2] at nL; cases nL
    refine q_asgW ⟨.ref p, rfl, lv, rfl, p, q, lv, rows, rfl, hP5, hl5, hG, hn2, hn8, h6, fun H6 R us ss dv6 nR hR6 hus6 hsl hss => ?_⟩
    have kp6 := dv6.kp hP5
    have hl6 := kp6.pdK hl5
    have hW6 := hW5.kp kp6
    have hL6 := dv6.off _ _ pL qL hL5
    have hlls6 := dqa_kp kp6 (noLA_wds _) hlls5
    have hul : us.length = ss.length := by have := hus6.length; rw [List.length_map] at this; exact this
    change tSeq _ _ _ [some (.ref a0), some (.ref p), some lv, some (.ref wv), some (.ref L), some (.ref R), none, none, none, none, none, none] H6
    refine q_asgW (t_mkT (ev_var (i := 3) rfl) hW6 fun H7 x pa kw e7 nx npa hT7 => ?_)
    change tSeq _ _ _ [some (.ref a0), some (.ref p), some lv, some (.ref wv), some (.ref L), some (.ref R), some (.ref x), none, none, none, none, none] H7
    have e67 : Ex H6 (Hd H7 x pa) := fun b u hb => by
      rw [hd_at (fun z => by rw [z, nx] at hb; cases hb) (fun z => by rw [z, npa] at hb; cases hb)]
      exact e7 _ _ hb
    have hl7 := hl6.mono e67
    have hL7 := e67 _ _ hL6
    have hlls7 := hlls6.mono e67
    have hR7 := e67 _ _ hR6
    have hus7 := hus6.mono e67
    clear hl4 hl5 hl6 hlv hlv0 hW4 hW5 hP1 hP1' hP3 hP4 hP5 hL5 hL6 hlls5 hlls6 hR6 hus6
    refine q_asgW ⟨lv, rfl, lv, rows, rfl, hl7.mono hd_sub, hG, hn2, hn8, h6, fun H8 sv e8 hsv8 => ?_⟩
    have hT8 := hT7.up e8
    have e78 := hd_mono (x := x) (pa := pa) e8
    have hl8 := hl7.mono e78
    have hL8 := e78 _ _ hL7
    have hlls8 := hlls7.mono e78
    have hR8 := e78 _ _ hR7
    have hus8 := hus7.mono e78
    change tSeq _ _ _ [some (.ref a0), some (.ref p), some lv, some (.ref wv), some (.ref L), some (.ref R), some (.ref x), some sv, none, none, none, none] H8
    refine q_c ?_
    change tSeq _ _ _ [some (.ref a0), some (.ref p), some lv, some (.ref wv), some (.ref L), some (.ref R), some (.ref x), some sv, some (.int 0), none, none, none] H8
    have toHd : ∀ {H' : Hp} {pb : Addr} {st : St2} {past : List St2} {v : V} {ts ks : List Wy}, TaO K CT CK CW H' x pb wv kw rows st past → Dq H' v (standD ts ks) → Dq (Hd H' x pb) v (standD ts ks) := fun hT hv => by
      obtain ⟨dx, fs, sv', us', hx, _, hp, _⟩ := hT.ex
      exact dq_kt (Kt.hd hx hp) (noL_stand _ _) hv
    refine q_forR1 (ea_cons (ev_len (K := K) (ev_var (i := 5) rfl) (sq_of (hd_sub _ _ hR8))) ea_nil) (n := (us.length : Int)) (by omega) (fun i σ' H' => Tn x pa pa H8 H' ∧ TaO K CT CK CW H' x pa wv kw rows (runW rows (begT rows, begK rows) (ss.take i)) (wayW rows (begT rows, begK rows) (ss.take i)) ∧ ∃ (sv' : V) (o9 o10 : Option V), Dq (Hd H' x pa) sv' (standD (runW rows (begT rows, begK rows) (ss.take i)).1 (runW rows (begT rows, begK rows) (ss.take i)).2) ∧
      σ' = [some (.ref a0), some (.ref p), some lv, some (.ref wv), some (.ref L), some (.ref R), some (.ref x), some sv', some (.int (chgW rows (begT rows, begK rows) (ss.take i) : Int)), o9, o10, none]) (fun H9 e9 => ?_) ?_ ?_
    · rw [List.take_zero]
      exact ⟨Tn.ex e9, hT8.up e9, sv, _, _, (toHd hT8 hsv8).mono (hd_mono e9), rfl⟩
    · rintro i σ' H9 hi ⟨t9, hT9, sv9, o9, o10, hsv9, rfl⟩
      have hiu : i < us.length := by omega
      have his : i < ss.length := by omega
      have hsi := List.getElem?_eq_getElem his
      have hui := List.getElem?_eq_getElem hiu
      obtain ⟨st, hst1, hst2⟩ := stps_at hus8 hui
      have hstok := hss st (List.mem_of_getElem? hst1)
      generalize us[i] = stv at *
      have hl9 := hl8.mono t9.hd
      have hL9 := t9.hd _ _ hL8
      have hlls9 := hlls8.mono t9.hd
      have hR9 := t9.hd _ _ hR8
      have hst9 := hst2.mono t9.hd
      have e1' := runW_snoc rows (begT rows, begK rows) (ss.take i) st
      have e2' := wayW_snoc rows (ss.take i) (begT rows, begK rows) st
      have e3' := chgW_snoc rows (ss.take i) (begT rows, begK rows) st
      rw [← take_snoc hst1] at e1' e2' e3'
      rw [e1', e2', e3']
      have hlen : (wayW rows (begT rows, begK rows) (ss.take i)).length ≤ 20000 := by rw [wayW_len, List.length_take]; omega
      generalize runW rows (begT rows, begK rows) (ss.take i) = cur at *
      generalize wayW rows (begT rows, begK rows) (ss.take i) = past at *
      generalize chgW rows (begT rows, begK rows) (ss.take i) = chg at *
      have hok := hT9.ok
      have hw9 := hT9.wo
      change tSeq _ _ _ [some (.ref a0), some (.ref p), some lv, some (.ref wv), some (.ref L), some (.ref R), some (.ref x), some sv9, some (.int (chg : Int)), some (.int (i : Int)), o10, none] H9
      have eI : ∀ {H' : Hp} {o10 : Option V}, Ex H9 H' → Ev (tOp (rIxL K) (tVar 5) (tVar 9)) [some (.ref a0), some (.ref p), some lv, some (.ref wv), some (.ref L), some (.ref R), some (.ref x), some sv9, some (.int (chg : Int)), some (.int (i : Int)), o10, none] H' stv := fun e => ev_op (ev_var (i := 5) rfl) (ev_var (i := 9) rfl) (rv_ixL (sq_of (e _ _ (hd_sub _ _ hR9))) (atI_nat hui))
      refine q_when (b := decide ((i : Int) < 30) && !true) (et_and (et_test (ev_op (ev_var (i := 9) rfl) ev_c rv_I0)) fun _ => et_not (et_B (ev_call (sp := spLk K CW) (ea_cons (ev_var (i := 3) rfl) (ea_cons (ev_var (i := 7) rfl) (ea_cons (eI (Ex.refl _)) ea_nil))) (spP_v fun H' e => ⟨wv, rows, sv9, stv, cur.1, cur.2, st, rfl, hw9.up (hd_sub.trans e), (StD.of_dq (hsv9.mono (hd_sub.trans e))), hok, hst9.mono (hd_sub.trans e), hstok, rfl⟩)))) (fun hb => by simp at hb) fun _ H10 e10 => ?_
      have hT10 := hT9.up e10
      have d10 := hd_mono (x := x) (pa := pa) e10
      refine q_asgW ⟨lv, rfl, .ref L, rfl, sv9, rfl, (eI e10) H10 (Ex.refl _) _ fun H11 e11 => ⟨lv, sv9, stv, L, lls, rows, cur.1, cur.2, st, rfl, hl9.mono (hd_sub.trans (e10.trans e11)), hG, hn8, h6, (e10.trans e11) _ _ (hd_sub _ _ hL9), hlls9.mono (hd_sub.trans (e10.trans e11)), hsv9.mono (hd_sub.trans (e10.trans e11)), hok.sh hG hn2, hst9.mono (hd_sub.trans (e10.trans e11)), hstok, fun H12 bv e12 hbv12 => ?_⟩⟩
      change tSeq _ _ _ [some (.ref a0), some (.ref p), some lv, some (.ref wv), some (.ref L), some (.ref R), some (.ref x), some sv9, some (.int (chg : Int)), some (.int (i : Int)), some bv, none] H12
      have e912 := (e10.trans e11).trans e12
      have hT12 := hT9.up e912
      have d12 := hd_mono (x := x) (pa := pa) e912
      have hbv := toHd hT12 hbv12
      have hgo : goW rows cur st = mvW rows cur.1 cur.2 st := rfl
      rw [← hgo] at hbv hbv12
      have hok2 := go_ok hG hn8 hok hstok
      have smx := smx_stand hn8 (hok2.sh hG hn2)
      refine q_when (b := !true) (et_not (et_B fun H13 e13 Q3 q3 => ?_)) (fun hb => by cases hb) fun _ H14 e14 => ?_
      · refine ⟨.ref wv, rfl, sv9, rfl, (eI (e912.trans e13)) H13 (Ex.refl _) _ fun H15 e15 => ⟨wv, rows, sv9, stv, cur.1, cur.2, st, rfl, hw9.up (hd_sub.trans ((e912.trans e13).trans e15)), StD.of_dq (hsv9.mono (hd_sub.trans ((e912.trans e13).trans e15))), hok, hst9.mono (hd_sub.trans ((e912.trans e13).trans e15)), hstok, fun H16 u e16 hu => ⟨bv, rfl, .bl true, ⟨u, bv, standD (goW rows cur st).1 (goW rows cur st).2, rfl, hu.dp, (StD.of_dq (K := K) (hbv12.mono ((e13.trans e15).trans e16))).dp, smx, rfl⟩, fun H17 e17 => q3 H17 (((e15.trans e16).trans e17))⟩⟩⟩
      have e914 := e912.trans e14
      have hT14 := hT9.up e914
      have d14 := hd_mono (x := x) (pa := pa) e914
      obtain ⟨dx, fs, svx, usx, hx, tf, hpx, _⟩ := hT14.ex
      refine ⟨.ref x, rfl, x, dx, fs, rfl, hx, tf.m1, (eI e914) H14 (Ex.refl _) _ fun H15 e15 => ⟨x, pa, wv, kw, stv, rows, cur, past, st, rfl, hT14.up e15, hlen, hst9.mono (d14.trans (hd_mono e15)), hstok, fun H16 t16 hT16 => ?_⟩⟩
      have t916 : Tn x pa pa H9 H16 := (Tn.ex (e914.trans e15)).trans t16
      have t1216 : Tn x pa pa H12 H16 := (Tn.ex (e14.trans e15)).trans t16
      have hbv16 := hbv.mono t1216.hd
      have hsv16 := hsv9.mono t916.hd
      have hne : ∀ {H' : Hp} {c8 : Option V}, Ex H16 H' → Ev (tOp (rNeD K) (tVar 10) (tVar 7)) [some (.ref a0), some (.ref p), some lv, some (.ref wv), some (.ref L), some (.ref R), some (.ref x), some sv9, c8, some (.int (i : Int)), some bv, none] H' (.bl (!decide (goW rows cur st = cur))) := fun e => ev_op (ev_var (i := 10) rfl) (ev_var (i := 7) rfl) fun H' e' Q' q' => ⟨standD (goW rows cur st).1 (goW rows cur st).2, standD cur.1 cur.2, (StD.of_dq (K := K) (hbv16.mono ((hd_sub.trans e).trans e'))).dp, (StD.of_dq (K := K) (hsv16.mono ((hd_sub.trans e).trans e'))).dp, shaped_stand _ _, shaped_stand _ _, by
        rw [eqv_stand]
        exact q' H' (Ex.refl _)⟩
      refine hne (Ex.refl _) H16 (Ex.refl _) _ fun H17 e17 => ⟨.bl true, ⟨_, rfl, rfl⟩, fun H18 e18 => ⟨true, rfl, ?_⟩⟩
      dsimp only
      rw [if_neg (by decide)]
      have e1618 := e17.trans e18
      have hT18 := hT16.up e1618
      obtain ⟨dx8, fs8, sv8, us8', hx8, tf8, hp8, _, hsv8', _⟩ := hT18.ex
      refine ⟨.ref x, rfl, x, CT, dx8, fs8, _, rfl, hx8, T.cl, T.n2, tf8.st, bv, rfl, .bl true, ⟨sv8, bv, standD (goW rows cur st).1 (goW rows cur st).2, rfl, (hsv8'.up hd_sub).dp, (StD.of_dq (K := K) (hbv16.mono (hd_sub.trans e1618))).dp, smx, rfl⟩, fun H19 e19 => ⟨true, rfl, ?_⟩⟩
      dsimp only
      rw [if_neg (by decide)]
      have e1619 := e1618.trans e19
      unfold tNext
      dsimp only
      refine q_asgW ⟨.int (chg : Int), rfl, (hne e1619) H19 (Ex.refl _) _ fun H20 e20 => .inr ⟨_, rfl, (chg : Int), _, rfl, rfl, ?_⟩⟩
      change tAsg _ _ _ [some (.ref a0), some (.ref p), some lv, some (.ref wv), some (.ref L), some (.ref R), some (.ref x), some sv9, some (.int ((chg : Int) + _)), some (.int (i : Int)), some bv, none] H20
      have e1620 := e1619.trans e20
      refine ⟨bv, rfl, ((t9.trans t916).trans (Tn.ex e1620)), hT16.up e1620, bv, some (.int (i : Int)), some bv, hbv16.mono (hd_mono e1620), ?_⟩
      by_cases c : goW rows cur st = cur
      · rw [decide_eq_true c, if_pos c]
        rfl
      · rw [decide_eq_false c, if_neg c]
        rfl
    rintro σ' H9 ⟨t9, hT9, sv9, o9, o10, hsv9, rfl⟩
    have ntk : ((us.length : Int)).toNat = ss.length := by omega
    rw [ntk, take_all] at hT9 hsv9 ⊢
    have hw9 := hT9.wo
    have hok9 := hT9.ok
    have hlen9 : (wayW rows (begT rows, begK rows) ss).length = ss.length := wayW_len _ _ _
    have hsh9 := hok9.sh hG hn2
    have smx := smx_stand hn8 hsh9
    have hl9 := hl8.mono t9.hd
    have hR9 := t9.hd _ _ hR8
    have hus9 := hus8.mono t9.hd
    have hbeg := stOk_beg hn2
    generalize hend : runW rows (begT rows, begK rows) ss = fin at *
    change tSeq _ _ _ [some (.ref a0), some (.ref p), some lv, some (.ref wv), some (.ref L), some (.ref R), some (.ref x), some sv9, some (.int (chgW rows (begT rows, begK rows) ss : Int)), o9, o10, none] H9
    have hsv9' : ∀ {H' : Hp}, Ex (Hd H9 x pa) H' → Dp K H' sv9 (standD fin.1 fin.2) := fun e => (StD.of_dq (K := K) (hsv9.mono e)).dp
    refine q_asgW ⟨.ref wv, rfl, sv9, rfl, wv, rows, sv9, fin.1, fin.2, rfl, hw9.up hd_sub, StD.of_dq (hsv9.mono hd_sub), hok9, fun H10 D us' e10 nD hD hus' => ⟨by show 0 ≤ sizeLine; decide, fun l hl => ⟨.list (dueL rows fin.1 fin.2), .list [], .lst (sq_of (Ex.new hl _ _ hD)) (DqA.dp (lay_due _ _ _) ((hus'.mono (off_in _ _)).mono (Ex.new hl))), .lst (sq_of upd_same) .nil, shaped_due _ _ _, shaped_wds [], ?_⟩⟩⟩
    rw [eqv_emD]
    have hrs : decide (dueL rows fin.1 fin.2 = []) = decide (dueW rows fin.1 fin.2 = []) := by rw [decide_eq_decide]; exact due_nil
    rw [hrs]
    have e11 := e10.trans (Ex.new (o := .lst ([] : List V)) hl)
    generalize upd H10 l (.lst ([] : List V)) = H11 at *
    change tSeq _ _ _ [some (.ref a0), some (.ref p), some lv, some (.ref wv), some (.ref L), some (.ref R), some (.ref x), some sv9, some (.int (chgW rows (begT rows, begK rows) ss : Int)), o9, o10, some (.bl (decide (dueW rows fin.1 fin.2 = [])))] H11
    have hT11 := hT9.up e11
    have hsmL : ∀ {H' : Hp}, Ex (Hd H9 x pa) H' → Dq H' lv (pd rows) := fun e => hl9.mono e
    refine q_andS (fun H12 => ∃ pb, Tn x pa pb H9 H12 ∧ TaO K CT CK CW H12 x pb wv kw rows fin (wayW rows (begT rows, begK rows) ss)) (et_B (ev_var (i := 11) rfl)) (fun hb H12 e12 R hR => ?_) (fun hb H12 e12 => ⟨pa, Tn.ex (e11.trans e12), hT11.up e12⟩) fun H12 hJ => ?_
    · have hdue : dueW rows fin.1 fin.2 = [] := of_decide_eq_true hb
      have e912 := e11.trans e12
      refine ⟨.ref wv, rfl, .ref x, rfl, lv, rfl, lv, rows, rfl, hl9.mono (hd_sub.trans e912), hG, hn2, hn8, h6, fun H13 M ms e13 nM hM hms => ?_⟩
      have hT13 := hT9.up (e912.trans e13)
      obtain ⟨dx, fs, svx, usx, hx, tf, hpx, _⟩ := (hT9.up e912).ex
      have nMx : M ≠ x := fun z => by rw [z, hx] at nM; cases nM
      have nMp : M ≠ pa := fun z => by rw [z, hpx] at nM; cases nM
      obtain ⟨dx', fs', svx', usx', hx', tf', hpx', _⟩ := hT13.ex
      have hms' : DqA (Hd H13 x pa) ms ((stepsW rows).map stepD) := by
        rw [← stepsD_W]
        exact dqa_kt (Kt.hd hx' hpx') (by rw [stepsD_W]; exact noLA_stp _) (hms.mono ((off_in _ _).trans fr_sub))
      exact ⟨x, pa, wv, kw, M, ms, rows, fin, _, rfl, hT13, by rw [hd_at nMx nMp]; exact hM, hms', hdue, by omega, htk', fun H14 pb t14 hT14 => ⟨true, rfl, hR H14 ⟨pb, (Tn.ex (e912.trans e13)).trans t14, hT14⟩⟩⟩
    obtain ⟨pb, t12, hT12⟩ := hJ
    obtain ⟨dx, fs, svx, usx, hx, tf, hpx, _⟩ := hT12.ex
    have hR12 := t12.hd _ _ hR9
    have eTR : ∀ {H' : Hp}, Ex H12 H' → Ev (tMeth CT "to_rest" (spTR K CT CK CW) [] E0 (tVar 6) (tCons (tC (.int 0)) tNil)) [some (.ref a0), some (.ref p), some lv, some (.ref wv), some (.ref L), some (.ref R), some (.ref x), some sv9, some (.int (chgW rows (begT rows, begK rows) ss : Int)), o9, o10, some (.bl (decide (dueW rows fin.1 fin.2 = [])))] H' (.bl (decide (dueW rows fin.1 fin.2 = []))) := fun e H1 e1 Q q => ⟨.ref x, rfl, x, dx, fs, rfl, (e.trans e1) _ _ hx, tf.m7, x, pb, wv, kw, rows, fin, _, rfl, hT12.up (e.trans e1), fun H2 e2 => q H2 e2⟩
    have eMn : ∀ {H' : Hp} {c8 c9 c10 c11 : Option V}, Ex H12 H' → Ev (tFld K (tVar 6) "many") [some (.ref a0), some (.ref p), some lv, some (.ref wv), some (.ref L), some (.ref R), some (.ref x), some sv9, c8, c9, c10, c11] H' (.int ((wayW rows (begT rows, begK rows) ss).length : Int)) := fun e H1 e1 Q q => ⟨.ref x, rfl, x, CT, dx, fs, _, rfl, (e.trans e1) _ _ hx, T.cl, T.n3, tf.mn, q H1 (Ex.refl _)⟩
    have eLn : ∀ {H' : Hp} {c8 c9 c10 c11 : Option V}, Ex H12 H' → Ev (tCB (rLenS K) (tCons (tVar 5) tNil)) [some (.ref a0), some (.ref p), some lv, some (.ref wv), some (.ref L), some (.ref R), some (.ref x), some sv9, c8, c9, c10, c11] H' (.int (ss.length : Int)) := fun e => ev_is (ev_len (K := K) (ev_var (i := 5) rfl) (sq_of (e _ _ (hd_sub _ _ hR12)))) (by rw [hul])
    refine q_when (b := (!decide (V.bl (decide (dueW rows fin.1 fin.2 = [])) = V.bl (decide (decide (dueW rows fin.1 fin.2 = []) = true)))) || !true) (et_or (et_test (ev_op (ev_var (i := 11) rfl) (ev_op (eTR (Ex.refl _)) ev_c fun H1 e1 Q1 q1 => ⟨_, true, rfl, rfl, q1 H1 (Ex.refl _)⟩) (rv_ne rfl))) fun _ => et_not (et_B (ev_call (sp := spSame K 3) (ea_cons (eMn (Ex.refl _)) (ea_cons (eLn (Ex.refl _)) ea_nil)) (spP_v fun H1 e1 => ⟨_, _, .int (ss.length : Int), by rw [hlen9]; rfl, .int _, .int _, .int 3 _, rfl⟩)))) (fun hb => by simp at hb) fun _ H13 e13 => ?_
    have hT13 := hT12.up e13
    have t13 := t12.trans (Tn.ex e13)
    have hR13 := t13.hd _ _ hR9
    -- back to the begin
    refine q_andS (fun H14 => ∃ pc, Tn x pa pc H9 H14 ∧ TaO K CT CK CW H14 x pc wv kw rows (begT rows, begK rows) []) (b := !decide (ss = [])) (et_test fun H1 e1 Q1 q1 => ⟨.ref R, rfl, by show 0 ≤ sizeLine; decide, fun l hl => ⟨.list (ss.map stepD), .list [], .lst (sq_of ((e1.trans (Ex.new hl)) _ _ (hd_sub _ _ hR13))) (DqA.dp (layA_stp ss) ((hus9.mono t13.hd).mono (hd_sub.trans (e1.trans (Ex.new hl))))), .lst (sq_of upd_same) .nil, shaped_stps ss, shaped_wds [], ?_⟩⟩) (fun hb H14 e14 R' hR' => ?_) (fun hb H14 e14 => ?_) fun H14 hJ => ?_
    · rw [eqv_emD]
      have : decide (ss.map stepD = []) = decide (ss = []) := by rw [decide_eq_decide]; exact List.map_eq_nil_iff
      rw [this]
      exact q1 _ (Ex.new hl)
    · have hne : ss ≠ [] := by simpa using hb
      have h1 : 1 ≤ ss.length := by
        cases ss with
        | nil => exact absurd rfl hne
        | cons a b => simp
      have hT14 := hT13.up e14
      obtain ⟨dx4, fs4, sv4, us4, hx4, tf4, hp4, _⟩ := hT14.ex
      have hz : (wayW rows (begT rows, begK rows) ss).length - ss.length = 0 := by omega
      refine ⟨.ref x, rfl, x, dx4, fs4, rfl, hx4, tf4.m4, .ref R, rfl, R, us, rfl, .inl (sq_of (e14 _ _ (hd_sub _ _ hR13))), x, pb, wv, kw, rows, fin, (begT rows, begK rows), _, ss.length, ?_, hT14, h1, by omega, ?_, fun H15 pc t15 hT15 => ?_⟩
      · rw [hul]
        rfl
      · rw [hz]
        cases ss with
        | nil => exact absurd rfl hne
        | cons a b => rfl
      · rw [hz, List.take_zero] at hT15
        exact ⟨rfl, false, rfl, hR' H15 ⟨pc, (t13.trans (Tn.ex e14)).trans t15, hT15⟩⟩
    · have hnil : ss = [] := by simpa using hb
      subst hnil
      rw [← hend] at hT13
      exact ⟨pb, t13.trans (Tn.ex e14), hT13.up e14⟩
    obtain ⟨pc, t14, hT14⟩ := hJ
    clear eTR eMn eLn hT12 hT13 hx tf hpx hR12 hR13
    obtain ⟨dx4, fs4, sv4, us4, hx4, tf4, hp4, hk4, hsv4, _⟩ := hT14.ex
    have smxB := smx_stand hn8 (hbeg.sh hG hn2)
    have hR14 := t14.hd _ _ hR9
    have hus14 := hus9.mono t14.hd
    refine q_orS (fun H15 => ∃ pd', Tn x pa pd' H9 H15 ∧ TaO K CT CK CW H15 x pd' wv kw rows (begT rows, begK rows) []) (et_not (a := true) (et_B fun H15 e15 Q5 q5 => ⟨.ref x, rfl, x, CT, dx4, fs4, _, rfl, e15 _ _ hx4, T.cl, T.n2, tf4.st, .ref wv, rfl, wv, rows, rfl, hT14.wo.up (hd_sub.trans e15), fun H16 u e16 hu => ⟨.bl true, ⟨sv4, u, standD (begT rows) (begK rows), rfl, (hsv4.up (hd_sub.trans (e15.trans e16))).dp, hu.dp, smxB, rfl⟩, fun H17 e17 => q5 H17 (e16.trans e17)⟩⟩)) (fun H15 e15 R' hR' => ?_) fun H15 hJ => ?_
    · have hT15 := hT14.up e15
      have d15 := hd_mono (x := x) (pa := pc) e15
      refine ⟨.ref x, rfl, x, dx4, fs4, rfl, e15 _ _ hx4, tf4.m6, .ref R, rfl, x, pc, wv, kw, R, us, rows, (begT rows, begK rows), [], ss, rfl, hT15, by show 0 + ss.length ≤ 20000; omega, d15 _ _ hR14, hus14.mono d15, hss, fun H16 pd' v t16 hT16 hv => ?_⟩
      have t916 := (t14.trans (Tn.ex e15)).trans t16
      rw [hend] at hv
      exact ⟨sv9, rfl, .bl true, ⟨v, sv9, standD fin.1 fin.2, rfl, (hv.up hd_sub).dp, hsv9' (t916.hd.trans hd_sub), smx, rfl⟩, fun H17 e17 => ⟨true, rfl, hR' H17 ⟨pd', t916.trans (Tn.ex e17), hT16.up e17⟩⟩⟩
    obtain ⟨pe, t15, hT15⟩ := hJ
    clear hx4 tf4 hp4 hk4 hsv4 hR14 hus14 hT14
    obtain ⟨dx5, fs5, sv5, us5, hx5, tf5, hp5, _⟩ := hT15.ex
    have hR15 := t15.hd _ _ hR9
    have hus15 := hus9.mono t15.hd
    refine ret_any ⟨.ref x, rfl, x, CT, dx5, fs5, _, rfl, hx5, T.cl, T.n3, tf5.mn, .bl true, ⟨.int 0, .int 0, .int 0, rfl, .int _, .int _, .int 3 _, rfl⟩, fun H16 e16 => ⟨true, rfl, ?_⟩⟩
    rw [if_pos rfl]
    refine ⟨.ref x, rfl, x, dx5, fs5, rfl, e16 _ _ hx5, tf5.m3, .ref R, rfl, x, pe, wv, kw, R, us, rows, (begT rows, begK rows), [], ss, rfl, hT15.up e16, by show 0 + ss.length ≤ 20000; omega, hd_mono e16 _ _ hR15, hus15.mono (hd_mono e16), hss, fun H17 t17 hT17 => ⟨_, rfl, .bl true, ⟨_, _, .int (chgW rows (begT rows, begK rows) ss : Int), rfl, .int _, .int _, .int 3 _, rfl⟩, fun H18 e18 => ⟨true, rfl, ?_⟩⟩⟩
    rw [if_pos rfl]
    rw [hend] at hT17
    obtain ⟨dx7, fs7, sv7, us7, hx7, tf7, hp7, hk7, hsv7, _⟩ := (hT17.up e18).ex
    have t918 := ((t15.trans (Tn.ex e16)).trans t17).trans (Tn.ex e18)
    exact ⟨.ref x, rfl, x, CT, dx7, fs7, _, rfl, hx7, T.cl, T.n2, tf7.st, sv9, rfl, .bl true, ⟨sv7, sv9, standD fin.1 fin.2, rfl, (hsv7.up hd_sub).dp, hsv9' (t918.hd.trans hd_sub), smx, rfl⟩, fun H19 e19 => k H19⟩
end
end Wk

set_option Elab.async false
set_option linter.all false
set_option maxRecDepth 100000
set_option maxHeartbeats 4000000
namespace Wk
open PySem PySem.Spec PyProof.Rows L2 Evl
theorem facts {P : Program} {w : World} {K : PySem.W.Frag} {h : Heap} {mg : Str → Option Value} {f : Addr} (X : K.In h) (G : h.Ns mainGlobals mg) (hfa : mg ("law" : Str) = some (.ref f)) (c : He.SaysD fa fn K) (cx : eb K = true) :
    ∃ fd : FuncData, (∀ (t : Shared) (u : Value), BindsTo t fd ⟨[u], []⟩ [("_law_script", u)]) ∧ ∀ base : Heap, K.In base → base.Ns mainGlobals mg → FnOk P w K mg base CX0 12 f fd ["_law_script"] (spLaw K) := by
  obtain ⟨d0, F0⟩ := c.def_ 0 (d := dG "is_integer" 11) rfl
  obtain ⟨d1, F1⟩ := c.def_ 1 (d := dG "is_between" 12) rfl
  obtain ⟨d2, F2⟩ := c.def_ 2 (d := dG "is_row" 13) rfl
  obtain ⟨d3, F3⟩ := c.def_ 3 (d := dG "is_tuple_of" 14) rfl
  obtain ⟨d4, F4⟩ := c.def_ 4 (d := dG "is_integer_tuple" 15) rfl
  obtain ⟨d5, F5⟩ := c.def_ 5 (d := dG "is_router" 16) rfl
  obtain ⟨d6, F6⟩ := c.def_ 6 (d := dG "refuse_no_router" 17) rfl
  obtain ⟨d7, F7⟩ := c.def_ 7 (d := dG "is_size" 18) rfl
  obtain ⟨d8, F8⟩ := c.def_ 8 (d := dG "is_way" 19) rfl
  obtain ⟨d9, F9⟩ := c.def_ 9 (d := dG "replaced" 20) rfl
  obtain ⟨d10, F10⟩ := c.def_ 10 (d := dG "choices" 25) rfl
  obtain ⟨d11, F11⟩ := c.def_ 11 (d := dG "is_taking" 26) rfl
  obtain ⟨d12, F12⟩ := c.def_ 12 (d := dG "is_choice" 27) rfl
  obtain ⟨d13, F13⟩ := c.def_ 13 (d := dG "refuse_more_takings" 28) rfl
  obtain ⟨d14, F14⟩ := c.def_ 14 (d := dG "no_items" 29) rfl
  obtain ⟨d15, F15⟩ := c.def_ 15 (d := dG "cannot_stay" 30) rfl
  obtain ⟨d16, F16⟩ := c.def_ 16 (d := dG "first_that_cannot_stay" 31) rfl
  obtain ⟨d17, F17⟩ := c.def_ 17 (d := dG "heard_ways" 34) rfl
  obtain ⟨d18, F18⟩ := c.def_ 18 (d := dG "offered" 35) rfl
  obtain ⟨d19, F19⟩ := c.def_ 19 (d := dG "first_stand" 36) rfl
  obtain ⟨d20, F20⟩ := c.def_ 20 (d := dG "is_stand_of" 37) rfl
  obtain ⟨d21, F21⟩ := c.def_ 21 (d := dG "is_heard" 38) rfl
  obtain ⟨d22, F22⟩ := c.def_ 22 (d := dG "is_step_of" 39) rfl
  obtain ⟨d23, F23⟩ := c.def_ 23 (d := dG "changed" 40) rfl
  obtain ⟨d24, F24⟩ := c.def_ 24 (d := dG "most_wished" 41) rfl
  obtain ⟨d25, F25⟩ := c.def_ 25 (d := dG "after" 42) rfl
  obtain ⟨d26, F26⟩ := c.def_ 26 (d := dG "due_steps" 43) rfl
  obtain ⟨d27, F27⟩ := c.def_ 27 (d := dG "first_due" 44) rfl
  obtain ⟨d28, F28⟩ := c.def_ 28 (d := dG "begin" 47) rfl
  obtain ⟨d29, F29⟩ := c.def_ 29 (d := dG "is_stand" 48) rfl
  obtain ⟨d30, F30⟩ := c.def_ 30 (d := dG "done" 49) rfl
  obtain ⟨d31, F31⟩ := c.def_ 31 (d := dG "due" 50) rfl
  obtain ⟨d32, F32⟩ := c.def_ 32 (d := dG "is_outcome" 54) rfl
  obtain ⟨d33, F33⟩ := c.def_ 33 (d := dG "outcomes" 55) rfl
  obtain ⟨d34, F34⟩ := c.def_ 34 (d := dG "followed_up" 56) rfl
  obtain ⟨d35, F35⟩ := c.def_ 35 (d := dG "refuse_wrong_lists" 61) rfl
  obtain ⟨d36, F36⟩ := c.def_ 36 (d := dG "is_way_list" 62) rfl
  obtain ⟨d37, F37⟩ := c.def_ 37 (d := dG "has_let_rest" 63) rfl
  obtain ⟨d38, F38⟩ := c.def_ 38 (d := dG "let_ways" 64) rfl
  obtain ⟨d39, F39⟩ := c.def_ 39 (d := dG "_law_pool" 66) rfl
  obtain ⟨d40, F40⟩ := c.def_ 40 (d := dG "_law_draw" 67) rfl
  obtain ⟨d41, F41⟩ := c.def_ 41 (d := dG "_law_order" 68) rfl
  obtain ⟨d42, F42⟩ := c.def_ 42 (d := dG "_law_planted" 69) rfl
  obtain ⟨d43, F43⟩ := c.def_ 43 (d := dG "_law_add" 70) rfl
  obtain ⟨d44, F44⟩ := c.def_ 44 (d := dG "_law_lists" 71) rfl
  obtain ⟨d45, F45⟩ := c.def_ 45 (d := dG "_law_same" 72) rfl
  obtain ⟨d46, F46⟩ := c.def_ 46 (d := dG "_law_lines" 73) rfl
  obtain ⟨d47, F47⟩ := c.def_ 47 (d := dG "_law_steps" 75) rfl
  obtain ⟨d48, F48⟩ := c.def_ 48 (d := dG "_law_begin" 76) rfl
  obtain ⟨d49, F49⟩ := c.def_ 49 (d := dG "_law_moved" 77) rfl
  obtain ⟨d50, F50⟩ := c.def_ 50 (d := dG "_law_drawn_order" 78) rfl
  obtain ⟨d51, F51⟩ := c.def_ 51 (d := dG "_law_looked" 79) rfl
  obtain ⟨d52, F52⟩ := c.def_ 52 (d := dG "_law_at_rest" 80) rfl
  obtain ⟨d53, F53⟩ := c.def_ 53 (d := dG "law" 81) rfl
  obtain ⟨d54, F54⟩ := c.def_ 54 (d := dM "Wishes" "__init__" "Wishes.__init__" 60 0) rfl
  obtain ⟨d55, F55⟩ := c.def_ 55 (d := dM "Wishes" "ways" "Wishes.ways" 60 2) rfl
  obtain ⟨d56, F56⟩ := c.def_ 56 (d := dM "Wishes" "lines" "Wishes.lines" 60 3) rfl
  obtain ⟨d57, F57⟩ := c.def_ 57 (d := dM "NoRouter" "__init__" "NoRouter.__init__" 3 0) rfl
  obtain ⟨d58, F58⟩ := c.def_ 58 (d := dM "BadWishes" "__init__" "BadWishes.__init__" 4 0) rfl
  obtain ⟨d59, F59⟩ := c.def_ 59 (d := dM "Works" "__init__" "Works.__init__" 33 0) rfl
  obtain ⟨d60, F60⟩ := c.def_ 60 (d := dM "TooMany" "__init__" "TooMany.__init__" 5 0) rfl
  obtain ⟨d61, F61⟩ := c.def_ 61 (d := dM "Talk" "__init__" "Talk.__init__" 51 0) rfl
  obtain ⟨d62, F62⟩ := c.def_ 62 (d := dM "Talk" "do" "Talk.do" 51 1) rfl
  obtain ⟨d63, F63⟩ := c.def_ 63 (d := dM "Talk" "run" "Talk.run" 51 2) rfl
  obtain ⟨d64, F64⟩ := c.def_ 64 (d := dM "Talk" "back" "Talk.back" 51 3) rfl
  obtain ⟨d65, F65⟩ := c.def_ 65 (d := dM "Talk" "trying" "Talk.trying" 51 4) rfl
  obtain ⟨d66, F66⟩ := c.def_ 66 (d := dM "Talk" "ahead" "Talk.ahead" 51 5) rfl
  obtain ⟨d67, F67⟩ := c.def_ 67 (d := dM "Talk" "to_rest" "Talk.to_rest" 51 6) rfl
  obtain ⟨d68, F68⟩ := c.def_ 68 (d := dM "Talk" "_go" "Talk._go" 51 7) rfl
  obtain ⟨d69, F69⟩ := c.def_ 69 (d := dM "Trial" "__init__" "Trial.__init__" 22 0) rfl
  obtain ⟨d70, F70⟩ := c.def_ 70 (d := dM "Trial" "__enter__" "Trial.__enter__" 22 1) rfl
  obtain ⟨d71, F71⟩ := c.def_ 71 (d := dM "Trial" "__exit__" "Trial.__exit__" 22 2) rfl
  have e := hfa.symm.trans (He.glo_ok X G (c.fact 53 (f := .glo "law") rfl))
  cases e
  have bL := FunD.bindsA (ps := ["_law_script"]) F53 fun _ _ _ _ _ _ us hl => match us, hl with | [_], _ => rfl
  have B : Bl mg := ⟨He.free_ok X G (c.fact 54 rfl), He.free_ok X G (c.fact 55 rfl), He.free_ok X G (c.fact 56 rfl), He.free_ok X G (c.fact 57 rfl), He.free_ok X G (c.fact 58 rfl), He.free_ok X G (c.fact 59 rfl), He.free_ok X G (c.fact 60 rfl), He.free_ok X G (c.fact 61 rfl), He.free_ok X G (c.fact 62 rfl), He.free_ok X G (c.fact 63 rfl), He.free_ok X G (c.fact 64 rfl), He.free_ok X G (c.fact 65 rfl), He.free_ok X G (c.fact 66 rfl), He.free_ok X G (c.fact 67 rfl)⟩
  obtain ⟨t8, m8⟩ := He.int_ok X G (c.fact 68 (f := .int "MOST_ROUTERS" 8) rfl)
  obtain ⟨t6, m6⟩ := He.int_ok X G (c.fact 69 (f := .int "MOST_WAYS" 6) rfl)
  obtain ⟨t2, m2⟩ := He.int_ok X G (c.fact 70 (f := .int "LEAST_ROUTERS" 2) rfl)
  obtain ⟨tK, mK⟩ := He.int_ok X G (c.fact 71 (f := .int "MOST_TAKINGS" 20000) rfl)
  obtain ⟨tR, mR⟩ := He.int_ok X G (c.fact 72 (f := .int "MOST_STEPS_TO_REST" 10000) rfl)
  obtain ⟨x1, cx⟩ := He.ba cx
  obtain ⟨x2, cx⟩ := He.ba cx
  obtain ⟨xT0, cx⟩ := He.ba cx
  obtain ⟨x3, x4⟩ := He.ba cx
  have TX : WTx K mg (He.ga K "Wishes") := ⟨He.cls_ok (c.fact 74 rfl), He.noat_ok (c.fact 78 rfl), He.noat_ok (c.fact 79 rfl), He.glo_ok X G (c.fact 73 rfl)⟩
  have TK : KTx K mg (He.ga K "Works") := ⟨He.cls_ok (c.fact 92 rfl), He.noat_ok (c.fact 94 rfl), He.noat_ok (c.fact 95 rfl), He.noat_ok (c.fact 96 rfl), He.noat_ok (c.fact 97 rfl), He.noat_ok (c.fact 98 rfl), He.glo_ok X G (c.fact 91 rfl)⟩
  obtain ⟨oN, xN⟩ := exB_ok x1
  obtain ⟨oB, xB⟩ := exB_ok x2
  have IT := insB_ok TX.cl x3
  have nN : PySem.W.findIn K (.ref (He.ga K "NoRouter")) "router" = some none := He.noat_ok (c.fact 84 (f := .noat "NoRouter" "router") rfl)
  have nB : PySem.W.findIn K (.ref (He.ga K "BadWishes")) "router" = some none := He.noat_ok (c.fact 85 (f := .noat "BadWishes" "router") rfl)
  have iN := He.meth_ok (c.fact 86 (f := .meth "NoRouter" "__init__") rfl)
  have iB := He.meth_ok (c.fact 87 (f := .meth "BadWishes" "__init__") rfl)
  have gG := He.glo_ok X G (c.fact 88 (f := .glo "GOAL_WAY") rfl)
  have gT : ∀ H, SqT K H (He.ga K "GOAL_WAY") [.int 0] := He.tupB_ok x4
  refine ⟨d53, fun t u => bL t [u] rfl, fun base _ _ => ?_⟩
  have C0 : Cal P w K mg base "is_integer" ["thing"] 1 spIsInt := calOf F0 (ok_isInt B F0) (He.glo_ok X G (c.fact 0 rfl)) (F0.bindsN fun _ _ _ _ _ _ us hl => match us, hl with | [_], _ => rfl)
  have C1 : Cal P w K mg base "is_between" ["least", "most", "thing"] 2 spBetween := calOf F1 (ok_between B C0 F1) (He.glo_ok X G (c.fact 1 rfl)) (F1.bindsN fun _ _ _ _ _ _ us hl => match us, hl with | [_, _, _], _ => rfl)
  have C2 : Cal P w K mg base "is_router" ["size", "thing"] 3 spRouter := calOf F5 (ok_router C1 F5) (He.glo_ok X G (c.fact 5 rfl)) (F5.bindsN fun _ _ _ _ _ _ us hl => match us, hl with | [_, _], _ => rfl)
  have C3 : Cal P w K mg base "is_way" ["size", "router", "thing"] 5 spWay := calOf F8 (ok_way B m8 C2 F8) (He.glo_ok X G (c.fact 8 rfl)) (F8.bindsN fun _ _ _ _ _ _ us hl => match us, hl with | [_, _, _], _ => rfl)
  have CS : Cal P w K mg base "is_size" ["least", "thing"] 3 spSize := calOf F7 (ok_size m8 C1 F7) (He.glo_ok X G (c.fact 7 rfl)) (F7.bindsN fun _ _ _ _ _ _ us hl => match us, hl with | [_, _], _ => rfl)
  have C5 : Cal P w K mg base "is_way_list" ["size", "router", "thing"] 6 spRow := calOf F36 (ok_row B m6 C3 F36) (He.glo_ok X G (c.fact 36 rfl)) (F36.bindsN fun _ _ _ _ _ _ us hl => match us, hl with | [_, _, _], _ => rfl)
  have C6 : Cal P w K mg base "has_let_rest" ["lists", "way"] 1 spRest := calOf F37 (ok_rest F37) (He.glo_ok X G (c.fact 37 rfl)) (F37.bindsN fun _ _ _ _ _ _ us hl => match us, hl with | [_, _], _ => rfl)
  have EN : Err P w K mg base "NoRouter" (He.ga K "NoRouter") := ⟨He.glo_ok X G (c.fact 81 rfl), oN, xN, nN, He.exm_ok (c.fact 83 rfl), ⟨_, d57, iN.at_, beq_iff_eq.mp iN.fn, ok_xn oN nN F57, F57.bindsN fun _ _ _ _ _ _ us hl => match us, hl with | [_, _], _ => rfl⟩⟩
  have EB : Err P w K mg base "BadWishes" (He.ga K "BadWishes") := ⟨He.glo_ok X G (c.fact 80 rfl), oB, xB, nB, He.exm_ok (c.fact 82 rfl), ⟨_, d58, iB.at_, beq_iff_eq.mp iB.fn, ok_xb oB nB F58, F58.bindsN fun _ _ _ _ _ _ us hl => match us, hl with | [_, _], _ => rfl⟩⟩
  have CR : CalX P w K mg base "refuse_no_router" ["size", "thing"] 4 (spNoRt (He.ga K "NoRouter")) := ⟨⟨_, d6, ok_noRt EN C2 F6, He.glo_ok X G (c.fact 6 rfl), F6.kp, (F6.bindsN fun _ _ _ _ _ _ us hl => match us, hl with | [_, _], _ => rfl)⟩⟩
  have C4 : CalX P w K mg base "refuse_wrong_lists" ["lists"] 7 (spRefuse (He.ga K "BadWishes")) := ⟨⟨_, d35, ok_refuse B m2 CS EB C5 C6 F35, He.glo_ok X G (c.fact 35 rfl), F35.kp, (F35.bindsN fun _ _ _ _ _ _ us hl => match us, hl with | [_], _ => rfl)⟩⟩
  have MW : Mkr P w K mg base (He.ga K "Wishes") (He.ga K "BadWishes") := ⟨TX, ⟨_, d54, He.mkr_ok (c.fact 75 rfl), ok_wi B TX C4 F54, F54.bindsN fun _ _ _ _ _ _ us hl => match us, hl with | [_, _], _ => rfl⟩⟩
  have WC1 : WC P w K mg base (He.ga K "Wishes") (He.ga K "NoRouter") := ⟨TX, IT, ⟨_, d55, He.meth_ok (c.fact 76 rfl), ok_ways TX CR F55, F55.bindsN fun _ _ _ _ _ _ us hl => match us, hl with | [_, _], _ => rfl⟩⟩
  have hzi : mg ("zip" : Str) = none := He.free_ok X G (c.fact 89 (f := .free "zip") rfl)
  have hso : mg ("sorted" : Str) = none := He.free_ok X G (c.fact 90 (f := .free "sorted") rfl)
  have D7 : Cal P w K mg base "_law_pool" ["_law_script"] 1 (spPool K) := calOf F39 (ok_pool B F39) (He.glo_ok X G (c.fact 39 rfl)) (F39.bindsN fun _ _ _ _ _ _ us hl => match us, hl with | [_], _ => rfl)
  have D8 : Cal P w K mg base "_law_draw" ["_law_pool_here", "_law_size"] 1 spDraw := calOf F40 (ok_draw B F40) (He.glo_ok X G (c.fact 40 rfl)) (F40.bindsN fun _ _ _ _ _ _ us hl => match us, hl with | [_, _], _ => rfl)
  have D9 : Cal P w K mg base "_law_order" ["_law_pool_here", "_law_size"] 2 spOrder := calOf F41 (ok_order B D8 F41) (He.glo_ok X G (c.fact 41 rfl)) (F41.bindsN fun _ _ _ _ _ _ us hl => match us, hl with | [_, _], _ => rfl)
  have D10 : Cal P w K mg base "_law_planted" ["_law_pool_here", "_law_size"] 3 spPlanted := calOf F42 (ok_planted B D8 D9 F42) (He.glo_ok X G (c.fact 42 rfl)) (F42.bindsN fun _ _ _ _ _ _ us hl => match us, hl with | [_, _], _ => rfl)
  have D11 : Cal P w K mg base "_law_add" ["_law_pool_here", "_law_lists_here", "_law_limit", "_law_cap"] 2 spAdd := calOf F43 (ok_add B D8 F43) (He.glo_ok X G (c.fact 43 rfl)) (F43.bindsN fun _ _ _ _ _ _ us hl => match us, hl with | [_, _, _, _], _ => rfl)
  have D12 : Cal P w K mg base "_law_lists" ["_law_pool_here", "_law_most", "_law_limit", "_law_cap"] 5 spLists := calOf F44 (ok_lists B D8 D10 D11 F44) (He.glo_ok X G (c.fact 44 rfl)) (F44.bindsN fun _ _ _ _ _ _ us hl => match us, hl with | [_, _, _, _], _ => rfl)
  obtain ⟨oT, xT⟩ := exB_ok xT0
  have nT : PySem.W.findIn K (.ref (He.ga K "TooMany")) "most" = some none := He.noat_ok (c.fact 101 (f := .noat "TooMany" "most") rfl)
  have iT := He.meth_ok (c.fact 102 (f := .meth "TooMany" "__init__") rfl)
  have ET : ErrF P w K mg base "TooMany" (He.ga K "TooMany") "most" := ⟨He.glo_ok X G (c.fact 99 rfl), oT, xT, nT, He.exm_ok (c.fact 100 rfl), ⟨_, d60, iT.at_, beq_iff_eq.mp iT.fn, ok_xm oT nT F60, F60.bindsN fun _ _ _ _ _ _ us hl => match us, hl with | [_, _], _ => rfl⟩⟩
  have P1b : Cal P w K mg base "is_tuple_of" ["many", "thing"] 1 (spTup1 K) := calOf F3 (ok_tup1 B F3) (He.glo_ok X G (c.fact 3 rfl)) (F3.bindsN fun _ _ _ _ _ _ us hl => match us, hl with | [_, _], _ => rfl)
  have P2b : Cal P w K mg base "is_integer_tuple" ["thing"] 2 (spIntTup1 K) := calOf F4 (ok_intTup1 B C0 F4) (He.glo_ok X G (c.fact 4 rfl)) (F4.bindsN fun _ _ _ _ _ _ us hl => match us, hl with | [_], _ => rfl)
  have P3 : Cal P w K mg base "choices" ["wishes", "router"] 6 (spChoices K (He.ga K "Wishes")) := calOf F10 (ok_choices B WC1 gG gT F10) (He.glo_ok X G (c.fact 10 rfl)) (F10.bindsN fun _ _ _ _ _ _ us hl => match us, hl with | [_, _], _ => rfl)
  have P4b : Cal P w K mg base "is_choice" ["wishes", "router", "thing"] 7 (spChoice1 K (He.ga K "Wishes")) := calOf F12 (ok_choice1 P2b P3 F12) (He.glo_ok X G (c.fact 12 rfl)) (F12.bindsN fun _ _ _ _ _ _ us hl => match us, hl with | [_, _, _], _ => rfl)
  have P5b : Cal P w K mg base "is_taking" ["wishes", "thing"] 8 (spTaking1 K (He.ga K "Wishes")) := calOf F11 (ok_taking1 B WC1 P1b P4b F11) (He.glo_ok X G (c.fact 11 rfl)) (F11.bindsN fun _ _ _ _ _ _ us hl => match us, hl with | [_, _], _ => rfl)
  have S5 : Cal P w K mg base "let_ways" ["wishes"] 6 (spLetWays (He.ga K "Wishes")) := calOf F38 (ok_letWays B WC1 F38) (He.glo_ok X G (c.fact 38 rfl)) (F38.bindsN fun _ _ _ _ _ _ us hl => match us, hl with | [_], _ => rfl)
  have MLW : ML P w K mg base (He.ga K "Wishes") := ⟨TX, ⟨_, d56, He.meth_ok (c.fact 77 rfl), ok_lines B hso S5 F56, F56.bindsN fun _ _ _ _ _ _ us hl => match us, hl with | [_], _ => rfl⟩⟩
  have H1 : Cal P w K mg base "heard_ways" ["wishes", "pair"] 6 (spHeard (He.ga K "Wishes")) := calOf F17 (ok_heard WC1 F17) (He.glo_ok X G (c.fact 17 rfl)) (F17.bindsN fun _ _ _ _ _ _ us hl => match us, hl with | [_, _], _ => rfl)
  have H2 : Cal P w K mg base "offered" ["wishes", "router", "places"] 6 (spOffered (He.ga K "Wishes")) := calOf F18 (ok_offered WC1 F18) (He.glo_ok X G (c.fact 18 rfl)) (F18.bindsN fun _ _ _ _ _ _ us hl => match us, hl with | [_, _, _], _ => rfl)
  have MK : MkK P w K mg base (He.ga K "Works") (He.ga K "Wishes") := ⟨TK, ⟨_, d59, He.mkr_ok (c.fact 93 rfl), ok_wkI B TK MLW H1 H2 F59, F59.bindsN fun _ _ _ _ _ _ us hl => match us, hl with | [_, _], _ => rfl⟩⟩
  have H4 : Cal P w K mg base "is_heard" ["ways", "thing"] 3 (spHd1 K) := calOf F21 (ok_hd1 P2b F21) (He.glo_ok X G (c.fact 21 rfl)) (F21.bindsN fun _ _ _ _ _ _ us hl => match us, hl with | [_, _], _ => rfl)
  have H5 : Cal P w K mg base "is_stand_of" ["works", "thing"] 9 (spSO1 K (He.ga K "Works") (He.ga K "Wishes")) := calOf F20 (ok_so1 B hzi TK P1b P5b H4 F20) (He.glo_ok X G (c.fact 20 rfl)) (F20.bindsN fun _ _ _ _ _ _ us hl => match us, hl with | [_, _], _ => rfl)
  have H6 : Cal P w K mg base "is_stand" ["wishes", "thing"] 10 (spIS1 K (He.ga K "Wishes")) := calOf F29 (ok_is1 MK H5 F29) (He.glo_ok X G (c.fact 29 rfl)) (F29.bindsN fun _ _ _ _ _ _ us hl => match us, hl with | [_, _], _ => rfl)
  have H7 : Cal P w K mg base "first_stand" ["works"] 1 (spFirstD K (He.ga K "Works") (He.ga K "Wishes")) := calOf F19 (ok_firstD B TK TX gG gT F19) (He.glo_ok X G (c.fact 19 rfl)) (F19.bindsN fun _ _ _ _ _ _ us hl => match us, hl with | [_], _ => rfl)
  have H8 : Cal P w K mg base "begin" ["wishes"] 10 (spBeginD K (He.ga K "Wishes")) := calOf F28 (ok_beginD MK H7 F28) (He.glo_ok X G (c.fact 28 rfl)) (F28.bindsN fun _ _ _ _ _ _ us hl => match us, hl with | [_], _ => rfl)
  have H9 : Cal P w K mg base "is_step_of" ["works", "thing"] 2 (spStp (He.ga K "Works") (He.ga K "Wishes")) := calOf F22 (ok_stp B TK C0 F22) (He.glo_ok X G (c.fact 22 rfl)) (F22.bindsN fun _ _ _ _ _ _ us hl => match us, hl with | [_, _], _ => rfl)
  have HR : Cal P w K mg base "is_row" ["thing"] 1 (spIsRow K) := calOf F2 (ok_isRow B F2) (He.glo_ok X G (c.fact 2 rfl)) (F2.bindsN fun _ _ _ _ _ _ us hl => match us, hl with | [_], _ => rfl)
  have L7 : Cal P w K mg base "_law_same" ["_law_actual", "_law_expected"] 4 (spSame K 3) := calOf F45 (same_all B F45 (He.glo_ok X G (c.fact 45 rfl)) 3) (He.glo_ok X G (c.fact 45 rfl)) (F45.bindsN fun _ _ _ _ _ _ us hl => match us, hl with | [_, _], _ => rfl)
  have L7b : Cal P w K mg base "_law_same" ["_law_actual", "_law_expected"] 5 spSameB := calOf F45 (ok_sameB B 4 _ L7 F45) (He.glo_ok X G (c.fact 45 rfl)) (F45.bindsN fun _ _ _ _ _ _ us hl => match us, hl with | [_, _], _ => rfl)
  have L3 : Cal P w K mg base "_law_lines" ["_law_lists_here"] 1 spLLines := calOf F46 (ok_lLines B hso F46) (He.glo_ok X G (c.fact 46 rfl)) (F46.bindsN fun _ _ _ _ _ _ us hl => match us, hl with | [_], _ => rfl)
  have L5 : Cal P w K mg base "_law_steps" ["_law_lists_here"] 2 spLSteps := calOf F47 (ok_lSteps B L3 F47) (He.glo_ok X G (c.fact 47 rfl)) (F47.bindsN fun _ _ _ _ _ _ us hl => match us, hl with | [_], _ => rfl)
  have L6 : Cal P w K mg base "_law_begin" ["_law_lists_here"] 2 spLBegin := calOf F48 (ok_lBegin B L3 F48) (He.glo_ok X G (c.fact 48 rfl)) (F48.bindsN fun _ _ _ _ _ _ us hl => match us, hl with | [_], _ => rfl)
  have L8 : Cal P w K mg base "_law_moved" ["_law_lists_here", "_law_lines_here", "_law_stand", "_law_step"] 1 spMoved := calOf F49 (ok_moved B F49) (He.glo_ok X G (c.fact 49 rfl)) (F49.bindsN fun _ _ _ _ _ _ us hl => match us, hl with | [_, _, _, _], _ => rfl)
  have PF1 : Cal P w K mg base "cannot_stay" ["wishes", "items", "router"] 6 (spStay K (He.ga K "Wishes")) := calOf F15 (ok_stay B WC1 F15) (He.glo_ok X G (c.fact 15 rfl)) (F15.bindsN fun _ _ _ _ _ _ us hl => match us, hl with | [_, _, _], _ => rfl)
  have PF2 : Cal P w K mg base "first_that_cannot_stay" ["wishes", "items"] 7 (spFirst K (He.ga K "Wishes")) := calOf F16 (ok_first B WC1 PF1 F16) (He.glo_ok X G (c.fact 16 rfl)) (F16.bindsN fun _ _ _ _ _ _ us hl => match us, hl with | [_, _], _ => rfl)
  have PO : Cal P w K mg base "is_outcome" ["wishes", "thing"] 9 (spOut1 K (He.ga K "Wishes")) := calOf F32 (ok_out1 P5b PF2 F32) (He.glo_ok X G (c.fact 32 rfl)) (F32.bindsN fun _ _ _ _ _ _ us hl => match us, hl with | [_, _], _ => rfl)
  have Q1 : Cal P w K mg base "replaced" ["row", "place", "item"] 1 spRepl := calOf F9 (ok_repl F9) (He.glo_ok X G (c.fact 9 rfl)) (F9.bindsN fun _ _ _ _ _ _ us hl => match us, hl with | [_, _, _], _ => rfl)
  have P9 : CalX P w K mg base "refuse_more_takings" ["wishes", "most"] 7 (spRMT (He.ga K "Wishes") (He.ga K "TooMany")) := ⟨⟨_, d13, ok_rmt B TX ET P3 F13, He.glo_ok X G (c.fact 13 rfl), F13.kp, (F13.bindsN fun _ _ _ _ _ _ us hl => match us, hl with | [_, _], _ => rfl)⟩⟩
  have PA : Cal P w K mg base "no_items" ["wishes"] 1 (spNoI K (He.ga K "Wishes")) := calOf F14 (ok_noI TX gG gT F14) (He.glo_ok X G (c.fact 14 rfl)) (F14.bindsN fun _ _ _ _ _ _ us hl => match us, hl with | [_], _ => rfl)
  have PB : Cal P w K mg base "followed_up" ["wishes", "items", "router"] 8 (spFol K (He.ga K "Wishes")) := calOf F34 (ok_fol hso P3 Q1 PF2 F34) (He.glo_ok X G (c.fact 34 rfl)) (F34.bindsN fun _ _ _ _ _ _ us hl => match us, hl with | [_, _, _], _ => rfl)
  have PC : CalX P w K mg base "outcomes" ["wishes"] 9 (spOcs K (He.ga K "Wishes") (He.ga K "TooMany")) := ⟨⟨_, d33, ok_ocs B TX mK P9 PA PB F33, He.glo_ok X G (c.fact 33 rfl), F33.kp, (F33.bindsN fun _ _ _ _ _ _ us hl => match us, hl with | [_], _ => rfl)⟩⟩
  have Q2 : Cal P w K mg base "most_wished" ["offers", "told"] 1 (spMW K) := calOf F24 (ok_mw F24) (He.glo_ok X G (c.fact 24 rfl)) (F24.bindsN fun _ _ _ _ _ _ us hl => match us, hl with | [_, _], _ => rfl)
  have Q3 : Cal P w K mg base "changed" ["works", "stand", "step"] 2 (spCh K (He.ga K "Works") (He.ga K "Wishes")) := calOf F23 (ok_ch TK Q1 Q2 F23) (He.glo_ok X G (c.fact 23 rfl)) (F23.bindsN fun _ _ _ _ _ _ us hl => match us, hl with | [_, _, _], _ => rfl)
  have Q3a : Cal P w K mg base "after" ["works", "stand", "step"] 3 (spAft K (He.ga K "Works") (He.ga K "Wishes")) := calOf F25 (ok_aft Q3 F25) (He.glo_ok X G (c.fact 25 rfl)) (F25.bindsN fun _ _ _ _ _ _ us hl => match us, hl with | [_, _, _], _ => rfl)
  have Q4 : Cal P w K mg base "due_steps" ["works", "stand"] 3 (spDS K (He.ga K "Works") (He.ga K "Wishes")) := calOf F26 (ok_ds TK Q3 F26) (He.glo_ok X G (c.fact 26 rfl)) (F26.bindsN fun _ _ _ _ _ _ us hl => match us, hl with | [_, _], _ => rfl)
  have Q4f : Cal P w K mg base "first_due" ["works", "stand"] 3 (spFD K (He.ga K "Works") (He.ga K "Wishes")) := calOf F27 (ok_fd TK Q3 F27) (He.glo_ok X G (c.fact 27 rfl)) (F27.bindsN fun _ _ _ _ _ _ us hl => match us, hl with | [_, _], _ => rfl)
  have Q5 : Cal P w K mg base "due" ["wishes", "stand"] 10 (spDue K (He.ga K "Wishes")) := calOf F31 (ok_due MK H5 Q4 F31) (He.glo_ok X G (c.fact 31 rfl)) (F31.bindsN fun _ _ _ _ _ _ us hl => match us, hl with | [_, _], _ => rfl)
  have Q6 : Cal P w K mg base "done" ["wishes", "stand", "step"] 10 (spDone K (He.ga K "Wishes")) := calOf F30 (ok_done MK H5 H9 Q3a F30) (He.glo_ok X G (c.fact 30 rfl)) (F30.bindsN fun _ _ _ _ _ _ us hl => match us, hl with | [_, _, _], _ => rfl)
  have TT : TTx K (He.ga K "Talk") := ⟨He.cls_ok (c.fact 104 rfl), He.noat_ok (c.fact 106 rfl), He.noat_ok (c.fact 107 rfl), He.noat_ok (c.fact 108 rfl), He.noat_ok (c.fact 109 rfl)⟩
  have TR : RTx K mg (He.ga K "Trial") := ⟨He.cls_ok (c.fact 118 rfl), He.noat_ok (c.fact 120 rfl), He.noat_ok (c.fact 121 rfl), He.noat_ok (c.fact 122 rfl), He.noat_ok (c.fact 123 rfl), He.glo_ok X G (c.fact 117 rfl)⟩
  have MT : MkT P w K mg base (He.ga K "Talk") (He.ga K "Works") (He.ga K "Wishes") := ⟨TT, He.glo_ok X G (c.fact 103 rfl), ⟨_, d61, He.mkr_ok (c.fact 105 rfl), ok_ti TT MK H7 F61, F61.bindsN fun _ _ _ _ _ _ us hl => match us, hl with | [_, _], _ => rfl⟩⟩
  have MR : MkR P w K mg base (He.ga K "Trial") := ⟨TR, ⟨_, d69, He.mkr_ok (c.fact 119 rfl), ok_ri TR F69, F69.bindsN fun _ _ _ _ _ _ us hl => match us, hl with | [_, _], _ => rfl⟩⟩
  have MGo : Msk P w K mg base (He.ga K "Talk") "_go" ["self", "step"] 3 (spGo K (He.ga K "Talk") (He.ga K "Works") (He.ga K "Wishes")) := ⟨_, d68, He.meth_ok (c.fact 116 rfl), ok_go TT Q3 F68, F68.bindsN fun _ _ _ _ _ _ us hl => match us, hl with | [_, _], _ => rfl⟩
  have MDo : Msk P w K mg base (He.ga K "Talk") "do" ["self", "step"] 4 (spGo K (He.ga K "Talk") (He.ga K "Works") (He.ga K "Wishes")) := ⟨_, d62, He.meth_ok (c.fact 110 rfl), ok_do TT H9 MGo F62, F62.bindsN fun _ _ _ _ _ _ us hl => match us, hl with | [_, _], _ => rfl⟩
  have MRun : Msk P w K mg base (He.ga K "Talk") "run" ["self", "steps"] 4 (spRun K (He.ga K "Talk") (He.ga K "Works") (He.ga K "Wishes")) := ⟨_, d63, He.meth_ok (c.fact 111 rfl), ok_run TT HR H9 MGo F63, F63.bindsN fun _ _ _ _ _ _ us hl => match us, hl with | [_, _], _ => rfl⟩
  have MBk : Msk P w K mg base (He.ga K "Talk") "back" ["self", "many"] 3 (spBk K (He.ga K "Talk") (He.ga K "Works") (He.ga K "Wishes")) := ⟨_, d64, He.meth_ok (c.fact 112 rfl), ok_bk TT C1 F64, F64.bindsN fun _ _ _ _ _ _ us hl => match us, hl with | [_, _], _ => rfl⟩
  have MTry : Msk P w K mg base (He.ga K "Talk") "trying" ["self"] 3 (spTry (He.ga K "Talk") (He.ga K "Trial")) := ⟨_, d65, He.meth_ok (c.fact 113 rfl), ok_try MR F65, F65.bindsN fun _ _ _ _ _ _ us hl => match us, hl with | [_], _ => rfl⟩
  have MTR : Msk P w K mg base (He.ga K "Talk") "to_rest" ["self", "limit"] 4 (spTR K (He.ga K "Talk") (He.ga K "Works") (He.ga K "Wishes")) := ⟨_, d67, He.meth_ok (c.fact 115 rfl), ok_tr B TT mR C1 Q4f MGo F67, F67.bindsN fun _ _ _ _ _ _ us hl => match us, hl with | [_, _], _ => rfl⟩
  have MEn : Msk P w K mg base (He.ga K "Trial") "__enter__" ["self"] 1 (spEn (He.ga K "Trial") (He.ga K "Talk")) := ⟨_, d70, He.meth_ok (c.fact 124 rfl), ok_en B.list TT TR F70, F70.bindsN fun _ _ _ _ _ _ us hl => match us, hl with | [_], _ => rfl⟩
  have MEx : Msk P w K mg base (He.ga K "Trial") "__exit__" ["self", "kind", "value", "trace"] 1 (spEx (He.ga K "Trial") (He.ga K "Talk")) := ⟨_, d71, He.meth_ok (c.fact 125 rfl), ok_ex TT TR F71, F71.bindsN fun _ _ _ _ _ _ us hl => match us, hl with | [_, _, _, _], _ => rfl⟩
  have MAh : Msk P w K mg base (He.ga K "Talk") "ahead" ["self", "steps"] 5 (spAh K (He.ga K "Talk") (He.ga K "Works") (He.ga K "Wishes")) := ⟨_, d66, He.meth_ok (c.fact 114 rfl), ok_ah TT ⟨MEn, MEx⟩ MTry MRun F66, F66.bindsN fun _ _ _ _ _ _ us hl => match us, hl with | [_, _], _ => rfl⟩
  have W1 : Cal P w K mg base "_law_drawn_order" ["_law_pool_here", "_law_lists_here"] 3 spDO := calOf F50 (ok_dord B D8 L5 F50) (He.glo_ok X G (c.fact 50 rfl)) (F50.bindsN fun _ _ _ _ _ _ us hl => match us, hl with | [_, _], _ => rfl)
  have W2 : Cal P w K mg base "_law_looked" ["_law_wishes", "_law_stand", "_law_step"] 11 (spLk K (He.ga K "Wishes")) := calOf F51 (ok_lk Q5 Q6 H6 F51) (He.glo_ok X G (c.fact 51 rfl)) (F51.bindsN fun _ _ _ _ _ _ us hl => match us, hl with | [_, _, _], _ => rfl)
  have W3 : Cal P w K mg base "_law_at_rest" ["_law_wishes", "_law_talk", "_law_moves"] 10 (spAR K (He.ga K "Talk") (He.ga K "Works") (He.ga K "Wishes")) := calOf F52 (ok_ar B TT PO PC MRun MTR MBk L7 F52) (He.glo_ok X G (c.fact 52 rfl)) (F52.bindsN fun _ _ _ _ _ _ us hl => match us, hl with | [_, _, _], _ => rfl)
  exact ok_law (CM := (He.ga K "TooMany")) B ⟨D7, D12, L7, L7b, L3, L5, L6, L8, W1, W2, W3, Q6, Q5, H8, MW, MT, MDo, MRun, MTR, MBk, MAh⟩ F53
end Wk
open PySem PySem.W PySem.Calls PyProof.Rows
set_option maxHeartbeats 0
theorem PySem.Challenge.cw_wishreels_k12_whole_talk_by_drawn_orders_holds : PySem.Challenge.rw_wishreels_k12_whole_talk_by_drawn_orders.Holds := by
  w_on; o_law
  refine HandSHeadRun.head_any (r := Wk.R) (q := view Wk.R.prog [81]) (H := Wk.hk) (ob := Wk.ob) (M := 8000) (loose := Wk.loose) (d := HandSHeadRun.topDef Wk.R.prog 81) (kwd := []) Wk.ob_eq
    (by kernel_rfl) (fun s => by kernel_rfl) Wk.run (by kernel_rfl) (by kernel_rfl) (by kernel_rfl) (by rfl) (by first | assumption | decide +kernel) (by decide +kernel) ⟨rfl, rfl, rfl, rfl, rfl, by decide +kernel⟩ ?hw ?hc
  case hw => w_witness2
  case hc =>
    refine L2.walk_ofE (l := PySem.Challenge.rw_wishreels_k12_whole_talk_by_drawn_orders) (n := 63) (k := 12) (x := "_law_script") (CX := L2.CX0) rfl (by decide) (by kernel_rfl) ⟨rfl, by decide, by decide⟩ ?F (fun _ _ _ _ z => z)
    intro w mg fa h Y G hmg0
    obtain ⟨K, kx, c, cx⟩ := Y
    have hmg : mg ("law" : PySem.Str) = some (.ref fa) := by
      have e : (HandSHeadRun.topDef Wk.R.prog 81).name = ("law" : PySem.Str) := by kernel_rfl
      rw [← e]
      exact hmg0
    obtain ⟨fd, hb, hF⟩ := Wk.facts (P := (PySem.Challenge.rw_wishreels_k12_whole_talk_by_drawn_orders).prog) (w := w) kx G hmg c cx
    exact ⟨K, fd, Wk.spLaw K, kx, hb, fun H a ns hl _ hS => ⟨a, ns, rfl, hS, hl, fun _ => rfl⟩, hF⟩

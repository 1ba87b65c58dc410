import PyProof.Rows.All
import Wide.All
import OpenK.AllK
import Wide.FinOn
import KE.KStateDown
import HandS.ForMost
import HandS.More
import HandS.WordsExc
import HandS.Defaults
import HandS.Deep
import HandS.IsInst
import HandS.Evl
import HandS.Walk
import HandS.TupSets
import HandS.TupAny
import HandS.Conv
import PyProof.P3In
import HandS.SetFor
import HandS.Strs
import KE.GoesMore
import KE.GoesEnum
import HandS.ExcInit
import HandS.ExcField
import HandS.ExcOwn
import PyProof.NeKinds
import PyProof.EqKinds
import PyProof.FactsAll.subtypes_4
import PyProof.FactsAll.dict_1
import HandS.WideBits
import HandS.Wide
import HandS.DictComp
import HandS.Comp
import HandS.TupLe
import HandS.TupMul
import KE.KEqNest
import HandS.Small
import HandS.TryOnly
import HandS.TryMany
import HandS.ExcIs
import HandS.ExcBuiltin
import KE.KExcIs
import HandS.Ends
import HandS.HeadEnd
import PyProof.ReprRoads
import PyProof.CallFns
import HandS.SortInts
import HandS.WordsDict
import HandS.Dict
import HandS.Exc
import PyProof.Rows.TupDisplay
import HandS.Head0
import HandS.Head1
import HandS.Head2
import HandS.HeadHook1
import HandS.HeadHook2
import PySem.Challenge.RW_wishreels_k64_floods_and_errors
set_option Elab.async false
set_option linter.all false
set_option maxRecDepth 100000
set_option maxHeartbeats 2000000
namespace Wk
open PySem PySem.Spec PyProof.Rows L2 Evl
/-! data that stand in a heap -/
mutual
inductive Dq (G : Hp) : V → PyData → Prop
  | non : Dq G .non .none
  | bl (b : Bool) : Dq G (.bl b) (.bool b)
  | int (i : Int) : Dq G (.int i) (.int i)
  | str (x : Str) : Dq G (.str x) (.str x)
  | lst {a : Addr} {xs : List V} {ds : List PyData} : G a = some (.lst xs) → DqA G xs ds → Dq G (.ref a) (.list ds)
  | tup {a : Addr} {xs : List V} {ds : List PyData} : G a = some (.tup xs) → DqA G xs ds → Dq G (.ref a) (.tuple ds)
  | dic {a : Addr} : G a = some (.dK []) → Dq G (.ref a) (.dict [])
inductive DqA (G : Hp) : List V → List PyData → Prop
  | nil : DqA G [] []
  | cons {v : V} {vs : List V} {d : PyData} {ds : List PyData} : Dq G v d → DqA G vs ds → DqA G (v :: vs) (d :: ds)
end
mutual
theorem Dq.mono {G H : Hp} (e : Ex G H) : ∀ {d : PyData} {v : V}, Dq G v d → Dq H v d
  | .none, _, .non => .non
  | .bool _, _, .bl b => .bl b
  | .int _, _, .int i => .int i
  | .str _, _, .str x => .str x
  | .list _, _, .lst h a => .lst (e _ _ h) (DqA.mono e a)
  | .tuple _, _, .tup h a => .tup (e _ _ h) (DqA.mono e a)
  | .dict _, _, .dic h => .dic (e _ _ h)
theorem DqA.mono {G H : Hp} (e : Ex G H) : ∀ {ds : List PyData} {vs : List V}, DqA G vs ds → DqA H vs ds
  | [], _, .nil => .nil
  | _ :: _, _, .cons h t => .cons (Dq.mono e h) (DqA.mono e t)
end
mutual
theorem Dq.dp {K : PySem.W.Frag} {G : Hp} : ∀ {d : PyData} {v : V}, d.canLay0 = true → Dq G v d → Dp K G v d
  | .none, _, _, .non => .non
  | .bool _, _, _, .bl b => .bl b
  | .int _, _, _, .int i => .int i
  | .str _, _, _, .str x => .str x
  | .list ds, _, c, .lst h a => .lst (sq_of h) (DqA.dp (by simpa [PyData.canLay0] using c) a)
  | .tuple ds, _, c, .tup h a => .tup (st_of h) (DqA.dp (by simpa [PyData.canLay0] using c) a)
  | .dict _, _, c, .dic h => by simp [PyData.canLay0] at c
theorem DqA.dp {K : PySem.W.Frag} {G : Hp} : ∀ {ds : List PyData} {vs : List V}, PyData.canLayAll0 ds = true → DqA G vs ds → DpAll K G vs ds
  | [], _, _, .nil => .nil
  | d :: ds, _, c, .cons h t => by
    have c' : d.canLay0 = true ∧ PyData.canLayAll0 ds = true := by simpa [PyData.canLayAll0] using c
    exact .cons (Dq.dp c'.1 h) (DqA.dp c'.2 t)
end
theorem DqA.length {G : Hp} : ∀ {ds : List PyData} {vs : List V}, DqA G vs ds → vs.length = ds.length
  | [], _, .nil => rfl
  | _ :: _, _, .cons _ t => congrArg Nat.succ t.length
theorem DqA.get {G : Hp} : ∀ {ds : List PyData} {vs : List V} {i : Nat} {v : V}, DqA G vs ds → vs[i]? = some v → ∃ d, ds[i]? = some d ∧ Dq G v d
  | [], _, i, v, .nil, e => by simp at e
  | d :: _, _, 0, v, .cons h t, e => ⟨d, rfl, by simp at e; subst e; exact h⟩
  | _ :: _, _, i + 1, v, .cons h t, e => by
    obtain ⟨d, e1, e2⟩ := t.get (i := i) (by simpa using e)
    exact ⟨d, by simpa using e1, e2⟩
theorem DqA.at {G : Hp} {ds : List PyData} {vs : List V} {i : Nat} {d : PyData} (h : DqA G vs ds) (e : ds[i]? = some d) : ∃ v, vs[i]? = some v ∧ Dq G v d := by
  have hl := h.length
  obtain ⟨hi, _⟩ := List.getElem?_eq_some_iff.mp e
  have hv : vs[i]? = some (vs[i]'(by omega)) := List.getElem?_eq_getElem (by omega)
  obtain ⟨d', e1, e2⟩ := h.get hv
  rw [e] at e1
  cases e1
  exact ⟨_, hv, e2⟩
theorem DqA.append {G : Hp} : ∀ {ds es : List PyData} {vs us : List V}, DqA G vs ds → DqA G us es → DqA G (vs ++ us) (ds ++ es)
  | [], _, _, _, .nil, h => h
  | _ :: _, _, _, _, .cons h t, u => .cons h (t.append u)
theorem DqA.take {G : Hp} : ∀ {ds : List PyData} {vs : List V} (n : Nat), DqA G vs ds → DqA G (vs.take n) (ds.take n)
  | [], _, n, .nil => by simp; exact .nil
  | _ :: _, _, 0, .cons h t => .nil
  | _ :: _, _, n + 1, .cons h t => .cons h (t.take n)
theorem DqA.drop {G : Hp} : ∀ {ds : List PyData} {vs : List V} (n : Nat), DqA G vs ds → DqA G (vs.drop n) (ds.drop n)
  | [], _, n, .nil => by simp; exact .nil
  | _ :: _, _, 0, .cons h t => .cons h t
  | _ :: _, _, n + 1, .cons h t => t.drop n
theorem DqA.ints {G : Hp} : ∀ (ns : List Int), DqA G (ns.map V.int) (ns.map PyData.int)
  | [] => .nil
  | n :: ns => .cons (.int n) (DqA.ints ns)
theorem DqA.int_inv {G : Hp} : ∀ {ns : List Int} {vs : List V}, DqA G vs (ns.map PyData.int) → vs = ns.map V.int
  | [], _, .nil => rfl
  | _ :: _, _, .cons (.int n) t => by
    have := DqA.int_inv t
    subst this
    rfl
/-- the name of a datum's type -/
def tyN : PyData → String
  | .none => "NoneType"
  | .bool _ => "bool"
  | .int _ => "int"
  | .str _ => "str"
  | .list _ => "list"
  | .tuple _ => "tuple"
  | .dict _ => "dict"
theorem Dq.ty {K : PySem.W.Frag} {G : Hp} {d : PyData} {v : V} (h : Dq G v d) : TyX K G v (.type (tyN d)) := by
  cases h with
  | non => exact .base .non
  | bl b => exact .base (.bl b)
  | int i => exact .base (.int i)
  | str x => exact .base (.str x)
  | lst h _ => exact .base (.lst h)
  | tup h _ => exact .base (.tup h)
  | dic h => exact .base (.dK h)
/-- a call's callee: the def that a global name holds -/
structure Cal (P : Program) (w : World) (K : PySem.W.Frag) (mg : Str → Option Value) (base : Heap) (x : Str) (ps : List Str) (k : Nat) (sp : Sp) : Prop where
  ex : ∃ (f : Addr) (fd : FuncData), FnOk P w K mg base CX0 k f fd ps sp ∧ mg x = some (.ref f) ∧ PySem.W.keepIn K (.ref f) = true ∧ Binds K fd ps []
section
variable {X : Cx}
theorem pe_cal {x : Str} {p pos : Pos} {e : Expr} {es : List Expr} {ps : List Str} {k j : Nat} {sp : Sp} {t : TA} (C : Cal X.prog X.w X.K X.mg X.base x ps k sp) (hr : Room j X.A) (hg : Gl X x) (ha : PA X (e :: es) t) (hk : k ≤ j := by decide)
    (hdb : (x == ("__debug__" : Str)) = false := by decide) (he : starEach (e :: es) X.env = (false, eval e X.env) :: starEach es X.env := by rfl) (hpl : (backTo pos (starEach es X.env)).any (·.1) = false := by rfl) :
    PE X (.Call (.Name x p) (e :: es) [] pos) (tCall sp [] E0 t) := by
  obtain ⟨f, fd, F, g, kp, b⟩ := C.ex
  exact pe_call F (hr.mono hk) hg g kp b .nil pass0 ha hdb he hpl
end
section
variable {K : PySem.W.Frag} {σ : L2.St} {H : Hp} {ta tb tc te : TE}
/-- isinstance(x, T), T a built-in type -/
theorem ev_isi {v : V} {d : PyData} {n : String} {b : Bool} (h : Ev ta σ H v) (hd : Dq H v d) (hk : kitB (tyN d) n = some b) : Ev (tCB (rIsi K) (tCons ta (tCons (tC (.ty n)) tNil))) σ H (.bl b) := fun H1 e Q q =>
  h H1 e _ fun H2 e2 => ⟨v, .ty n, .type (tyN d), .type n, b, rfl, .ty n, (hd.mono (e.trans e2)).ty, kit_ty hk, q H2 e2⟩
/-- a <= b <= c of ints -/
theorem ev_chain {i j k : Int} {r r' : R2} {b1 b2 : Bool} (ha : Ev ta σ H (.int i)) (hb : Ev tb σ H (.int j)) (hc : Ev tc σ H (.int k)) (h1 : RV r (.int i) (.int j) H (.bl b1)) (h2 : RV r' (.int j) (.int k) H (.bl b2)) :
    Ev (tChain r r' ta tb tc) σ H (.bl (b1 && b2)) := fun H1 e Q q =>
  ha H1 e _ fun H2 e2 => hb H2 (e.trans e2) _ fun H3 e3 => h1 H3 ((e.trans e2).trans e3) _ fun H4 e4 => ⟨b1, rfl, by
    cases b1 with
    | false => exact q H4 ((e2.trans e3).trans e4)
    | true => exact hc H4 (((e.trans e2).trans e3).trans e4) _ fun H5 e5 => h2 H5 ((((e.trans e2).trans e3).trans e4).trans e5) _ fun H6 e6 => q H6 ((((e2.trans e3).trans e4).trans e5).trans e6)⟩
end
end Wk

set_option Elab.async false
set_option linter.all false
set_option maxRecDepth 100000
set_option maxHeartbeats 4000000
namespace Wk
open PySem PySem.Spec PyProof.Rows L2 Evl
/-! how many are unlike -/
theorem nd_le {α : Type} [DecidableEq α] : ∀ (l D : List α), l.Nodup → (∀ x ∈ l, x ∈ D) → l.length ≤ D.length
  | [], _, _, _ => Nat.zero_le _
  | x :: l, D, hn, hs => by
    have hn' := List.nodup_cons.mp hn
    have hx : x ∈ D := hs x List.mem_cons_self
    have ih := nd_le l (D.erase x) hn'.2 fun y hy => (List.mem_erase_of_ne (fun (e : y = x) => hn'.1 (by rw [← e]; exact hy))).2 (hs y (List.mem_cons_of_mem _ hy))
    have e := List.length_erase_of_mem hx
    have hp : 0 < D.length := List.length_pos_of_mem hx
    simp only [List.length_cons]
    omega
theorem dup_less {α : Type} [DecidableEq α] : ∀ (D : List α), ¬ D.Nodup → ∃ D' : List α, (∀ x ∈ D, x ∈ D') ∧ D'.length < D.length
  | [], h => absurd List.nodup_nil h
  | x :: D, h => by
    by_cases hx : x ∈ D
    · exact ⟨D, fun y hy => (List.mem_cons.mp hy).elim (fun e => by rw [e]; exact hx) id, Nat.lt_succ_self _⟩
    · have hD : ¬ D.Nodup := fun z => h (List.nodup_cons.mpr ⟨hx, z⟩)
      obtain ⟨D', h1, h2⟩ := dup_less D hD
      exact ⟨x :: D', fun y hy => (List.mem_cons.mp hy).elim (fun e => by rw [e]; exact List.mem_cons_self) (fun e => List.mem_cons_of_mem _ (h1 y e)), Nat.succ_lt_succ h2⟩
theorem nd_iff {α : Type} [DecidableEq α] {l D : List α} (hn : l.Nodup) (h : ∀ x, x ∈ l ↔ x ∈ D) : l.length = D.length ↔ D.Nodup := by
  constructor
  · intro e
    apply Classical.byContradiction
    intro hD
    obtain ⟨D', h1, h2⟩ := dup_less D hD
    have := nd_le l D' hn fun x hx => h1 x ((h x).mp hx)
    omega
  · intro hD
    have h1 := nd_le l D hn fun x hx => (h x).mp hx
    have h2 := nd_le D l hD fun x hx => (h x).mpr hx
    omega
section
variable {X : Cx}
/-- len(set(t)), t a tuple of ints -/
def tLenSU (K : PySem.W.Frag) (ta : TE) : TE := fun σ H Q => ta σ H fun x H1 => ∃ (l : Addr) (ns : List Int), x = V.ref l ∧ SqT K H1 l (ns.map V.int) ∧ ns.length < 64 ∧ ∀ n : Nat, (n = ns.length ↔ ns.Nodup) → Q (.int n) H1
theorem pe_lenSU {a : Expr} {ta : TE} {p p2 q pos : Pos} (hc : X.calm = true) (hg : Gl X "len") (hm : X.mg "len" = none) (hg2 : Gl X "set") (hm2 : X.mg "set" = none) (ha : PE X a ta)
    (na : starEach [a] X.env = (false, eval a X.env) :: starEach [] X.env := by rfl) : PE X (.Call (.Name "len" p) [.Call (.Name "set" p2) [a] [] q] [] pos) (tLenSU X.K ta) := by
  refine ⟨fun pins s σ H Q I h => ?_⟩
  refine Call_ (ld_blt I hg hm PySem.boot_len ?_)
  refine PyProof.Rows.callWith_builtin1 (PyProof.Rows.args_cons ?_ rfl) rfl rfl
  refine Call_ (ld_blt I hg2 hm2 PyProof.Rows.boot_set ?_)
  refine PyProof.Rows.callWith_type1 (PyProof.Rows.args_cons (thn (ha.run pins s σ H _ I h) fun v s1 hh => PyProof.Rows.args_nil ?_) na) na rfl
  obtain ⟨x, H1, I1, r1, l, ns, rfl, hq, hlt, q1⟩ := hh
  cases r1
  obtain ⟨its, r, pl, hz⟩ := I1.tuple hq
  refine call_set_tupI (w := X.w) ns (I1.ok.hd hc) pl (by simpa using r.ints) (by unfold scanBound; omega) fun h' tk c hS hc2 hk => ?_
  refine PyProof.Rows.args_nil ?_
  obtain ⟨o, es, ep, t, ho, hex, hd, _, hnd, hiff, _, hf, hn, _⟩ := hS
  have I2 : Inv X pins σ H1 { s1 with heap := h', toks := tk } := I1.kept fun b o e => hk b o e
  refine call_len_set ho hex hd hf (by rw [hn] <;> omega) ⟨.int es.size, H1, I2.tok _, ⟨_, rfl⟩, q1 es.size ?_⟩
  have hl : (es.toList.map keyOf).length = es.size := by simp
  rw [← hl]
  exact nd_iff hnd fun k => by
    have := hiff k
    simp only [decide_eq_true_eq] at this
    exact this.symm
end
/-- the set that set() lays -/
abbrev sO (w : World) : Obj := { cls := .type "set", dict := none, data := .set #[] 0 (.fresh 0 0 (!w.params.followText "set-order")) }
section
variable {P : Program} {w : World} {A : Around} {E : Value → Shared → Prop} {s : Shared}
/-- set(t), t a tuple of tuples of ints -/
theorem set_of_tup2 {l : Addr} {its : Array Value} (ks : List (Addr × List Int)) {Q : Value → Shared → Prop} (nh : A.handled = none) (tl : s.heap.IsTuple l its) (eq : its.toList = ks.map fun p => Value.ref p.1)
    (ki : ∀ p ∈ ks, IsT P w s.heap p.2 p.1) (few : ks.length < 64) (un : A.units + 3 < cLine)
    (fin : ∀ (h' : Heap) (tk : Nat) L es ep t, SetTR P w h' s.heap.objs.size L es ep t → Got ks ks.length L → (∀ b o, s.heap.get? b = some o → h'.get? b = some o) → Q (.ref s.heap.objs.size) { s with heap := h', toks := tk }) :
    wpAny (model P w) A (call (.type "set") [.ref l]) Q E s := by
  have size : its.size = ks.length := by have q := congrArg List.length eq; simpa using q
  obtain ⟨c, rest, mro⟩ := F.called_set.mro
  have made := F.called_set.made; have sub := F.called_set.sub
  refine wpAny_call (codeAny_of_tree (show wpAny _ _ (callAny (.type "set") _) _ _ _ from ?_))
  refine wpAny_pure ⟨Code.quiet_builtin _ (by decide +kernel), codeAny_builtin F.entry_type_call (by
    rw [Around.under_plain (weight_type_call_type "set" [.ref l] []) rfl]
    have nt := F.called_set.notType; have cc := F.called_set.canCreate; have tc := F.typeCall_set_1 (.ref l)
    repeat (any_goals (first | assumption | wp_step))
    refine codeAny_mono (code_set_led1 (.ref l) (E := E) (Q₁ := fun ob s1 => ob = .ref s.heap.objs.size ∧ s1 = { s with heap := s.heap.push (sO w) }) ⟨rfl, rfl⟩) fun r s1 hr => ?_
    cases r with
    | error e => exact hr
    | ok fl =>
      cases fl with
      | ret ob =>
        obtain ⟨rfl, rfl⟩ := hr
        have hS : (s.heap.push (sO w)).get? s.heap.objs.size = some (sO w) := Heap.get?_push_size _ rfl
        have hT : Shared.TypeIs { s with heap := s.heap.push (sO w) } (.ref s.heap.objs.size) "set" := ⟨_, hS, rfl⟩
        have li := F.called_set.init.lookup; have bi := F.called_set.init.bind (.ref s.heap.objs.size)
        repeat (any_goals (first | assumption | wp_step))
        refine codeAny_mono (codeAny_call_builtin (R := wants (fun r s2 => r = .none ∧ ∃ h' tk L es ep t, s2 = { s with heap := h', toks := tk } ∧ SetTR P w h' s.heap.objs.size L es ep t ∧ Got ks ks.length L ∧ (∀ b o, s.heap.get? b = some o → h'.get? b = some o)) E)
          F.called_set.init.plain F.entry_set_init (check_set_init_1 hT ?_)) fun r2 s2 hr2 => ?_
        · obtain ⟨⟨oc, od, dt, sl⟩, ol, cl, n, dl⟩ := tl
          simp only at cl dl; subst cl; subst dl
          have ol1 : (s.heap.push (sO w)).get? l = some { cls := .type "tuple", dict := od, data := .seq its n, slots := sl } := Heap.get?_push_of_some _ ol
          have b1 := F.sub_tuple_set; have b2 := F.sub_tuple_frozenset
          have b3 : (Value.type "tuple" == Value.type "dict") = false := by decide
          have tl1 : (s.heap.push (sO w)).IsTuple l its := ⟨_, ol1, rfl, n, rfl⟩
          unfold Builtin.«set.__init__» noKeywords Builtin.Frozenset.updateFrom
          generalize hPI : pyIter = PI
          wp_walk
          subst hPI
          refine wpAny_pyIter_tuple tl1 (wpAny_bind (wpAny_runValue ?_))
          have lt : l < s.heap.objs.size := Heap.lt_size ol
          have nh3 : A.in1.in1.in1.handled = none := by simp [nh]
          have ne1 : l ≠ (s.heap.push (sO w)).objs.size := by rw [Heap.size_push]; exact Nat.ne_of_lt (Nat.lt_succ_of_lt lt)
          have nin : s.heap.objs.size ∉ [(s.heap.push (sO w)).objs.size, l] := by
            rw [Heap.size_push]
            intro z
            rcases List.mem_cons.mp z with z | z
            · exact absurd z (Nat.ne_of_lt (Nat.lt_succ_self _))
            · exact absurd (List.mem_singleton.mp z) (Nat.ne_of_gt lt)
          have val : ∀ (i : Nat) (v : Value), its[i]? = some v → ∃ p, ks[i]? = some p ∧ v = .ref p.1 := fun i v hv => by
            have q : its.toList[i]? = some v := (Array.getElem?_toList ..).trans hv
            rw [eq, List.getElem?_map] at q
            cases hq : ks[i]? with
            | none => rw [hq] at q; cases q
            | some p => rw [hq] at q; exact ⟨p, rfl, (Option.some.inj q).symm⟩
          have out : ∀ b, s.heap.objs.size ≤ b → s.heap.get? b = none := fun b hb => by
            cases q : s.heap.get? b with
            | none => rfl
            | some o => exact absurd (Nat.lt_of_lt_of_le (Heap.lt_size q) hb) (Nat.lt_irrefl _)
          refine set_update_tups ((Walks.tuple nh3 _ l ne1 its).toS) s.heap.objs.size nin ks size few val s.heap ki (out _ (Nat.le_refl _)) (fun b hb => out b (by rw [List.mem_singleton.mp hb, Heap.size_push]; exact Nat.le_succ _)) un (its.size - 0) 0 _ (by omega) (Nat.zero_le _)
            ⟨⟨_, Heap.get?_push_size _ rfl, rfl, rfl⟩, (tl1.push _)⟩ (fun b o e => Heap.get?_push_of_some _ (Heap.get?_push_of_some _ e)) ⟨[], #[], 0, _, setTR_fresh (Heap.get?_push_of_some _ hS), Got.zero ks⟩ ?_
          intro s' L es ep t hm hS' g' kp
          obtain ⟨h', g2, d', tk', os'⟩ := s'
          have eg : g2 = s.gens := hm.gens
          have ed : d' = s.drawn := hm.drawn
          have eo : os' = s.os := hm.os
          subst eg; subst ed; subst eo
          show wpAny _ _ _ _ _ _
          refine wpAny_pure (show wpAny _ _ (ret Value.none) _ _ _ from ?_)
          rw [size] at g'
          exact wpAny_pure ⟨rfl, h', tk', L, es, ep, t, rfl, hS', g', kp⟩
        · cases r2 with
          | error e => exact hr2
          | ok fl2 =>
            cases fl2 with
            | ret r =>
              obtain ⟨rfl, h', tk, L, es, ep, t, rfl, hS', g', k'⟩ := hr2
              repeat (any_goals (first | assumption | wp_step))
              exact fin _ _ _ _ _ _ hS' g' k'
            | _ => exact hr2.elim
      | _ => exact hr.elim)⟩
end
section
variable {X : Cx}
/-- len(set(t)), t a tuple of tuples of ints -/
def tLenSUU (K : PySem.W.Frag) (ta : TE) : TE := fun σ H Q => ta σ H fun x H1 => ∃ (l : Addr) (ks : List (Addr × List Int)), x = V.ref l ∧ SqT K H1 l (ks.map fun p => V.ref p.1) ∧ (∀ p ∈ ks, SqT K H1 p.1 (p.2.map V.int)) ∧ ks.length < 64 ∧
  ∀ n : Nat, (n = ks.length ↔ (ks.map (·.2)).Nodup) → Q (.int n) H1
theorem pe_lenSUU {a : Expr} {ta : TE} {p p2 q pos : Pos} (hc : X.calm = true) (hu : X.A.units + 64 < cLine) (hg : Gl X "len") (hm : X.mg "len" = none) (hg2 : Gl X "set") (hm2 : X.mg "set" = none) (ha : PE X a ta)
    (na : starEach [a] X.env = (false, eval a X.env) :: starEach [] X.env := by rfl) : PE X (.Call (.Name "len" p) [.Call (.Name "set" p2) [a] [] q] [] pos) (tLenSUU X.K ta) := by
  refine ⟨fun pins s σ H Q I h => Call_ (ld_blt I hg hm PySem.boot_len (PyProof.Rows.callWith_builtin1 (PyProof.Rows.args_cons (Call_ (ld_blt I hg2 hm2 PyProof.Rows.boot_set ?_)) rfl) rfl rfl))⟩
  refine PyProof.Rows.callWith_type1 (PyProof.Rows.args_cons (thn (ha.run pins s σ H _ I h) fun v s1 hh => PyProof.Rows.args_nil ?_) na) na rfl
  obtain ⟨x, H1, I1, r1, l, ks, rfl, hq, hk, few, q1⟩ := hh
  cases r1
  obtain ⟨its, r, pl, hz⟩ := I1.tuple hq
  refine set_of_tup2 (P := X.prog) (w := X.w) ks (I1.ok.hd hc) pl (by simpa using refs_of_vals r) (fun p hp => I1.isT (hk p hp)) few (by omega) fun h' tk L es ep t R g k => PyProof.Rows.args_nil ?_
  have I2 : Inv X pins σ H1 { s1 with heap := h', toks := tk } := I1.kept fun b o e => k b o e
  have hes : es.size = L.length := R.size (s := { s1 with heap := h', toks := tk })
  have hf := R.fits (s := { s1 with heap := h', toks := tk })
  obtain ⟨o, ho, hex, hd⟩ := R.ob
  refine call_len_set (s := { s1 with heap := h', toks := tk }) ho hex hd hf (by have := R.few; omega) ⟨.int es.size, H1, I2.tok _, ⟨_, rfl⟩, q1 es.size ?_⟩
  have e1 : (L.map (·.2)).length = es.size := by simp [hes]
  have e2 : (ks.map (·.2)).length = ks.length := by simp
  rw [← e1, ← e2]
  refine nd_iff R.nd fun k => ⟨fun z => ?_, fun z => ?_⟩
  · obtain ⟨p, hp, rfl⟩ := List.mem_map.mp z
    exact List.mem_map.mpr ⟨p, List.mem_of_mem_take (g.sub p hp), rfl⟩
  · obtain ⟨p, hp, rfl⟩ := List.mem_map.mp z
    exact g.all p (by rw [List.take_length]; exact hp)
end
end Wk

set_option Elab.async false
set_option linter.all false
set_option maxRecDepth 100000
set_option maxHeartbeats 4000000
namespace Wk
open PySem PySem.Spec PyProof.Rows L2 Evl
/-- the walk of a tuple's iterator under an enumerate -/
abbrev itO (l : Addr) : Obj := { cls := .type "tuple_iterator", data := .fields #[.ref l, .int 0 0] }
abbrev enO (it : Addr) : Obj := { cls := .type "enumerate", data := .fields #[.none, .bool false, .ref it, rawInt 0, .none, .none] }
theorem enumNewT (l : Addr) (its : Array Value) (n : Nat) (od : Option Addr) (sl : Array (Option Value)) :
    Meets (Builtin.«enumerate.__new__» ⟨[.type "enumerate", .ref l], []⟩) (fun _ R s => s.heap.get? l = some { cls := .type "tuple", dict := od, data := .seq its n, slots := sl } ∧
      R (.ok (.ret (.ref (s.heap.push (itO l)).objs.size))) { s with heap := (s.heap.push (itO l)).push (enO s.heap.objs.size) }) :=
  .of_wp fun prog w A R s h => by
    obtain ⟨hp, g, d, tk, os⟩ := s; obtain ⟨hl, h⟩ := h
    have su := sub_enumerate
    have tl : Heap.IsTuple (Shared.heap ⟨hp, g, d, tk, os⟩) l its := ⟨_, hl, rfl, n, rfl⟩
    wp_walk using wpAny_loadPart' hl
    refine wpAny_stack_any fun st => wpAny_pure ?_
    split
    · rename_i c _ _ _ _ _
      cases (c == Value.type "enumerate") <;> (wp_walk using wpAny_loadPart' hl, wpAny_pyIter_tuple tl; exact ⟨_, rfl, h⟩)
    · wp_walk using wpAny_loadPart' hl, wpAny_pyIter_tuple tl
      exact ⟨_, rfl, h⟩
section
variable {prog : Program} {w : World} {A : Around} {E : Value → Shared → Prop} {s : Shared}
theorem enumT_call {l : Addr} {its : Array Value} {Q : Value → Shared → Prop} (tl : s.heap.IsTuple l its)
    (h : ∀ h', IsEnum h' (s.heap.objs.size + 1) s.heap.objs.size 0 .none → h'.IsTupleIter s.heap.objs.size l 0 → h'.objs.size = s.heap.objs.size + 2 → (∀ b o, s.heap.get? b = some o → h'.get? b = some o) → Q (.ref (s.heap.objs.size + 1)) { s with heap := h' }) :
    wpAny (model prog w) A (call (.type "enumerate") [.ref l]) Q E s := by
  obtain ⟨⟨c, od, dt, sl⟩, hl, hc, n, hd⟩ := tl
  replace hc : c = .type "tuple" := hc
  replace hd : dt = .seq its n := hd
  subst hc hd
  refine callType_new F.called_enumerate (by decide) (F.typeCall_enumerate_1 _) (F.newCall_enumerate_1 _) (fun ob => F.args_object_init_2 ob _) F.entry_enumerate_new (enumNewT l its n od sl) ⟨hl, ?_⟩
  have hz : (s.heap.push (itO l)).objs.size = s.heap.objs.size + 1 := Heap.size_push ..
  show _ ∧ _
  rw [hz]
  have he : IsEnum ((s.heap.push (itO l)).push (enO s.heap.objs.size)) (s.heap.objs.size + 1) s.heap.objs.size 0 .none := by
    have q := Heap.get?_push_size (s.heap.push (itO l)) (o := enO s.heap.objs.size) rfl
    rw [hz] at q; exact q
  exact ⟨⟨_, he, rfl⟩, h _ he ⟨_, Heap.get?_push_of_some _ (Heap.get?_push_size _ rfl), rfl, rfl⟩ (by rw [Heap.size_push, hz]) fun b o x => Heap.get?_push_of_some _ (Heap.get?_push_of_some _ x)⟩
end
/-- the tuple at a, each item in a new pair with its place -/
def IteT (K : PySem.W.Frag) (a : Addr) : It :=
  ⟨fun i H => ∃ (xs : List V) (x : V), SqT K H a xs ∧ xs[i]? = some x, fun i H v H' => ∃ T x, v = .ref T ∧ H T = none ∧ H' = upd H T (.tup [.int (i : Nat), x]) ∧ ∀ xs, SqT K H a xs → xs[i]? = some x, fun i H => ∃ xs : List V, SqT K H a xs ∧ xs.length = i⟩
theorem turn_enumT {P : Program} {w : World} {K : PySem.W.Frag} {elts : List Expr} {kk : Nat} {tpos : Pos} (a e it : Addr) :
    Turn P w K (.Tuple elts kk tpos) (IteT K a) [e, it] e (fun i h => (∃ old, IsEnum h e it ((i : Nat) : Int) old) ∧ h.IsTupleIter it a i ∧ e ≠ it) where
  mem := List.mem_cons_self
  obj := fun i h st b hb => by
    obtain ⟨⟨old, he⟩, ⟨o, ho, hc, hd⟩, _⟩ := st
    rcases List.mem_cons.mp hb with z | z
    · rw [z]; exact ⟨_, he, fun v q => nomatch q⟩
    · rw [List.mem_singleton.mp z]; exact ⟨o, ho, fun v q => by rw [hd] at q; cases q⟩
  keep := fun i h h' st k => by
    obtain ⟨⟨old, he⟩, ⟨o, ho, r⟩, hne⟩ := st
    exact ⟨⟨old, k e (by simp) _ he⟩, ⟨o, k it (by simp) o ho, r⟩, hne⟩
  item := by
    intro X hP hw hK hc i pins s σ H E I hf st hg
    subst hP hw hK
    obtain ⟨⟨old, he⟩, hit, hne⟩ := st
    obtain ⟨xs, x, hq, hx⟩ := hg
    obtain ⟨its, rv, p, hz⟩ := I.tuple hq
    obtain ⟨u, hu, ru⟩ := rv.get hx
    have el : e < s.heap.objs.size := Heap.lt_size he
    have il : it < s.heap.objs.size := by obtain ⟨_, q, _⟩ := hit; exact Heap.lt_size q
    have nai : a ≠ it := fun z => by
      obtain ⟨o, ho, oc, _⟩ := p
      obtain ⟨o2, ho2, oc2, _⟩ := hit
      rw [z, ho2] at ho
      cases ho
      rw [oc2] at oc
      injection oc with q
      exact absurd q (by decide)
    have nae : e ≠ a := fun z => by
      obtain ⟨o, ho, oc, _⟩ := p
      have he2 := he
      unfold IsEnum at he2
      rw [z, ho] at he2
      cases he2
      injection oc with q
      exact absurd q (by decide)
    have hi : i < its.toArray.size := by
      have q := (List.getElem?_eq_some_iff.mp hu).1
      simpa using q
    refine wpAny_pyNext_enum_itemD (Draws.tuple (by simpa using I.ok.hd hc) it a nai its.toArray) he ⟨hit, p⟩ hi hne (by simp [hne, nae]) fun y h' tk hy ho hst hT hsz hk => ?_
    have ey : y = u := by
      have q : its.toArray[i]? = some y := hy
      rw [List.getElem?_toArray, hu] at q
      exact (Option.some.inj q).symm
    subst ey
    refine ⟨_, rfl, wpAny_letOwnedTupleGo_enum (s := { s with heap := h', toks := tk + 1 }) ho fun h2 he' sb => ?_⟩
    have hT2 : h2.get? s.heap.objs.size = some { cls := .type "tuple", data := .seq #[.int i tk, y] } := (sb.2 _ (Nat.ne_of_gt el)).trans hT
    have nw : ObjOk X.prog X.w (upd H s.heap.objs.size (.tup [.int (i : Nat), x])) h2 s.heap.objs.size (.tup [.int (i : Nat), x]) := ⟨by show 2 ≤ sizeLine; decide, [.int i tk, y], .cons ⟨_, rfl⟩ (.cons ru .nil), ⟨_, hT2, rfl, _, rfl⟩⟩
    have I1 : Inv X pins σ (upd H s.heap.objs.size (.tup [.int (i : Nat), x])) { s with heap := h2, toks := tk + 1 } := I.turnedNew (ch := [e, it]) (fun b ob hb q => by
        have b1 : b ≠ e := fun z => hb (by simp [z])
        have b2 : b ≠ it := fun z => hb (by simp [z])
        exact (sb.2 b b1).trans (hk b ob b1 b2 q)) hf (Nat.le_refl _) nw
    refine ⟨.ref s.heap.objs.size, _, I1, rfl, ⟨_, x, rfl, I.hok.fresh (Nat.le_refl _), rfl, fun ys hy => by rw [I.tuple_inj hy hq]; exact hx⟩, ⟨⟨y, ?_⟩, ?_, hne⟩, fun b hb => ?_⟩
    · rw [show ((i + 1 : Nat) : Int) = (i : Int) + 1 by omega]; exact he'
    · obtain ⟨o, ho2, r2⟩ := hst.1
      exact ⟨o, (sb.2 it (Ne.symm hne)).trans ho2, r2⟩
    · have hb2 : b < s.heap.objs.size := by
        rcases List.mem_cons.mp hb with z | z
        · rw [z]; exact el
        · rw [List.mem_singleton.mp z]; exact il
      rw [upd_ne (Nat.ne_of_lt hb2)]
      exact (hf b hb).1
  done := by
    intro X hP hw hK hc i pins s σ H E I hf st hg
    subst hP hw hK
    obtain ⟨⟨old, he⟩, hit, hne⟩ := st
    obtain ⟨xs, hq, hx⟩ := hg
    obtain ⟨its, rv, p, hz⟩ := I.tuple hq
    obtain ⟨f0, f1, f2, f3, f4, f5⟩ := hf it (by simp)
    have hl := rv.length
    have ei : i = its.toArray.size := by simp; omega
    have nai : a ≠ it := fun z => by
      obtain ⟨o, ho, oc, _⟩ := p
      obtain ⟨o2, ho2, oc2, _⟩ := hit
      rw [z, ho2] at ho
      cases ho
      rw [oc2] at oc
      injection oc with q
      exact absurd q (by decide)
    subst ei
    exact wpAny_pyNext_enum_endD (Draws.tuple (by simpa using I.ok.hd hc) it a nai its.toArray) he ⟨hit, p⟩ fun h' eb => ⟨rfl, I.turned (t' := s.toks) (fun b o hb q => eb b o hb q) f0 f1 f3 f4 f5⟩
  self := fun A i s Q E st h => let ⟨⟨_, he⟩, _⟩ := st; wpAny_pyIter_enum he h

def iEnumT (K : PySem.W.Frag) (ta : TA) : TI := fun σ H R => ta σ H fun vs H1 => ∃ a xs, vs = [.ref a] ∧ SqT K H1 a xs ∧ R (IteT K a) H1
/-- for i, x in enumerate(t), t a tuple -/
theorem pi_enumT {X : Cx} {e : Expr} {ta : TA} {p pos tpos : Pos} {elts : List Expr} {kk : Nat} (hg : Gl X "enumerate") (hm : X.mg "enumerate" = none) (ha : PA X [e] ta) (hs : starEach [e] X.env = [(false, eval e X.env)] := by rfl) :
    PI X (.Tuple elts kk tpos) (.Call (.Name "enumerate" p) [e] [] pos) (iEnumT X.K ta) := by
  refine ⟨fun pins s σ H R I h => Call_ (ld_blt I hg hm boot_enumerate (PyProof.Rows.callWith_type1 (thn (ha.run pos pins s σ H _ I h) fun us s1 hh => ?_) hs rfl))⟩
  obtain ⟨vs, H1, I1, r1, a, xs, rfl, hq, q⟩ := hh
  cases r1 with
  | cons r rr =>
    cases rr
    cases r
    obtain ⟨its, rv, pt, hz⟩ := I1.tuple hq
    refine enumT_call pt fun h' he hit hsz hk => wpAny_pyIter_enum he ?_
    refine ⟨s1.heap.objs.size + 1, [s1.heap.objs.size + 1, s1.heap.objs.size], _, _, H1, rfl, I1.kept (t' := s1.toks) hk, turn_enumT a (s1.heap.objs.size + 1) s1.heap.objs.size, ⟨⟨.none, he⟩, hit, Nat.succ_ne_self _⟩, fun b hb => ?_, q⟩
    have hle : s1.heap.objs.size ≤ b := by
      rcases List.mem_cons.mp hb with z | z
      · rw [z]; exact Nat.le_add_right _ _
      · rw [List.mem_singleton.mp z]; exact Nat.le_refl _
    exact I1.fpOk hle (I1.hok.fresh hle)
theorem walk_enumT {K : PySem.W.Frag} {a : Addr} {xs : List V} : Walk (IteT K a) xs.length (fun H => SqT K H a xs) (YPair (fun i => some (.int (i : Nat))) (fun i => xs[i]?)) := by
  refine ⟨fun i _ hi q => ⟨xs, xs[i], q, by simp [hi]⟩, fun _ q => ⟨xs, q, rfl⟩, fun i H v H' _ q y => ?_⟩
  obtain ⟨T, x, h1, h2, h3, h4⟩ := y
  exact ⟨T, .int (i : Nat), x, h1, h2, h3, rfl, h4 xs q⟩
section
variable {K : PySem.W.Frag} {σ : L2.St} {H : Hp} {t : TT} {te : TE}
/-- [e for x in t], t a tuple -/
theorem el_lcT {a : Addr} {xs : List V} {tl : TE} {j : Nat} {vs : List Nat} (f : Nat → Bool) (v : Nat → V) (h : Ev tl σ H (.ref a)) (hx : SqT K H a xs) (hz : xs.length ≤ 40000) (hw : ∀ x, wipe ((wipe σ vs).set j (some x)) vs = wipe σ vs)
    (ht : ∀ (i : Nat) (x : V) H1, Ex H H1 → xs[i]? = some x → EvT t ((wipe σ vs).set j (some x)) H1 (f i)) (he : ∀ (i : Nat) (x : V) H1, Ex H H1 → xs[i]? = some x → f i = true → Ev te ((wipe σ vs).set j (some x)) H1 (v i)) :
    EvL (tLc (iTup K tl) (gName j) t te vs) σ H (given xs.length f v) := fun H0 e Q q => h H0 e _ fun H1 e1 => ⟨a, rfl, ⟨xs, ex_t (e.trans e1) hx⟩, fun Dl hD =>
  lc_it (walk_tup (K := K) (a := a) (xs := xs)) (Cw H1 f v Dl) ⟨hD, Ex.new hD, upd_same⟩ (fun i H' _ p => ex_t ((e.trans e1).trans p.2.1) hx)
    (fun i x H' H2 hi p y => by
      obtain ⟨rfl, hxi⟩ := y
      exact ⟨hw x, cw_turn p (by omega) (ht i x H1 (e.trans e1) hxi) (fun hf => he i x H1 (e.trans e1) hxi hf)⟩)
    (fun H' p => q Dl H' (fresh_back e1 p.1) (e1.trans p.2.1) p.2.2)⟩
theorem given_all (n : Nat) (v : Nat → V) : given n (fun _ => true) v = (List.range n).map v := by
  unfold given
  rw [List.filter_eq_self.mpr (fun _ _ => rfl)]
theorem et_yes : EvT tYes σ H true := fun H1 _ _ q => q H1 (Ex.refl H1)
/-- all([..]) of flags -/
theorem ev_allL {bs : List Bool} {ta : TE} (h : EvL ta σ H (bs.map V.bl)) : Ev (tCB (rAll K) (tCons ta tNil)) σ H (.bl (bs.all id)) := fun H1 e Q q =>
  h H1 e _ fun p H2 _ e2 hp => ⟨p, bs, rfl, sq_of hp, q H2 e2⟩
/-- all([test(x) for x in t]) -/
theorem ev_allT {a : Addr} {xs : List V} {tl : TE} {j : Nat} {vs : List Nat} (g : Nat → Bool) (h : Ev tl σ H (.ref a)) (hx : SqT K H a xs) (hz : xs.length ≤ 40000) (hw : ∀ x, wipe ((wipe σ vs).set j (some x)) vs = wipe σ vs)
    (he : ∀ (i : Nat) (x : V) H1, Ex H H1 → xs[i]? = some x → Ev te ((wipe σ vs).set j (some x)) H1 (.bl (g i))) :
    Ev (tCB (rAll K) (tCons (tLc (iTup K tl) (gName j) tYes te vs) tNil)) σ H (.bl (((List.range xs.length).map g).all id)) :=
  ev_allL (by
    have q := el_lcT (K := K) (te := te) (fun _ => true) (fun i => .bl (g i)) h hx hz hw (fun _ _ _ _ _ => et_yes) fun i x H1 e hxi _ => he i x H1 e hxi
    rw [given_all] at q
    rw [List.map_map]
    exact q)
end
section
variable {K : PySem.W.Frag} {σ : L2.St} {H : Hp} {ta tb te : TE}
theorem ev_lenT {p : Addr} {xs : List V} (ha : Ev ta σ H (.ref p)) (h : SqT K H p xs) : Ev (tCB (rLenS K) (tCons ta tNil)) σ H (.int (xs.length : Int)) := fun H1 e Q q =>
  ha H1 e _ fun H2 e2 => ⟨p, xs, rfl, Or.inr (ex_t (e.trans e2) h), q H2 e2⟩
theorem all_get {α : Type} (ds : List α) (p : α → Bool) : ((List.range ds.length).map (fun i => ((ds[i]?).map p).getD false)).all id = ds.all p := by
  have e : (List.range ds.length).map (fun i => ((ds[i]?).map p).getD false) = ds.map p := by
    apply List.ext_getElem
    · simp
    · intro i h1 h2
      have hi : i < ds.length := by simpa using h1
      simp [hi]
  rw [e, List.all_map]
  rfl
end
section
variable {K : PySem.W.Frag} {σ : L2.St} {H : Hp} {g : TG} {tu tz : TS} {D : Ends}
/-- for i, x in enumerate(t) -/
theorem s_forEn {a : Addr} {xs : List V} {tl : TE} (h : Ev tl σ H (.ref a)) (hx : SqT K H a xs) (Pv : Nat → L2.St → Hp → Prop) (h0 : ∀ H1, Ex H H1 → Pv 0 σ H1) (hl : ∀ i σ' H', i ≤ xs.length → Pv i σ' H' → SqT K H' a xs)
    (hs : ∀ i y T σ' H', xs[i]? = some y → Pv i σ' H' → H' T = none → g (.ref T) σ' (upd H' T (.tup [.int (i : Nat), y])) fun σ2 H2 => tu { D with nx := Pv (i + 1), ct := Pv (i + 1), bk := D.nx } σ2 H2) (hd : ∀ σ' H', Pv xs.length σ' H' → D.nx σ' H') : tFor (iEnumT K (tCons tl tNil)) g tu D σ H :=
  h H (Ex.refl H) _ fun H1 e => ⟨a, xs, rfl, ex_t e hx, for_it (walk_enumT (K := K) (a := a) (xs := xs)) Pv (h0 H1 e) hl (fun i x σ' H2 H3 hi p y => by
    obtain ⟨T, u, y, rfl, hT, rfl, hu, hy⟩ := y
    cases hu
    exact hs i y T σ' H2 hy p hT) hd⟩
theorem q_forEn {a : Addr} {xs : List V} {tl : TE} (h : Ev tl σ H (.ref a)) (hx : SqT K H a xs) (Pv : Nat → L2.St → Hp → Prop) (h0 : ∀ H1, Ex H H1 → Pv 0 σ H1) (hl : ∀ i σ' H', i ≤ xs.length → Pv i σ' H' → SqT K H' a xs)
    (hs : ∀ i y T σ' H', xs[i]? = some y → Pv i σ' H' → H' T = none → g (.ref T) σ' (upd H' T (.tup [.int (i : Nat), y])) fun σ2 H2 => tu { D with nx := Pv (i + 1), ct := Pv (i + 1), bk := tz D } σ2 H2) (hd : ∀ σ' H', Pv xs.length σ' H' → tz D σ' H') : tSeq (tFor (iEnumT K (tCons tl tNil)) g tu) tz D σ H :=
  s_forEn (D := { D with nx := tz D }) h hx Pv h0 hl hs hd
end
end Wk

set_option Elab.async false
set_option linter.all false
set_option maxRecDepth 100000
set_option maxHeartbeats 2000000
namespace Wk
open PySem PySem.Spec PyProof.Rows L2 Evl
def top (i : Nat) : Stmt := PySem.Challenge.pw_wishreels_k64_floods_and_errors.main.body.getD i (.Pass ⟨0, 0, 0, 0⟩)
abbrev FnP (K : PySem.W.Frag) (x : Str) (st : Stmt) (f : Addr) (fd : FuncData) : Prop := FunD K x x (defArgs st) (defBody st) (defScope st) [] [] f fd
/-- names that are the built-in ones -/
structure Bl (mg : Str → Option Value) : Prop where
  isi : mg "isinstance" = none
  len : mg "len" = none
  tuple : mg "tuple" = none
  list : mg "list" = none
  int : mg "int" = none
  bool : mg "bool" = none
  str : mg "str" = none
  all : mg "all" = none
  set : mg "set" = none
  enum : mg "enumerate" = none
  range : mg "range" = none
  abs : mg "abs" = none
  min : mg "min" = none
  repr : mg "repr" = none
/-- a pure promise: a plain value, what stood stays -/
def spP (R : Hp → List V → V → Prop) : Sp := fun vs H Q _ => ∃ z, R H vs z ∧ ∀ H', Ex H H' → Q z H'
theorem spP_v {R : Hp → List V → V → Prop} {vs : List V} {H : Hp} {z : V} (h : ∀ H1, Ex H H1 → R H1 vs z) : SpV (spP R) vs H z := fun H1 e Q q E => ⟨z, h H1 e, fun H2 e2 => q H2 e2⟩
def isI : PyData → Bool
  | .int _ => true
  | _ => false
/-- what a datum is worth as an int -/
def valI : PyData → Int
  | .int i => i
  | _ => 0
theorem isI_eq {d : PyData} (h : isI d = true) : d = .int (valI d) := by
  cases d <;> first | rfl | (simp [isI] at h)
theorem kit_int (d : PyData) : ∃ b, kitB (tyN d) "int" = some b ∧ (b = true → ∃ c, kitB (tyN d) "bool" = some c ∧ (b && !c) = isI d) ∧ (b = false → isI d = false) := by
  cases d with
  | none => exact ⟨false, show kitB "NoneType" "int" = some false by decide +kernel, fun h => (by cases h), fun _ => rfl⟩
  | bool b => exact ⟨true, show kitB "bool" "int" = some true by decide +kernel, fun _ => ⟨true, show kitB "bool" "bool" = some true by decide +kernel, rfl⟩, fun h => (by cases h)⟩
  | int i => exact ⟨true, show kitB "int" "int" = some true by decide +kernel, fun _ => ⟨false, show kitB "int" "bool" = some false by decide +kernel, rfl⟩, fun h => (by cases h)⟩
  | str z => exact ⟨false, show kitB "str" "int" = some false by decide +kernel, fun h => (by cases h), fun _ => rfl⟩
  | list ds => exact ⟨false, show kitB "list" "int" = some false by decide +kernel, fun h => (by cases h), fun _ => rfl⟩
  | tuple ds => exact ⟨false, show kitB "tuple" "int" = some false by decide +kernel, fun h => (by cases h), fun _ => rfl⟩
  | dict ds => exact ⟨false, show kitB "dict" "int" = some false by decide +kernel, fun h => (by cases h), fun _ => rfl⟩
def isTu : PyData → Bool
  | .tuple _ => true
  | _ => false
def itemsT : PyData → List PyData
  | .tuple ds => ds
  | _ => []
theorem kit_tup (d : PyData) : kitB (tyN d) "tuple" = some (isTu d) := by
  cases d with
  | none => exact show kitB "NoneType" "tuple" = some false by decide +kernel
  | bool b => exact show kitB "bool" "tuple" = some false by decide +kernel
  | int i => exact show kitB "int" "tuple" = some false by decide +kernel
  | str z => exact show kitB "str" "tuple" = some false by decide +kernel
  | list ds => exact show kitB "list" "tuple" = some false by decide +kernel
  | tuple ds => exact show kitB "tuple" "tuple" = some true by decide +kernel
  | dict ds => exact show kitB "dict" "tuple" = some false by decide +kernel
def isR (n : Int) (d : PyData) : Bool := isI d && (decide (0 ≤ valI d) && decide (valI d ≤ n - 1))
section
variable {P : Program} {w : World} {K : PySem.W.Frag} {mg : Str → Option Value} {base : Heap} {f : Addr} {fd : FuncData}
/-! is_integer, _law_is_int -/
abbrev spIsInt : Sp := spP fun H vs z => ∃ v d, vs = [v] ∧ Dq H v d ∧ z = .bl (isI d)
abbrev sIsInt : Stmt := top 8
theorem scIsInt : FnScope ["thing"] ["thing"] (defScope sIsInt) := ⟨rfl, rfl, rfl, by decide +kernel, rfl, by decide +kernel, by decide +kernel⟩
theorem ok_isInt (B : Bl mg) (F : FnP K "is_integer" sIsInt f fd) : FnOk P w K mg base CX0 1 f fd ["thing"] spIsInt := by
  refine F.ok scIsInt (fun vs H Q E h => ?_) (fun cdv A outer s H vs Q E hr h => ?_)
  · obtain ⟨z, ⟨v, d, rfl, _⟩, _⟩ := h
    rfl
  · obtain ⟨z, ⟨v, d, rfl, hd, rfl⟩, k⟩ := h
    refine ⟨_, pss_one (ps_ret (pe_and (pe_callB call_isi (by rfl) B.isi boot_isinstance (pa_cons (pv 0) (pa_cons (pe_bltn (v := .ty "int") (by rfl) B.int PyProof.Rows.boot_int rfl) pa_nil)))
      (pe_one (pe_not (pe_callB call_isi (by rfl) B.isi boot_isinstance (pa_cons (pv 0) (pa_cons (pe_bltn (v := .ty "bool") (by rfl) B.bool PyProof.Rows.boot_bool rfl) pa_nil))))))), ?_⟩
    obtain ⟨b, hb, h1, h2⟩ := kit_int d
    have v0 : Ev (tVar 0) (start ["thing"] [v]) H v := ev_var rfl
    cases b with
    | true =>
      obtain ⟨c, hc, e⟩ := h1 rfl
      rw [← e] at k
      exact s_ret (ev_andV (ev_isi v0 hd hb) fun _ => ev_notV (ev_isi v0 hd hc)) k
    | false =>
      rw [h2 rfl] at k
      exact s_ret (ev_andV (b := false) (ev_isi v0 hd hb) fun z => (by cases z)) k

/-! is_between, is_router -/
abbrev spBetween : Sp := spP fun H vs z => ∃ (a b : Int) (v : V) (d : PyData), vs = [.int a, .int b, v] ∧ Dq H v d ∧ z = .bl (isI d && (decide (a ≤ valI d) && decide (valI d ≤ b)))
abbrev sBetween : Stmt := top 9
theorem scBetween : FnScope ["least", "most", "thing"] ["least", "most", "thing"] (defScope sBetween) := ⟨rfl, rfl, rfl, by decide +kernel, rfl, by decide +kernel, by decide +kernel⟩
theorem ok_between (B : Bl mg) (C : Cal P w K mg base "is_integer" ["thing"] 1 spIsInt) (F : FnP K "is_between" sBetween f fd) : FnOk P w K mg base CX0 2 f fd ["least", "most", "thing"] spBetween := by
  refine F.ok scBetween (fun vs H Q E h => ?_) (fun cdv A outer s H vs Q E hr h => ?_)
  · obtain ⟨z, ⟨a, b, v, d, rfl, _⟩, _⟩ := h
    rfl
  · obtain ⟨z, ⟨a, b, v, d, rfl, hd, rfl⟩, k⟩ := h
    refine ⟨_, pss_one (ps_ret (pe_and (pe_cal C hr (by rfl) (pa_cons (pv 2) pa_nil)) (pe_one (pe_chain op_le op_le (pv 0) (pv 2) (pv 1))))), ?_⟩
    have v0 : Ev (tVar 0) (start ["least", "most", "thing"] [.int a, .int b, v]) H (.int a) := ev_var rfl
    have v1 : Ev (tVar 1) (start ["least", "most", "thing"] [.int a, .int b, v]) H (.int b) := ev_var rfl
    have v2 : Ev (tVar 2) (start ["least", "most", "thing"] [.int a, .int b, v]) H v := ev_var rfl
    refine s_ret (ev_andV (a := isI d) (ev_call (ea_cons v2 ea_nil) (spP_v fun H1 e => ⟨v, d, rfl, hd.mono e, rfl⟩)) fun hi => ?_) k
    rw [isI_eq hi] at hd
    cases hd
    exact ev_chain v0 v2 v1 rv_I0 rv_I0
abbrev spRouter : Sp := spP fun H vs z => ∃ (n : Int) (v : V) (d : PyData), vs = [.int n, v] ∧ Dq H v d ∧ z = .bl (isR n d)
abbrev sRouter : Stmt := top 12
theorem scRouter : FnScope ["size", "thing"] ["size", "thing"] (defScope sRouter) := ⟨rfl, rfl, rfl, by decide +kernel, rfl, by decide +kernel, by decide +kernel⟩
theorem ok_router (C : Cal P w K mg base "is_between" ["least", "most", "thing"] 2 spBetween) (F : FnP K "is_router" sRouter f fd) : FnOk P w K mg base CX0 3 f fd ["size", "thing"] spRouter := by
  refine F.ok scRouter (fun vs H Q E h => ?_) (fun cdv A outer s H vs Q E hr h => ?_)
  · obtain ⟨z, ⟨n, v, d, rfl, _⟩, _⟩ := h
    rfl
  · obtain ⟨z, ⟨n, v, d, rfl, hd, rfl⟩, k⟩ := h
    refine ⟨_, pss_one (ps_ret (pe_cal C hr (by rfl) (pa_cons pe_int (pa_cons (pe_op op_sub (pv 0) pe_int) (pa_cons (pv 1) pa_nil))))), ?_⟩
    exact s_ret (ev_call (ea_cons ev_c (ea_cons (ev_op (ev_var rfl) ev_c rv_I0) (ea_cons (ev_var rfl) ea_nil))) (spP_v fun H1 e => ⟨0, n - 1, v, d, rfl, hd.mono e, rfl⟩)) k
end
end Wk

set_option Elab.async false
set_option linter.all false
set_option maxRecDepth 100000
set_option maxHeartbeats 4000000
namespace Wk
open PySem PySem.Spec PyProof.Rows L2 Evl
/-! an object made, a method called, where what is raised is wished for at the caller's slots -/
section
variable {X : Cx} {CX : CXT} {k : Nat} {f C : Addr} {fd : FuncData} {ps : List Str} {sp : Sp} {W : L2.St → XK} {x m : Str} {p pos apos : Pos} {e o : Expr} {es : List Expr} {ta : TE} {t : TA}
def tMkAt (C : Addr) (sp : Sp) (W : L2.St → XK) (t : TA) : TE := fun σ H Q => t σ H fun vs H1 => ∀ x dx, H1 x = none → H1 dx = none → dx ≠ x → sp (.ref x :: vs) (upd (upd H1 dx (.own x)) x (.ins C dx [])) (fun v H2 => v = .non ∧ Q (.ref x) H2) (W σ)
theorem pe_mkAt (M : Mk X.K C f) (Fn : FnOk X.prog X.w X.K X.mg X.base CX k f fd ps sp) (hr : Room (k + 1) X.A) (hg : Gl X x) (hm : X.mg x = some (.ref C)) (hb : Binds X.K fd ps []) (hx : ∀ σ, PassesAt CX X σ (W σ)) (ha : PA X (e :: es) t)
    (hdb : (x == ("__debug__" : Str)) = false := by decide) (he : starEach (e :: es) X.env = (false, eval e X.env) :: starEach es X.env := by rfl) (hpl : (backTo pos (starEach es X.env)).any (·.1) = false := by rfl) :
    PE X (.Call (.Name x p) (e :: es) [] pos) (tMkAt C sp W t) := by
  refine ⟨fun pins s σ H Q I h => wpAny_Call_Name_kw (ld_glob I hg hm (PySem.W.callWith_K (h₀ := X.base) I.ok.mod.kin M.kp (thn (ha.run pos pins s σ H _ I h) fun us s1 hh => ?_) he hpl) hdb)⟩
  obtain ⟨vs, H1, I1, r, q⟩ := hh
  refine ⟨I1.kIn, ?_⟩
  have hq := q (s1.heap.objs.size + 1) s1.heap.objs.size (I1.hok.fresh (Nat.le_succ _)) (I1.hok.fresh (Nat.le_refl _)) (Nat.ne_of_lt (Nat.lt_succ_self _))
  have J := Inv.made (C := C) I1
  have rr : Vals (V.ref (s1.heap.objs.size + 1) :: vs) (Value.ref (s1.heap.objs.size + 1) :: us) := .cons rfl r
  have hl : (Value.ref (s1.heap.objs.size + 1) :: us).length = ps.length := rr.length.symm.trans (Fn.len _ _ _ _ hq)
  have bd := hb _ (Value.ref (s1.heap.objs.size + 1) :: us) J.kIn (by rw [List.append_nil]; exact hl)
  rw [List.append_nil] at bd
  refine wpAny_call (make_map (f := f) I1.kIn M.makes M.init (beq_iff_eq.mp M.fn) (codeAny_mono (Fn.run _ X.stack _ _ ⟨_, []⟩ _ _ _ (W σ) (hr.make C us []) (J.env0.make C us []) bd rr hq) fun r s' out => ?_))
  cases r with
  | error er => exact hx σ pins _ _ er s' J out
  | ok fl =>
    cases fl with
    | ret u =>
      obtain ⟨v, H', I3, rv, ev, q3⟩ := J.after out
      subst ev
      exact ⟨rv, ⟨V.ref (s1.heap.objs.size + 1), H', I3, rfl, q3⟩⟩
    | next => exact False.elim out
    | brk => exact False.elim out
    | cont => exact False.elim out
def tMeAt (C : Addr) (m : Str) (sp : Sp) (W : L2.St → XK) (ta : TE) (t : TA) : TE := fun σ H Q => ta σ H fun x H1 => ∃ a dx fs, x = .ref a ∧ H1 a = some (.ins C dx fs) ∧ fs.lookup m = none ∧ t σ H1 fun vs H2 => sp (x :: vs) H2 Q (W σ)
theorem pe_meAt {pl : Sem Bool} (ho : PE X o ta) (c : Cls X.K C) (hm : Meth X.K C m f) (Fn : FnOk X.prog X.w X.K X.mg X.base CX k f fd ps sp) (hr : Room k X.A) (hb : Binds X.K fd ps []) (hx : ∀ σ, PassesAt CX X σ (W σ)) (ha : PA X (e :: es) t)
    (hst : starEach (e :: es) X.env = (false, eval e X.env) :: starEach es X.env := by rfl) (hpl : (backTo pos (starEach es X.env)).any (·.1) = false := by rfl)
    (ht : eval (.Call (.Attribute o m apos) (e :: es) [] pos) X.env = (do
      let ov ← eval o X.env
      standAt apos.atName
      let (f, first) ← holding [ov] (getMethod ov m pl)
      callWith pos f first (backTo pos (starEach (e :: es) X.env)) (backToKw pos (keywordEach [] X.env))) := by rfl) :
    PE X (.Call (.Attribute o m apos) (e :: es) [] pos) (tMeAt C m sp W ta t) := by
  refine ⟨fun pins s σ H Q I h => PySem.W.methodCall_KW (pl := pl) (thn (ho.run pins s σ H _ I h) fun u s1 hh => ?_) ht⟩
  obtain ⟨x, H1, I1, rx, a, dx, fs, ex, ea, l, q⟩ := hh
  subst ex
  obtain rfl : u = Value.ref a := rx
  refine getmeth_ok I1 ea c hm l (PySem.W.callWith_K (first := [.ref a]) (h₀ := X.base) I.ok.mod.kin hm.kp (thn (ha.run pos pins s1 σ H1 _ I1 q) fun us s2 hh => ?_) hst hpl)
  obtain ⟨vs, H2, I2, r, q2⟩ := hh
  exact ⟨I2.kIn, run_fnS (us := .ref a :: us) (vs := .ref a :: vs) Fn hr hb (hx σ) I2 (.cons rfl r) q2⟩
end
/-! an own error with one field -/
/-- __init__ of such an error: self.router = router -/
def spXI (C : Addr) : Sp := fun vs H Q _ => ∃ (a : Addr) (y : V), vs = [.ref a, y] ∧ H a = some (exo a C none) ∧ ∀ dx, H dx = none → dx ≠ a → Q .non (upd (upd H dx (exd dx [("router", y)])) a (exo a C (some dx)))
/-- X(e) is made: where the error's dict is -/
theorem mk_err {C : Addr} {te : TE} {σ : L2.St} {H : Hp} {y : V} {W : XK} (h : Ev te σ H y) (k : ∀ d H', H d = none → Ex H H' → H' d = some (.xd [("router", y)]) → W (.ref C) (some d) H') : tMkO C (spXI C) [] (tCons te tNil) σ H W := by
  refine h H (Ex.refl H) _ fun H1 e => ⟨by show 1 ≤ 1000; decide, fun a ha => ?_⟩
  refine ⟨a, y, rfl, upd_same, fun dx hd hne => ⟨rfl, dx, [("router", y)], upd_same, by rw [upd_ne hne, upd_same], ?_, ?_⟩⟩
  · rw [upd_ne hne] at hd
    exact hd
  · have hd1 : H1 dx = none := by rw [upd_ne hne] at hd; exact hd
    refine k dx _ (fresh_back e hd1) (fun b o hb => ?_) upd_same
    have hb1 := e b o hb
    have nb : b ≠ dx := ne_of_none hb1 hd1
    have na : b ≠ a := ne_of_none hb1 ha
    rw [upd_ne nb, del_ne na, upd_ne na, upd_ne nb, upd_ne na]
    exact hb1
/-! parts of tuples -/
section
variable {K : PySem.W.Frag} {σ : L2.St} {H : Hp} {ta tb te : TE}
/-- what stands in a tuple (an old one or a new one) -/
def EvS (te : TE) (σ : L2.St) (H : Hp) (xs : List V) : Prop := ∀ H1, Ex H H1 → ∀ Q : VK, (∀ p H2, Ex H1 H2 → H2 p = some (.tup xs) → Q (.ref p) H2) → te σ H1 Q
theorem es_sl {a : Addr} {xs : List V} {tl th : TO} {lo hi : Option Int} (h : Ev te σ H (.ref a)) (h1 : EvO tl σ H lo) (h2 : EvO th σ H hi) (hs : H a = some (.tup xs)) : EvS (tSl (rSlA K) te tl th) σ H (cutV xs lo hi) := fun H1 e Q q =>
  h H1 e _ fun H2 e2 => h1 H2 (e.trans e2) _ fun H3 e3 => h2 H3 ((e.trans e2).trans e3) _ fun H4 e4 => by
    have hs4 := (((e.trans e2).trans e3).trans e4) _ _ hs
    refine ⟨a, xs, rfl, st_of hs4, fun hw => ?_, fun hw p hp => q p _ (((e2.trans e3).trans e4).trans (Ex.new hp)) upd_same⟩
    have ec : cutV xs lo hi = xs := by
      unfold cutV
      rw [hw.1, hw.2]
      simp
    rw [ec] at q
    exact q a H4 ((e2.trans e3).trans e4) hs4
theorem es_cat {xs ys : List V} (ha : EvS ta σ H xs) (hb : EvS tb σ H ys) (hz : xs.length + ys.length ≤ 100000) : EvS (tOp (rCatA K) ta tb) σ H (xs ++ ys) := fun H1 e Q q =>
  ha H1 e _ fun p H2 e2 hp => hb H2 (e.trans e2) _ fun p' H3 e3 hp' => by
    have hp3 := e3 _ _ hp
    refine ⟨p, p', xs, ys, rfl, rfl, st_of hp3, st_of hp', sz_of hz, fun hx => ?_, fun _ hy => ?_, fun _ _ r hr => q r _ ((e2.trans e3).trans (Ex.new hr)) upd_same⟩
    · rw [hx] at q
      exact q p' H3 (e2.trans e3) hp'
    · rw [hy, List.append_nil] at q
      exact q p H3 (e2.trans e3) hp3
theorem es_tup {t : TA} {xs : List V} (h : EvA t σ H xs) (hz : xs.length ≤ 100000) : EvS (tTup t) σ H xs := fun H1 e Q q => eu_tup h hz H1 e Q fun p H2 _ e2 hp => q p H2 e2 hp
theorem es_var {a : Addr} {xs : List V} (h : Ev te σ H (.ref a)) (hs : H a = some (.tup xs)) : EvS te σ H xs := fun H1 e Q q => h H1 e _ fun H2 e2 => q a H2 e2 ((e.trans e2) _ _ hs)
theorem es_mono {xs : List V} {H' : Hp} (e : Ex H H') (h : EvS te σ H xs) : EvS te σ H' xs := fun H1 e1 Q q => h H1 (e.trans e1) Q q
end
/-! x in t, t a tuple of data -/
section
variable {X : Cx}
def rInU (K : PySem.W.Frag) : R2 := fun x y H Q => ∃ d ds, Dp K H x d ∧ Dp K H y (.tuple ds) ∧ SeqAt.shaped d = true ∧ PyData.canLayAll0 ds = true ∧ Q (.bl (ds.any fun z => PyData.eqv z d)) H
def rNotInU (K : PySem.W.Frag) : R2 := fun x y H Q => ∃ d ds, Dp K H x d ∧ Dp K H y (.tuple ds) ∧ SeqAt.shaped d = true ∧ PyData.canLayAll0 ds = true ∧ Q (.bl (!ds.any fun z => PyData.eqv z d)) H
theorem op_inU (hu : X.A.units + 66 < cLine) : OpR X (compareOp .In) (rInU X.K) := fun pins s σ H x y v u Q I rx ry h => by
  obtain ⟨d, ds, hd, he, sd, se, q⟩ := h
  obtain ⟨as, r1⟩ := Dp.reads I d x v hd rx
  obtain ⟨bs, r2⟩ := Dp.reads I (.tuple ds) y u he ry
  have hdp := SeqAt.depth_of_shaped sd
  exact SeqAt.in_tuple_reads r2 r1 se (SeqAt.canLay_of_shaped sd) (by have := Nat.min_le_right (PyData.depthAll ds) d.depth; omega) ⟨.bl _, H, I, rfl, q⟩
theorem op_notInU (hu : X.A.units + 66 < cLine) : OpR X (compareOp .NotIn) (rNotInU X.K) := fun pins s σ H x y v u Q I rx ry h => by
  obtain ⟨d, ds, hd, he, sd, se, q⟩ := h
  obtain ⟨as, r1⟩ := Dp.reads I d x v hd rx
  obtain ⟨bs, r2⟩ := Dp.reads I (.tuple ds) y u he ry
  have hdp := SeqAt.depth_of_shaped sd
  exact SeqAt.notIn_tuple_reads r2 r1 se (SeqAt.canLay_of_shaped sd) (by have := Nat.min_le_right (PyData.depthAll ds) d.depth; omega) ⟨.bl _, H, I, rfl, q⟩
end
end Wk

set_option Elab.async false
set_option linter.all false
set_option maxRecDepth 100000
set_option maxHeartbeats 4000000
namespace Wk
open PySem PySem.Spec PyProof.Rows L2 Evl SeqAt
/-! == of a sequence and the empty one: by the lengths alone -/
section
variable {X : Cx}
def rEqEL (K : PySem.W.Frag) : R2 := fun x y H Q => ∃ a b xs, x = .ref a ∧ y = .ref b ∧ SqL K H a xs ∧ SqL K H b [] ∧ Q (.bl xs.isEmpty) H
theorem op_eqEL (hu : X.A.units < cLine) : OpR X (compareOp .Eq) (rEqEL X.K) := fun pins s σ H x y v u Q I rx ry h => by
  obtain ⟨a, b, xs, rfl, rfl, ha, hb, q⟩ := h
  cases rx
  cases ry
  obtain ⟨its, r1, p1, _⟩ := I.list ha
  obtain ⟨its2, r2, p2, _⟩ := I.list hb
  cases r2
  cases r1 with
  | nil => exact eq_listAt (e := fun _ => true) p1.isList p2.isList rfl hu (fun j h1 _ => absurd h1 (by simp)) ⟨.bl true, H, I, rfl, q⟩
  | cons r rr => exact eq_list_lengthsAt p1.isList p2.isList (by simp) hu ⟨.bl false, H, I, rfl, q⟩
def rEqEU (K : PySem.W.Frag) : R2 := fun x y H Q => ∃ a b xs, x = .ref a ∧ y = .ref b ∧ SqT K H a xs ∧ SqT K H b [] ∧ Q (.bl xs.isEmpty) H
theorem op_eqEU (hu : X.A.units < cLine) : OpR X (compareOp .Eq) (rEqEU X.K) := fun pins s σ H x y v u Q I rx ry h => by
  obtain ⟨a, b, xs, rfl, rfl, ha, hb, q⟩ := h
  cases rx
  cases ry
  obtain ⟨its, r1, p1, _⟩ := I.tuple ha
  obtain ⟨its2, r2, p2, _⟩ := I.tuple hb
  cases r2
  refine eq_tupleAt (e := fun _ => true) p1 p2 hu (fun j _ h2 => absurd h2 (by simp)) ⟨.bl xs.isEmpty, H, I, ?_, q⟩
  cases r1 <;> rfl
def rNeEU (K : PySem.W.Frag) : R2 := fun x y H Q => ∃ a b xs, x = .ref a ∧ y = .ref b ∧ SqT K H a xs ∧ SqT K H b [] ∧ Q (.bl (!xs.isEmpty)) H
theorem op_neEU (hu : X.A.units < cLine) : OpR X (compareOp .NotEq) (rNeEU X.K) := fun pins s σ H x y v u Q I rx ry h => by
  obtain ⟨a, b, xs, rfl, rfl, ha, hb, q⟩ := h
  cases rx
  cases ry
  obtain ⟨its, r1, p1, _⟩ := I.tuple ha
  obtain ⟨its2, r2, p2, _⟩ := I.tuple hb
  cases r2
  refine RcNeAt.tuples (e := fun _ => true) p1 p2 hu (fun j _ h2 => absurd h2 (by simp)) X.prog X.w _ _ ⟨.bl (!xs.isEmpty), H, I, ?_, q⟩
  cases r1 <;> rfl
end
/-! a dict and a tuple are unlike -/
theorem dictEqTup (l b : Addr) (o : Obj) (hoc : o.cls = .type "dict") (its : Array Value) (n : Nat) (dd : Option Addr) (sl : Array (Option Value)) :
    Meets (Builtin.«dict.__eq__» ⟨[.ref l, .ref b], []⟩) (fun _ R s => s.heap.get? l = some o ∧ s.heap.get? b = some { cls := .type "tuple", dict := dd, data := .seq its n, slots := sl } ∧ R (.ok (.ret .notImplemented)) s) :=
  .of_wp fun prog w A R s h => by
    obtain ⟨hp, g, d, tk, os⟩ := s
    obtain ⟨hl, hb, h⟩ := h
    obtain ⟨oc, od, dt, os2⟩ := o
    simp only at hoc
    subst hoc
    have f1 := F.sub_tuple_dict
    wp_walk using wpAny_loadPart' hl, wpAny_loadPart' hb
    exact ⟨_, rfl, h⟩
theorem tupEqDict (l b : Addr) (o : Obj) (hoc : o.cls = .type "dict") (its : Array Value) (n : Nat) (dd : Option Addr) (sl : Array (Option Value)) :
    Meets (Builtin.«tuple.__eq__» ⟨[.ref b, .ref l], []⟩) (fun _ R s => s.heap.get? b = some { cls := .type "tuple", dict := dd, data := .seq its n, slots := sl } ∧ s.heap.get? l = some o ∧ R (.ok (.ret .notImplemented)) s) :=
  .of_wp fun prog w A R s h => by
    obtain ⟨hp, g, d, tk, os⟩ := s
    obtain ⟨hb, hl, h⟩ := h
    obtain ⟨oc, od, dt, os2⟩ := o
    simp only at hoc
    subst hoc
    have f1 := F.sub_dict_tuple
    wp_walk using wpAny_loadPart' hl, wpAny_loadPart' hb
    exact ⟨_, rfl, h⟩
section
variable {A : Around} {s : Shared}
theorem eqAt_dictTup {l b : Addr} {o : Obj} {its : Array Value} (hl : s.heap.get? l = some o) (hoc : o.cls = .type "dict") (hb : s.heap.IsTuple b its) (hu : A.units < cLine) : EqAt A s (.ref l) (.ref b) false := by
  obtain ⟨⟨c2, dd, dt, sl⟩, ho2, hc2, n, hd2⟩ := hb
  simp only at hc2 hd2
  subst hc2 hd2
  have hne : l ≠ b := fun z => by
    rw [z, ho2] at hl
    cases hl
    exact absurd hoc (by simp)
  refine EqAt.of_refs hne fun prog w E Q h => ?_
  exact rc_eq_decline_or (k := false) ⟨_, hl, hoc⟩ ⟨_, ho2, rfl⟩ (by decide) F.sub_tuple_dict F.slot_dict_eq F.slot_tuple_eq_refl
    (fun _ hq => call_meets F.slot_dict_eq ⟨_, hl, hoc⟩ F.entry_dict_eq (F.args_dict_eq_2 _ _) (dictEqTup l b o hoc its n dd sl) ⟨hl, ho2, hq⟩)
    (fun _ hq => call_meets F.slot_tuple_eq_refl ⟨_, ho2, rfl⟩ F.entry_tuple_eq (F.args_tuple_eq_2 _ _) (tupEqDict l b o hoc its n dd sl) ⟨ho2, hl, hq⟩)
    (fun _ hq => wpAny_isSame_ref_other hne hl ho2 (by rw [hoc]; simp) hq) (.inr hu) h
end
/-- an item of an edited row -/
def Itm (d : PyData) : Prop := d = .dict [] ∨ (d.canLay0 = true ∧ d.depth ≤ 8)
section
variable {X : Cx}
/-- x not in l, l a list of such items, x a tuple: a flag -/
def rNotInX (K : PySem.W.Frag) : R2 := fun x y H Q => ∃ a p ds vs es, x = .ref a ∧ y = .ref p ∧ H p = some (.lst vs) ∧ DqA H vs ds ∧ (∀ d ∈ ds, Itm d) ∧ Dq H (.ref a) (.tuple es) ∧ PyData.canLay0 (.tuple es) = true ∧ ∀ b : Bool, Q (.bl b) H
theorem op_notInX (hu : X.A.units + 66 < cLine) : OpR X (compareOp .NotIn) (rNotInX X.K) := fun pins s σ H x y v u Q I rx ry h => by
  obtain ⟨a, p, ds, vs, es, rfl, rfl, hp, hds, hi, hx, cx, q⟩ := h
  cases rx
  cases ry
  obtain ⟨its, r1, p1, _⟩ := I.list (sq_of hp)
  have hxp := hx
  cases hxp with
  | tup h1 h2 =>
    obtain ⟨as, rx⟩ := Dp.reads I (.tuple es) (.ref a) (.ref a) (Dq.dp (K := X.K) cx hx) rfl
    obtain ⟨its2, r2, p2, _⟩ := I.tuple (st_of h1)
    have key : ∀ y ∈ its, ∃ b, EqAt X.A.in1 s y (.ref a) b := fun y hy => by
      obtain ⟨i, hiy⟩ := List.mem_iff_getElem?.mp hy
      have hil : i < vs.length := by
        have := (List.getElem?_eq_some_iff.mp hiy).1
        rw [r1.length]; exact this
      have hv : vs[i]? = some vs[i] := List.getElem?_eq_getElem hil
      obtain ⟨u2, hu2, ru⟩ := r1.get hv
      rw [hiy] at hu2
      cases hu2
      obtain ⟨d, ed, hd⟩ := hds.get hv
      rcases hi d (List.mem_of_getElem? ed) with z | ⟨z, zd⟩
      · subst z
        generalize hvv : vs[i] = vv at *
        cases hd with
        | dic hdd =>
          cases ru
          obtain ⟨_, _, vs2, _, o, es2, ep, g1, g2, _⟩ := (show ObjOk X.prog X.w H s.heap _ (.dK []) from I.hok _ _ hdd)
          exact ⟨false, eqAt_dictTup g1 g2.1 p2 (by show X.A.in1.units < cLine; simp; omega)⟩
      · obtain ⟨bs, ry⟩ := Dp.reads I d vs[i] y (Dq.dp (K := X.K) z hd) ru
        exact ⟨_, eqAt_reads d (.tuple es) X.A.in1 s y (.ref a) bs as ry rx z cx (by
          have hm := Nat.min_le_left d.depth (PyData.tuple es).depth
          show X.A.in1.units + _ < cLine
          simp
          omega)⟩
    have key2 : ∃ e : Value → Bool, ∀ y, y ∈ its.toArray → EqAt X.A.in1 s y (.ref a) (e y) := by
      refine ⟨fun y => @decide (EqAt X.A.in1 s y (.ref a) true) (Classical.propDecidable _), fun y hy => ?_⟩
      obtain ⟨b, hb⟩ := key y (by simpa using hy)
      by_cases c : EqAt X.A.in1 s y (.ref a) true
      · simp only [c, decide_true]
      · simp only [c, decide_false]
        cases b with
        | false => exact hb
        | true => exact absurd hb c
    obtain ⟨e, he⟩ := key2
    exact notIn_listAt e p1.isList he ⟨.bl _, H, I, rfl, q _⟩
end
end Wk

set_option Elab.async false
set_option linter.all false
set_option maxRecDepth 100000
set_option maxHeartbeats 2000000
namespace Wk
open PySem PySem.Spec PyProof.Rows L2 Evl
theorem cut_to (xs : List V) (i : Nat) (h : i ≤ xs.length) : cutV xs none (some (i : Int)) = xs.take i := by
  unfold cutV
  rw [HT.sIx_none, HT.sIx_nat, Nat.min_eq_left h]
  simp
theorem flat_ints (ns : List Int) : (ns.map V.int).all flatV = true := by
  rw [List.all_map, List.all_eq_true]
  intro x _
  rfl
theorem cut_from (xs : List V) (i : Nat) (h : i ≤ xs.length) : cutV xs (some (i : Int)) none = xs.drop i := by
  unfold cutV
  rw [HT.sIx_nat, HT.sIx_none, Nat.min_eq_left h]
  exact List.take_of_length_le (by simp)
theorem seqIx {k n : Nat} (h : k < n) : seqIndex? (k : Int) n = some k := by
  have q := ixN_seq (n := n) (i := (k : Int)) (j := k) (by
    unfold ixN
    rw [if_pos (by omega), if_pos (by omega)]
    simp)
  exact q.1
theorem ix_listK {X : Cx} {K : PySem.W.Frag} (hK : X.K = K) : IxR X (rIxL K) := by
  subst hK
  exact ix_list
theorem ixNat {n : Nat} {x : Int} (h0 : 0 ≤ x) (h1 : x < n) : ixN n x = some x.toNat := by
  unfold ixN
  rw [if_pos h0, if_pos h1]
theorem at_ints {os : List Int} {j : Nat} (h : j < os.length) : atI (os.map V.int) (j : Int) = some (.int os[j]) := atI_nat (by rw [List.getElem?_map, List.getElem?_eq_getElem h]; rfl)
theorem g_name {i : Nat} {x : V} {σ : L2.St} {H : Hp} {k : L2.St → Hp → Prop} (h : k (σ.set i (some x)) H) : gName i x σ H k := h
theorem asg_lst1 {te : TE} {g : TG} {D : Ends} {σ : L2.St} {H : Hp} (h : te σ H fun x H1 => 1 ≤ sizeLine ∧ ∀ b, H1 b = none → g (.ref b) σ (upd H1 b (.lst [x])) D.nx) : tAsg (tLst (tCons te tNil)) g D σ H := h
theorem cb1 {r : List V → Hp → VK → Prop} {ta : TE} {σ : L2.St} {H : Hp} {Q : VK} (h : ta σ H fun x H1 => r [x] H1 Q) : tCB r (tCons ta tNil) σ H Q := h
theorem q_c {i : Nat} {v : V} {tz : TS} {D : Ends} {σ : L2.St} {H : Hp} (h : tz D (σ.set i (some v)) H) : tSeq (tAsg (tC v) (gName i)) tz D σ H := h
theorem call_tupleK {X : Cx} {K : PySem.W.Frag} (hK : X.K = K) : CallR X (.type "tuple") (fun xs H Q => ∃ p ys, xs = [.ref p] ∧ ((SqL K H p ys ∧ ∀ l, H l = none → Q (.ref l) (upd H l (.tup ys))) ∨ (SqT K H p ys ∧ Q (.ref p) H))) := by
  subst hK
  exact call_tuple_of
theorem ret_cb {r : List V → Hp → VK → Prop} {ta : TE} {D : Ends} {σ : L2.St} {H : Hp} (h : ta σ H fun x H1 => r [x] H1 D.rt) : tRet (tCB r (tCons ta tNil)) D σ H := h
theorem ret_op {r : R2} {ta tb : TE} {D : Ends} {σ : L2.St} {H : Hp} (h : ta σ H fun x H1 => tb σ H1 fun y H2 => r x y H2 D.rt) : tRet (tOp r ta tb) D σ H := h
theorem call_listK2 {X : Cx} {K : PySem.W.Frag} (hK : X.K = K) : CallR X (.type "list") (fun xs H Q => ∃ p ys, xs = [.ref p] ∧ (SqL K H p ys ∨ SqT K H p ys) ∧ ∀ l, H l = none → Q (.ref l) (upd H l (.lst ys))) := by
  subst hK
  exact call_list_of
theorem take_snoc {α : Type} {l : List α} {i : Nat} {x : α} (h : l[i]? = some x) : l.take (i + 1) = l.take i ++ [x] := by
  rw [List.take_add_one, h]
  rfl
theorem ev_inS {K : PySem.W.Frag} {σ : L2.St} {H : Hp} {ta tb : TE} {x : V} {xs : List V} (ha : Ev ta σ H x) (hb : EvS tb σ H xs) (hx : flatV x = true) (hf : xs.all flatV = true) : Ev (tOp (rIn K false) ta tb) σ H (.bl (inV x xs)) := fun H1 e Q q =>
  ha H1 e _ fun H2 e2 => hb H2 (e.trans e2) _ fun p H3 e3 hp => ⟨p, xs, rfl, .inr (st_of hp), hx, hf, q H3 (e2.trans e3)⟩
theorem modP (a b : Int) (h : 0 < b) : 0 ≤ a % b ∧ a % b < b := ⟨Int.emod_nonneg _ (by omega), Int.emod_lt_of_pos _ h⟩
theorem q_asgW {te : TE} {tz : TS} {D : Ends} {σ : L2.St} {H : Hp} {i : Nat} (h : te σ H fun x H1 => tz D (σ.set i (some x)) H1) : tSeq (tAsg te (gName i)) tz D σ H := h
end Wk

set_option Elab.async false
set_option linter.all false
set_option maxRecDepth 100000
set_option maxHeartbeats 2000000
namespace Wk
open PySem PySem.Spec PyProof.Rows L2 Evl
/-! the pool: the list at p of the list at q that stays, and of three numbers; G is what stays -/
structure Pm (G H : Hp) (p q : Addr) : Prop where
  ex : Ex G H
  gp : G p = none
  gq : ∃ cs : List Int, G q = some (.lst (cs.map V.int)) ∧ cs.length ≤ 63
  at_ : ∃ (a b c : Int), H p = some (.lst [.ref q, .int a, .int b, .int c]) ∧ 0 ≤ a ∧ 0 ≤ b ∧ 0 ≤ c
theorem Pm.np {G H : Hp} {p q a : Addr} (h : Pm G H p q) (ha : H a = none) : a ≠ p := fun z => by
  obtain ⟨a', b, c, h2, _⟩ := h.at_
  rw [z, h2] at ha
  cases ha
theorem Pm.ext {G H H' : Hp} {p q : Addr} (h : Pm G H p q) (e : Ex H H') : Pm G H' p q := by
  obtain ⟨a, b, c, h2, r⟩ := h.at_
  exact ⟨h.ex.trans e, h.gp, h.gq, a, b, c, e _ _ h2, r⟩
theorem Pm.new {G H : Hp} {p q a : Addr} {o : HO} (h : Pm G H p q) (ha : H a = none) : Pm (upd G a o) (upd H a o) p q := by
  obtain ⟨a', b, c, h2, r⟩ := h.at_
  obtain ⟨cs, h0, h1⟩ := h.gq
  have np := h.np ha
  have ga := fresh_back h.ex ha
  refine ⟨fun b u hb => ?_, by rw [upd_ne (Ne.symm np)]; exact h.gp, ⟨cs, (Ex.new ga) _ _ h0, h1⟩, a', b, c, by rw [upd_ne (Ne.symm np)]; exact h2, r⟩
  by_cases c : b = a
  · rw [c, upd_same] at hb ⊢
    exact hb
  · rw [upd_ne c] at hb ⊢
    exact h.ex _ _ hb
theorem Pm.mut {G H : Hp} {p q a : Addr} {o : HO} (h : Pm G H p q) (ga : G a = none) (np : a ≠ p) : Pm G (upd H a o) p q := by
  obtain ⟨a', b, c, h2, r⟩ := h.at_
  exact ⟨Ex.mut h.ex ga, h.gp, h.gq, a', b, c, by rw [upd_ne (Ne.symm np)]; exact h2, r⟩
theorem Pm.hold {G H : Hp} {p q a : Addr} {o : HO} (h : Pm G H p q) (ha : H a = some o) (np : a ≠ p) (ga : G a = none) : Pm (upd G a o) H p q := by
  obtain ⟨cs, h0, h1⟩ := h.gq
  refine ⟨fun b u hb => ?_, by rw [upd_ne (Ne.symm np)]; exact h.gp, ⟨cs, (Ex.new ga) _ _ h0, h1⟩, h.at_⟩
  by_cases c : b = a
  · rw [c, upd_same] at hb
    cases hb
    rw [c]
    exact ha
  · rw [upd_ne c] at hb
    exact h.ex _ _ hb
def Of1 (p : Addr) (H H' : Hp) : Prop := ∀ b o, b ≠ p → H b = some o → H' b = some o
theorem Of1.refl (p : Addr) (H : Hp) : Of1 p H H := fun _ _ _ h => h
theorem Of1.trans {p : Addr} {H H1 H2 : Hp} (a : Of1 p H H1) (b : Of1 p H1 H2) : Of1 p H H2 := fun c o h1 h => b c o h1 (a c o h1 h)
theorem Of1.ex {p : Addr} {H H1 : Hp} (e : Ex H H1) : Of1 p H H1 := fun c o _ h => e c o h
open Classical in
noncomputable def Hd1 (H : Hp) (p : Addr) : Hp := fun b => if b = p then none else H b
theorem hd1_at {H : Hp} {p b : Addr} (hp : b ≠ p) : Hd1 H p b = H b := by
  unfold Hd1
  rw [if_neg hp]
theorem Pm.sub {G H : Hp} {p q : Addr} (h : Pm G H p q) : Ex G (Hd1 H p) := fun b o hb => by
  have hp : b ≠ p := fun z => by rw [z, h.gp] at hb; cases hb
  rw [hd1_at hp]
  exact h.ex _ _ hb
theorem Pm.hd {G H : Hp} {p q : Addr} (h : Pm G H p q) : Pm (Hd1 H p) H p q := by
  obtain ⟨cs, h0, h1⟩ := h.gq
  refine ⟨fun b o hb => ?_, by unfold Hd1; rw [if_pos rfl], ⟨cs, h.sub _ _ h0, h1⟩, h.at_⟩
  unfold Hd1 at hb
  split at hb
  · cases hb
  · exact hb
theorem Pm.off {H H' : Hp} {p q : Addr} (h : Pm (Hd1 H p) H' p q) : Of1 p H H' := fun b o hp hb => h.ex b o (by rw [hd1_at hp]; exact hb)
theorem Pm.back {G H H' : Hp} {p q : Addr} (h0 : Pm G H p q) (h : Pm (Hd1 H p) H' p q) : Pm G H' p q := ⟨h0.sub.trans h.ex, h0.gp, h0.gq, h.at_⟩
/-- less stays -/
theorem Pm.less {G G' H : Hp} {p q : Addr} (h : Pm G H p q) (e : Ex G' G) (hq : ∃ cs : List Int, G' q = some (.lst (cs.map V.int)) ∧ cs.length ≤ 63) : Pm G' H p q := ⟨e.trans h.ex, fresh_back e h.gp, hq, h.at_⟩
theorem rng_getD (ns : List Int) : (List.range ns.length).map (fun i => V.int (ns.getD i 0)) = ns.map V.int := by
  apply List.ext_getElem
  · simp
  · intro i h1 h2
    have h3 : i < ns.length := by simpa using h1
    simp [List.getD_eq_getElem?_getD, List.getElem?_eq_getElem h3]
theorem given_yesAll (n : Nat) (v : Nat → V) : given n (fun _ => true) v = (List.range n).map v := by
  unfold given
  rw [List.filter_eq_self.mpr fun _ _ => rfl]
theorem cut_all {ns : List Int} (h : ns.length ≤ 63) : cutV (ns.map V.int) none (some 63) = ns.map V.int := by
  unfold cutV
  rw [HT.sIx_none, show ((63 : Int)) = ((63 : Nat) : Int) from rfl, HT.sIx_nat, List.length_map, Nat.min_eq_right h]
  simp
  exact List.take_of_length_le (by simp)
theorem ret_lst1 {te : TE} {ta : TA} {D : Ends} {σ : L2.St} {H : Hp} (h : te σ H fun x H1 => ta σ H1 fun vs H2 => (x :: vs).length ≤ sizeLine ∧ ∀ l, H2 l = none → D.rt (.ref l) (upd H2 l (.lst (x :: vs)))) : tRet (tLst (tCons te ta)) D σ H := h
section
variable {P : Program} {w : World} {K : PySem.W.Frag} {mg : Str → Option Value} {base : Heap} {f : Addr} {fd : FuncData}
/-! _law_pool -/
def spPool (K : PySem.W.Frag) : Sp := fun vs H Q _ => ∃ (a : Addr) (ns : List Int), vs = [.ref a] ∧ SqL K H a (ns.map V.int) ∧ ns.length ≤ 63 ∧ ∀ G H' p q, Ex H G → Pm G H' p q → Q (.ref p) H'
abbrev sPool : Stmt := top 31
abbrev nPool : List Str := ["_law_script", "_law_cell"]
theorem scPool : FnScope nPool ["_law_script"] (defScope sPool) := ⟨rfl, rfl, rfl, by decide +kernel, rfl, by decide +kernel, by decide +kernel⟩
theorem ok_pool (B : Bl mg) (F : FnP K "_law_pool" sPool f fd) : FnOk P w K mg base CX0 1 f fd ["_law_script"] (spPool K) := by
  refine F.ok scPool (fun vs H Q E h => ?_) (fun cdv A outer s H vs Q E hr h => ?_)
  · obtain ⟨a, ns, rfl, _⟩ := h
    rfl
  · obtain ⟨a, ns, rfl, hs, hl, k⟩ := h
    refine ⟨_, pss_one (ps_ret (pe_lst (pa_cons (pe_lc (own := [("_law_cell", 1)]) (g := gName 1) (tt := tYes) rfl scPool.nd (pi_list (pe_slice sl_list (pv 0) po_none (po_some pe_int))) (blkOk_by (N := nPool) (sc := defScope sPool) (by decide +kernel))
          (fun _ _ _ _ _ => pg_name (i := 1) scPool.nd rfl (Or.inl rfl)) (fun _ _ _ _ _ => pts_nil)
          (fun _ _ _ _ _ => pe_callTy call_int1 (by rfl) B.int PyProof.Rows.boot_int (pa_cons (pv 1) pa_nil))) (pa_cons pe_int (pa_cons pe_int (pa_cons pe_int pa_nil)))))), ?_⟩
    have hsl : EvL (tSl (rSlL K) (tVar 0) tNoPart (tPart (tC (.int 63)))) (wipe (start nPool [V.ref a]) [1]) H (ns.map V.int) := by
      have q := el_sl (K := K) (te := tVar 0) (σ := wipe (start nPool [V.ref a]) [1]) (H := H) (ev_var rfl) eo_none (eo_some (i := 63) ev_c) hs
      rw [cut_all hl] at q
      exact q
    have hlc := el_lcNL (K := K) (σ := start nPool [V.ref a]) (H := H) (j := 1) (vs := [1]) (te := tCB (fun xs H Q => (∃ i, xs = [.int i] ∧ Q (.int i) H) ∨ ∃ k, xs = [.bl k] ∧ Q (.int (if k then 1 else 0)) H) (tCons (tVar 1) tNil)) (t := tYes) (fun _ => true) (fun i => V.int (ns.getD i 0)) hsl (by rw [List.length_map]; omega) (fun x => rfl) (fun _ _ _ _ _ => et_yes) (fun i x H1 e hx _ => by
      rw [List.getElem?_map] at hx
      cases hn : ns[i]? with
      | none => rw [hn] at hx; cases hx
      | some n =>
        rw [hn] at hx
        have ex : x = .int n := (Option.some.inj hx).symm
        subst ex
        rw [show ns.getD i 0 = n by rw [List.getD_eq_getElem?_getD, hn]; rfl]
        exact ev_cb (ea_cons (ev_var rfl) ea_nil) fun H2 e2 Q2 q => .inl ⟨n, rfl, q H2 (Ex.refl H2)⟩)
    rw [given_yesAll, List.length_map, rng_getD] at hlc
    refine ret_lst1 (hlc H (Ex.refl _) _ fun q H1 hq e1 hq1 => ?_)
    refine ⟨by show 4 ≤ sizeLine; decide, fun p hp => ?_⟩
    exact k H1 _ p q e1 ⟨Ex.new hp, hp, ⟨ns, hq1, hl⟩, 0, 0, 0, upd_same, by decide, by decide, by decide⟩
/-! _law_mixed -/
def mx1 (c m : Int) : Int := ((c + 7919 * m + 1) * 48271) % 2147483647
def mx2 (y : Int) : Int := (y * (y / 1009 + 69621)) % 2147483647
def mx3 (y : Int) : Int := (y * (y / 2003 + 40692)) % 2147483399
def mixI (c m : Int) : Int := mx3 (mx2 (mx1 c m))
theorem mixI_nn (c m : Int) : 0 ≤ mixI c m := (modP _ 2147483399 (by decide)).1
abbrev spMixed : Sp := spP fun _ vs z => ∃ c m : Int, vs = [.int c, .int m] ∧ z = .int (mixI c m)
abbrev sMixed : Stmt := top 32
abbrev nMixed : List Str := ["_law_cell", "_law_many", "_law_number"]
theorem scMixed : FnScope nMixed ["_law_cell", "_law_many"] (defScope sMixed) := ⟨rfl, rfl, rfl, by decide +kernel, rfl, by decide +kernel, by decide +kernel⟩
theorem ok_mixed (B : Bl mg) (F : FnP K "_law_mixed" sMixed f fd) : FnOk P w K mg base CX0 1 f fd ["_law_cell", "_law_many"] spMixed := by
  refine F.ok scMixed (fun vs H Q E h => ?_) (fun cdv A outer s H vs Q E hr h => ?_)
  · obtain ⟨z, ⟨c, m, rfl, _⟩, _⟩ := h
    rfl
  · obtain ⟨z, ⟨c, m, rfl, rfl⟩, k⟩ := h
    refine ⟨_, pss_cons (ps_set (i := 2) scMixed.nd rfl (Or.inl rfl) (pe_op op_mod (pe_callTy call_int1 (by rfl) B.int PyProof.Rows.boot_int (pa_cons (pe_op op_mul (pe_op op_add (pe_op op_add (pv 0) (pe_op op_mul pe_int (pv 1))) pe_int) pe_int) pa_nil)) pe_int))
      (pss_cons (ps_set (i := 2) scMixed.nd rfl (Or.inl rfl) (pe_op op_mod (pe_callTy call_int1 (by rfl) B.int PyProof.Rows.boot_int (pa_cons (pe_op op_mul (pv 2) (pe_op op_add (pe_op op_fdiv (pv 2) pe_int) pe_int)) pa_nil)) pe_int))
      (pss_one (ps_ret (pe_op op_mod (pe_callTy call_int1 (by rfl) B.int PyProof.Rows.boot_int (pa_cons (pe_op op_mul (pv 2) (pe_op op_add (pe_op op_fdiv (pv 2) pe_int) pe_int)) pa_nil)) pe_int)))), ?_⟩
    refine ⟨.int c, rfl, .int m, rfl, 7919, m, rfl, rfl, .inl ⟨by decide, by decide⟩, c, _, rfl, rfl, _, 1, rfl, rfl, _, 48271, rfl, rfl, .inr ⟨by decide, by decide⟩, .inl ⟨_, rfl, _, 2147483647, rfl, rfl, (show (0 : Int) < 2147483647 by decide), ?_⟩⟩
    have m1 := modP ((c + 7919 * m + 1) * 48271) 2147483647 (by decide)
    change tSeq _ _ _ [some (.int c), some (.int m), some (.int (mx1 c m))] H
    have k' : ∀ H', Ex H H' → Q (.int (mx3 (mx2 (mx1 c m)))) H' := k
    have hy1 : 0 ≤ mx1 c m ∧ mx1 c m < 2147483647 := m1
    generalize mx1 c m = y1 at k' hy1 ⊢
    refine ⟨.int y1, rfl, .int y1, rfl, y1, 1009, rfl, rfl, ⟨by decide, by decide⟩, _, 69621, rfl, rfl, y1, _, rfl, rfl, .inl ⟨by omega, by omega⟩, .inl ⟨_, rfl, _, 2147483647, rfl, rfl, (show (0 : Int) < 2147483647 by decide), ?_⟩⟩
    have m2 : 0 ≤ mx2 y1 ∧ mx2 y1 < 2147483647 := modP (y1 * (y1 / 1009 + 69621)) 2147483647 (by decide)
    refine g_name ?_
    exact ⟨.int (mx2 y1), rfl, .int (mx2 y1), rfl, mx2 y1, 2003, rfl, rfl, ⟨by decide, by decide⟩, _, 40692, rfl, rfl, mx2 y1, _, rfl, rfl, .inl ⟨by omega, by omega⟩, .inl ⟨_, rfl, _, 2147483399, rfl, rfl, (show (0 : Int) < 2147483399 by decide), k' H (Ex.refl _)⟩⟩
/-! _law_draw -/
def spDraw : Sp := fun vs H Q _ => ∃ (G : Hp) (p q : Addr) (z : Int), vs = [.ref p, .int z] ∧ Pm G H p q ∧ 0 < z ∧ z ≤ 1000000000 ∧ ∀ H' (i : Int), Pm G H' p q → 0 ≤ i → i < z → Q (.int i) H'
abbrev sDraw : Stmt := top 33
abbrev nDraw : List Str := ["_law_pool_here", "_law_limit", "_law_drawn", "_law_cell", "_law_fresh"]
theorem scDraw : FnScope nDraw ["_law_pool_here", "_law_limit"] (defScope sDraw) := ⟨rfl, rfl, rfl, by decide +kernel, rfl, by decide +kernel, by decide +kernel⟩
theorem ok_draw (B : Bl mg) (C : Cal P w K mg base "_law_mixed" ["_law_cell", "_law_many"] 1 spMixed) (F : FnP K "_law_draw" sDraw f fd) : FnOk P w K mg base CX0 2 f fd ["_law_pool_here", "_law_limit"] spDraw := by
  refine F.ok scDraw (fun vs H Q E h => ?_) (fun cdv A outer s H vs Q E hr h => ?_)
  · obtain ⟨G, p, q, z, rfl, _⟩ := h
    rfl
  · obtain ⟨G, p, q, z, rfl, hP, hz, hz2, k⟩ := h
    refine ⟨_, pss_cons (ps_asg (pe_op op_add (pe_ix ix_list (pv 0) pe_int (fun _ _ => rfl)) pe_int) (pg_sub (pv 0) pe_int set_list))
      (pss_cons (ps_if (pt_cmpR op_ge (pe_ix ix_list (pv 0) pe_int (fun _ _ => rfl)) (pv 1) (nomark _))
          (pss_cons (ps_set (i := 2) scDraw.nd rfl (Or.inl rfl) (pe_op op_mod (pe_callTy call_int1 (by rfl) B.int PyProof.Rows.boot_int (pa_cons (pe_ix ix_list (pv 0) pe_int (fun _ _ => rfl)) pa_nil)) (pv 1)))
          (pss_cons (ps_asg (pe_op op_fdiv (pe_ix ix_list (pv 0) pe_int (fun _ _ => rfl)) (pv 1)) (pg_sub (pv 0) pe_int set_list))
          (pss_one (ps_ret (pv 2))))) pss_nil)
      (pss_cons (ps_set (i := 3) scDraw.nd rfl (Or.inl rfl) pe_int)
      (pss_cons (ps_set (i := 4) scDraw.nd rfl (Or.inl rfl) (pe_cmpR op_lt (pe_ix ix_list (pv 0) pe_int (fun _ _ => rfl)) (pe_callB call_len_seq (by rfl) B.len PySem.boot_len (pa_cons (pe_ix ix_list (pv 0) pe_int (fun _ _ => rfl)) pa_nil)) (nomark _)))
      (pss_cut (ps_if (pt_cmpR op_gt (pe_callB call_len_seq (by rfl) B.len PySem.boot_len (pa_cons (pe_ix ix_list (pv 0) pe_int (fun _ _ => rfl)) pa_nil)) pe_int (nomark _))
          (pss_one (ps_set (i := 3) scDraw.nd rfl (Or.inl rfl) (pe_callB call_abs (by rfl) B.abs boot_abs (pa_cons (pe_ix ix_list (pe_ix ix_list (pv 0) pe_int (fun _ _ => rfl)) (pe_op op_mod (pe_callTy call_int1 (by rfl) B.int PyProof.Rows.boot_int (pa_cons (pe_ix ix_list (pv 0) pe_int (fun _ _ => rfl)) pa_nil)) (pe_callB call_len_seq (by rfl) B.len PySem.boot_len (pa_cons (pe_ix ix_list (pv 0) pe_int (fun _ _ => rfl)) pa_nil))) (fun _ _ => rfl)) pa_nil)))) pss_nil)
      (pss_cons (ps_asg (pe_op op_add (pe_ix ix_list (pv 0) pe_int (fun _ _ => rfl)) pe_int) (pg_sub (pv 0) pe_int set_list))
      (pss_cons (ps_asg pe_int (pg_sub (pv 0) pe_int set_list))
      (pss_cons (ps_if (PW.pt (pw_and (pt_val (pv 4)) (pw_and1 (pt_cmpR op_ge (pv 3) (pe_op op_pow pe_int pe_int) (nomark _)))))
          (pss_cons (ps_asg (pe_op op_fdiv (pv 3) (pv 1)) (pg_sub (pv 0) pe_int set_list))
          (pss_one (ps_ret (pe_op op_mod (pe_callTy call_int1 (by rfl) B.int PyProof.Rows.boot_int (pa_cons (pv 3) pa_nil)) (pv 1))))) pss_nil)
      (pss_one (ps_ret (pe_op op_mod (pe_callTy call_int1 (by rfl) B.int PyProof.Rows.boot_int (pa_cons (pe_op op_fdiv (pe_cal C hr (by rfl) (pa_cons (pv 3) (pa_cons (pe_ix ix_list (pv 0) pe_int (fun _ _ => rfl)) pa_nil))) pe_int) pa_nil)) (pv 1))))))))))), ?_⟩
    obtain ⟨cs, gq, hcs⟩ := hP.gq
    obtain ⟨a, b, c, hp, ha, hb, hc⟩ := hP.at_
    have hzz : z < 2 ^ 30 := by omega
    refine ⟨.ref p, rfl, p, _, 3, .int c, rfl, rfl, sq_of hp, rfl, c, 1, rfl, rfl, .ref p, rfl, p, _, 3, 3, rfl, rfl, hp, rfl, ?_⟩
    have hpa : (upd H p (.lst ([V.ref q, .int a, .int b, .int c].set 3 (.int (c + 1))))) p = some (.lst [.ref q, .int a, .int b, .int (c + 1)]) := upd_same
    have hPa : Ex G (upd H p (.lst ([V.ref q, .int a, .int b, .int c].set 3 (.int (c + 1))))) := Ex.mut hP.ex hP.gp
    generalize upd H p (.lst ([V.ref q, .int a, .int b, .int c].set 3 (.int (c + 1)))) = H1 at *
    have hc1 : 0 ≤ c + 1 := by omega
    generalize c + 1 = c' at *
    have hq1 := hPa _ _ gq
    refine q_when (b := decide (z ≤ b)) (et_test (ev_op (r := rI0 fun i j => .bl (decide (j ≤ i))) (x := .int b) (y := .int z) (ev_op (ev_var rfl) ev_c (rv_ixL (K := K) (i := 2) (sq_of hpa) rfl)) (ev_var rfl) rv_I0)) (fun hbz H2 e2 => ?_) (fun hbz H2 e2 => ?_)
    · have hp2 := e2 _ _ hpa
      have m := modP b z hz
      refine ⟨.ref p, rfl, p, _, 2, .int b, rfl, rfl, sq_of hp2, rfl, .inl ⟨b, rfl, .int z, rfl, b, z, rfl, rfl, hz, ?_⟩⟩
      refine g_name ?_
      dsimp only
      refine ⟨.ref p, rfl, p, _, 2, .int b, rfl, rfl, sq_of hp2, rfl, .int z, rfl, b, z, rfl, rfl, ⟨hz, by omega⟩, .ref p, rfl, p, _, 2, 2, rfl, rfl, hp2, rfl, ?_⟩
      refine ⟨_, rfl, k _ _ ⟨Ex.mut (hPa.trans e2) hP.gp, hP.gp, hP.gq, _, _, _, upd_same, ha, ?_, hc1⟩ m.1 m.2⟩
      exact Int.ediv_nonneg hb (by omega)
    · have hp2 := e2 _ _ hpa
      have hq2 := e2 _ _ hq1
      have hP2 := hPa.trans e2
      refine q_c ?_
      refine q_asg (v := .bl (decide (a < (cs.length : Int)))) (by
        have z := ev_len (K := K) (ta := tOp (rIxL K) (tVar 0) (tC (.int 0))) (σ := [some (.ref p), some (.int z), none, some (.int 0), none]) (H := H2) (ev_op (ev_var rfl) ev_c (rv_ixL (K := K) (i := 0) (sq_of hp2) rfl)) (sq_of hq2)
        rw [List.length_map] at z
        exact ev_op (r := rI0 fun i j => .bl (decide (i < j))) (ev_op (ev_var rfl) ev_c (rv_ixL (K := K) (i := 1) (sq_of hp2) rfl)) z rv_I0) fun H3 e3 => ?_
      have hp3 := e3 _ _ hp2
      have hq3 := e3 _ _ hq2
      have hP3 := hP2.trans e3
      generalize decide (a < (cs.length : Int)) = fr
      change tCut _ _ _ [some (.ref p), some (.int z), none, some (.int 0), some (.bl fr)] H3
      refine q_cut (M := fun σ' H' => ∃ v : Int, 0 ≤ v ∧ σ' = [some (.ref p), some (.int z), none, some (.int v), some (.bl fr)] ∧ Ex H3 H') ?_ ?_
      · refine s_when (b := decide (0 < (cs.length : Int))) (et_test (by
          have z := ev_len (K := K) (ta := tOp (rIxL K) (tVar 0) (tC (.int 0))) (σ := [some (.ref p), some (.int z), none, some (.int 0), some (.bl fr)]) (H := H3) (ev_op (ev_var rfl) ev_c (rv_ixL (K := K) (i := 0) (sq_of hp3) rfl)) (sq_of hq3)
          rw [List.length_map] at z
          exact ev_op (r := rI0 fun i j => .bl (decide (j < i))) z ev_c rv_I0)) (fun h0 H4 e4 => ?_) (fun _ H4 e4 => ⟨0, by decide, rfl, e4⟩)
        have h0 := of_decide_eq_true h0
        have hp4 := e4 _ _ hp3
        have hq4 := e4 _ _ hq3
        have m := modP a (cs.length : Int) h0
        obtain ⟨j, hj⟩ : ∃ j : Nat, a % (cs.length : Int) = (j : Int) := ⟨(a % (cs.length : Int)).toNat, by omega⟩
        have hjl : j < cs.length := by omega
        have hcj : (cs.map V.int)[j]? = some (.int cs[j]) := by rw [List.getElem?_map, List.getElem?_eq_getElem hjl]; rfl
        generalize cs[j] = v at *
        refine ⟨.ref p, rfl, p, _, 0, .ref q, rfl, rfl, sq_of hp4, rfl, .ref p, rfl, p, _, 1, .int a, rfl, rfl, sq_of hp4, rfl, .inl ⟨a, rfl, .ref p, rfl, p, _, 0, .ref q, rfl, rfl, sq_of hp4, rfl, q, _, rfl, .inl (sq_of hq4), a, _, rfl, rfl, by rw [List.length_map]; exact h0, ?_⟩⟩
        rw [List.length_map]
        dsimp only
        rw [hj]
        refine ⟨q, _, (j : Int), .int v, rfl, rfl, sq_of hq4, atI_nat hcj, v, rfl, ?_⟩
        refine g_name ⟨_, ?_, rfl, e4⟩
        split <;> omega
      · rintro σ' H4 ⟨v, hv, rfl, e4⟩
        have hp4 := e4 _ _ hp3
        have hP4 := hP3.trans e4
        refine ⟨.ref p, rfl, p, _, 1, .int a, rfl, rfl, sq_of hp4, rfl, a, 1, rfl, rfl, .ref p, rfl, p, _, 1, 1, rfl, rfl, hp4, rfl, ?_⟩
        have hp5 : (upd H4 p (.lst ([V.ref q, .int a, .int b, .int c'].set 1 (.int (a + 1))))) p = some (.lst [.ref q, .int (a + 1), .int b, .int c']) := upd_same
        have hP5 : Ex G (upd H4 p (.lst ([V.ref q, .int a, .int b, .int c'].set 1 (.int (a + 1))))) := Ex.mut hP4 hP.gp
        generalize upd H4 p (.lst ([V.ref q, .int a, .int b, .int c'].set 1 (.int (a + 1)))) = H5 at *
        refine ⟨.ref p, rfl, p, _, 2, 2, rfl, rfl, hp5, rfl, ?_⟩
        have hp6 : (upd H5 p (.lst ([V.ref q, .int (a + 1), .int b, .int c'].set 2 (.int 0)))) p = some (.lst [.ref q, .int (a + 1), .int 0, .int c']) := upd_same
        have hP6 : Ex G (upd H5 p (.lst ([V.ref q, .int (a + 1), .int b, .int c'].set 2 (.int 0)))) := Ex.mut hP5 hP.gp
        generalize upd H5 p (.lst ([V.ref q, .int (a + 1), .int b, .int c'].set 2 (.int 0))) = H6 at *
        have ha1 : 0 ≤ a + 1 := by omega
        generalize a + 1 = a' at *
        refine q_when (b := fr && decide ((10 : Int) ^ (18 : Int).toNat ≤ v)) (et_and (et_B (ev_var rfl)) fun _ => et_test fun H7 e7 Q7 q7 => ⟨.int v, rfl, 10, 18, rfl, rfl, ⟨by decide, by decide, by decide⟩, v, _, rfl, rfl, q7 H7 (Ex.refl _)⟩) (fun _ H7 e7 => ?_) (fun _ H7 e7 => ?_)
        · have hp7 := e7 _ _ hp6
          have m := modP v z hz
          refine ⟨.int v, rfl, .int z, rfl, v, z, rfl, rfl, ⟨hz, by omega⟩, .ref p, rfl, p, _, 2, 2, rfl, rfl, hp7, rfl, ?_⟩
          refine ⟨.int v, rfl, .inl ⟨v, rfl, .int z, rfl, v, z, rfl, rfl, hz, k _ _ ⟨Ex.mut (hP6.trans e7) hP.gp, hP.gp, hP.gq, _, _, _, upd_same, ha1, Int.ediv_nonneg hv (by omega), hc1⟩ m.1 m.2⟩⟩
        · have hp7 := e7 _ _ hp6
          refine ⟨.int v, rfl, .ref p, rfl, p, _, 3, .int c', rfl, rfl, sq_of hp7, rfl, .int (mixI v c'), ⟨v, c', rfl, rfl⟩, fun H8 e8 => ?_⟩
          have m := modP (mixI v c' / 16) z hz
          refine ⟨_, 16, rfl, rfl, ⟨by decide, by decide⟩, .inl ⟨_, rfl, .int z, rfl, _, z, rfl, rfl, hz, k _ _ ⟨(hP6.trans e7).trans e8, hP.gp, hP.gq, _, _, _, e8 _ _ hp7, ha1, by decide, hc1⟩ m.1 m.2⟩⟩
/-- a draw, as a call -/
theorem ev_draw {G H : Hp} {p q : Addr} {z : Int} {Q : VK} (h : Pm G H p q) (hz : 0 < z) (hz2 : z ≤ 1000000000) (k : ∀ H' (i : Int), Pm G H' p q → Of1 p H H' → 0 ≤ i → i < z → Q (.int i) H') (E : XK) : spDraw [.ref p, .int z] H Q E :=
  ⟨Hd1 H p, p, q, z, rfl, h.hd, hz, hz2, fun H' i hP h0 h1 => k H' i (h.back hP) hP.off h0 h1⟩
end
end Wk


set_option Elab.async false
set_option linter.all false
set_option maxRecDepth 100000
set_option maxHeartbeats 2000000
namespace Wk
open L2 PySem PySem.Spec PyProof.Rows
section
variable {X : Cx}
/-- one entry more by a comprehension, in a dict of either kind of keys -/
theorem put_dp {ps : List (Addr × Obj)} {σ : L2.St} {H Hn : Hp} {s : Shared} {D : Addr} {y z : V} {u r : Value}
    {E : Value → Shared → Prop} {Q : Unit → Shared → Prop} (hu : X.A.units < cLine) (I : Inv X ps σ H s)
    (g : DPut H D y z Hn) (ry : L2.RelV y u) (rz : L2.RelV z r) (h : ∀ s', Inv X ps σ Hn s' → Q () s') :
    wpAny (model X.prog X.w) X.A (dictSet D u r) Q E s := by
  rcases g with ⟨kvs, k, e, rfl, l, rfl⟩ | ⟨kvs, k, b, e, rfl, eb, l, rfl⟩
  · exact d_dictSet I e l ry rz h
  · obtain rfl : u = Value.ref b := ry
    obtain ⟨z1, nd, xs, rel, dd⟩ := dt_of I.hok e
    have l1 := length_putK kvs k z
    refine wpAny_dictSet_heap (hsz := by rw [← Paired.length rel]; exact z1) hu (key_of I.hok eb) dd
      fun h1 d1 sb => h _ ?_
    obtain ⟨q, es, ep, hq, a1, a2, a3, _, a4⟩ := d1
    refine d_write I (by rw [e]; trivial) sb ⟨q, hq⟩ ⟨by omega, nd, _, (rel.put k eb rz).keeps ?_, q, es, ep, hq, a1, a2, a3, a4⟩
    intro c ys ec
    exact (upd_ne (ne_of ec e (by intro z; cases z))).trans ec
end
/-- what one item does: the target, the tests, then key, value and the entry -/
def dqStep (g : TG) (tt : TT) (tk tv : TE) (vs : List Nat) (D : Addr) (Nx : Hp → Prop) (σ : L2.St) (x : V) (H : Hp) : Prop :=
  g x (wipe σ vs) H fun σa Ha => wipe σa vs = wipe σ vs ∧ tt σa Ha fun b Hb =>
    if b = true then tk σa Hb fun y Hc => tv σa Hc fun z Hd => ∃ Hn, DPut Hd D y z Hn ∧ Nx Hn
    else Nx Hb
/-- the walk of such a comprehension by a measure -/
def dqWalk (J : It) (step : (Hp → Prop) → V → Hp → Prop) (Qs : Hp → Prop) (W : Nat → Nat → Hp → Prop) : Prop :=
  ∀ i m H, W i m H → (J.stop i H ∧ Qs H) ∨
    (J.go i H ∧ ∃ Nx : Hp → Prop, (∀ Ha, Nx Ha → ∃ k, k < m ∧ W (i + 1) k Ha) ∧ ∀ x Ha, J.yld i H x Ha → step Nx x Ha)
theorem dq_loop {Y : Cx} {σ : L2.St} {vs : List Nat} {R : Result → Shared → Prop} {J : It} {fp : List Addr} {it D : Addr}
    {tn : Nat → Heap → Prop} {kx vx tg iter : Expr} {ifs : List Expr} {scope : Scope} {pos : Pos} {g : TG} {tt : TT} {tk tv : TE}
    {W : Nat → Nat → Hp → Prop} {Qs : Hp → Prop} (hc : Y.calm = true) (hx : Y.xe = fun _ _ => False) (hu : Y.A.units < cLine)
    (T : Turn Y.prog Y.w Y.K tg J fp it tn) (pg : PG Y tg g) (pt : PTs Y ifs tt) (pk : PE Y kx tk) (pv : PE Y vx tv)
    (own : ∀ {σ' : L2.St} {H' : Hp} {s' : Shared}, Inv Y [] σ' H' s' → (∀ b ∈ fp, H' b = none) → ∀ b ∈ fp, FpOk Y [] H' b)
    (walk : dqWalk J (fun Nx x H => dqStep g tt tk tv vs D Nx σ x H) Qs W)
    (last : ∀ H s, Inv Y [] (wipe σ vs) H s → Qs H → R (.ok .next) s)
    {m : Nat} {H : Hp} {s : Shared} (I : Inv Y [] (wipe σ vs) H s) (st : tn 0 s.heap) (nf : ∀ b ∈ fp, H b = none) (w : W 0 m H) :
    codeAny (model Y.prog Y.w) Y.A
      (.compLoop (.DictComp kx vx [⟨tg, iter, ifs, 0⟩] scope pos) 0 (.ref it) (.ref D) Y.env) R s := by
  refine compLoop_anyD (fun k s1 => ∃ i H1, Inv Y [] (wipe σ vs) H1 s1 ∧ tn i s1.heap ∧ (∀ b ∈ fp, H1 b = none) ∧ W i k H1)
    (fun k s1 hk => ?_) m ⟨0, H, I, st, nf, w⟩
  obtain ⟨i, H1, I1, st1, nf1, w1⟩ := hk
  cases walk i k H1 w1 with
  | inl e =>
    refine thnF (T.done Y rfl rfl rfl hc i [] s1 _ H1 (fun _ _ => False) I1 (own I1 nf1) st1 e.1) ?_
    rintro _ s2 ⟨rfl, I2⟩
    exact last H1 s2 I2 e.2
  | inr e =>
    obtain ⟨go, Nx, less, step⟩ := e
    refine thnF (T.item Y rfl rfl rfl hc i [] s1 _ H1 (fun _ _ => False) I1 (own I1 nf1) st1 go) ?_
    rintro _ s2 ⟨u, rfl, it2⟩
    refine thnF it2 ?_
    rintro _ s3 ⟨x, H3, I3, rx, yx, st3, nf3⟩
    have pin := I3.pinned (own I3 nf3) (T.obj _ _ st3)
    have t1 := pg.run _ s3 _ H3 x u _ pin rx (step x H3 yx)
    rw [hx] at t1
    refine thnF t1 ?_
    rintro _ s4 ⟨σ4, H4, I4, ew, q4⟩
    have back : ∀ {s9 : Shared} {H9 : Hp}, Inv Y ([] ++ pinsAt fp s3.heap) σ4 H9 s9 → Nx H9 →
        ∃ j, j < k ∧ ∃ i' H', Inv Y [] (wipe σ vs) H' s9 ∧ tn i' s9.heap ∧ (∀ b ∈ fp, H' b = none) ∧ W i' j H' := by
      intro s9 H9 I9 nx
      obtain ⟨j, lt, wj⟩ := less H9 nx
      have same : ∀ b ∈ fp, ∀ o, s3.heap.get? b = some o → s9.heap.get? b = some o ∧ H9 b = none := by
        intro b hb o eo
        have a := I9.pin (b, o) (List.mem_append_right _ (List.mem_append_right _ (mem_pinsAt hb eo)))
        exact ⟨a.1, a.2.1⟩
      refine ⟨j, lt, i + 1, H9, ?_, T.keep _ _ _ st3 fun b hb o eo => (same b hb o eo).1, ?_, wj⟩
      · refine (I9.unpinned (pins := [])).weak (by rw [← ew, wipe_length]) ?_
        intro n v en
        rw [← ew] at en
        exact (wipe_some en).1
      · intro b hb
        obtain ⟨o, eo, _⟩ := T.obj _ _ st3 b hb
        exact (same b hb o eo).2
    have t2 := pt.run _ s4 σ4 H4 _ I4 q4
    rw [hx] at t2
    refine thnF t2 ?_
    rintro b s5 ⟨H5, I5, q5⟩
    cases b with
    | false => exact back I5 q5
    | true =>
      have t3 := pk.run _ s5 σ4 H5 _ I5 q5
      rw [hx] at t3
      refine thnF t3 ?_
      rintro ky s6 ⟨y, H6, I6, ry, q6⟩
      have t4 := pv.run _ s6 σ4 H6 _ I6 q6
      rw [hx] at t4
      refine thnF t4 ?_
      rintro vy s7 ⟨z, H7, I7, rz, Hn, put, nx⟩
      exact put_dp hu I7 put ry rz fun s8 I8 => back I8 nx
/-- {k: v for .. in .. if ..}, keys tuples -/
def tDq (wi : TI) (g : TG) (tt : TT) (tk tv : TE) (vs : List Nat) : TE := fun σ H Q => wi σ H fun J H1 => ∀ D, H1 D = none →
  ∃ W : Nat → Nat → Hp → Prop, (∃ m, W 0 m (upd H1 D (.dT []))) ∧
    dqWalk J (fun Nx x Ha => dqStep g tt tk tv vs D Nx σ x Ha) (fun Ha => Q (.ref D) Ha) W
/-- the context of the block -/
abbrev Bq (X : Cx) (scope : Scope) (s : Shared) (H : Hp) (C : Addr) (cl : List (Str × Addr)) (fp : List Addr) : Cx :=
  X.blk s H scope (compEnvC scope cl C X.env) fp
theorem pe_dq {X : Cx} {kx vx tg iter : Expr} {ifs : List Expr} {scope : Scope} {own : List (Str × Nat)} {pos : Pos}
    {wi : TI} {g : TG} {tt : TT} {tk tv : TE} (hc : X.calm = true) (hu : X.A.units + 1 < cLine) (hN : X.N.Nodup)
    (hi : PI X tg iter wi) (ok : BlkOk X.N X.env.scope scope own) (hg : ∀ s H C cl fp, PG (Bq X scope s H C cl fp) tg g)
    (ht : ∀ s H C cl fp, PTs (Bq X scope s H C cl fp) ifs tt) (hk : ∀ s H C cl fp, PE (Bq X scope s H C cl fp) kx tk)
    (he : ∀ s H C cl fp, PE (Bq X scope s H C cl fp) vx tv) (hs : ∀ x, foldedSetIterable iter X.env x = pure x := by intro _; rfl) :
    PE X (.DictComp kx vx [⟨tg, iter, ifs, 0⟩] scope pos) (tDq wi g tt tk tv (own.map (·.2))) := by
  constructor
  intro ps s σ H Q I h
  rw [arm_eval_DictComp]
  have look : ∀ y ∈ scope.names, y.2 = .free → ∃ c, X.env.cells.lookup y.1 = some c := by
    intro y hy e
    exact I.ok.has _ (ok.free y hy e)
  refine wpAny_comprehension_free (use := none) rfl hs (closure_ok look) ok.kind (fun y hy e => (ok.uniq y hy).trans (by rw [e])) ?_
  refine thn (hi.run ps s σ H _ I h) ?_
  intro xv s1 h1
  refine thn h1 ?_
  rintro _ s2 ⟨it, fp, tn, J, H2, rfl, I2, T, st2, f2, q⟩
  refine wpAny_newObj_type ?_
  refine newEnv_comp ?_
  obtain ⟨D, hD⟩ : ∃ D, D = s2.heap.objs.size := ⟨_, rfl⟩
  rw [← hD]
  obtain ⟨W, ⟨m0, w0⟩, walk⟩ := q D (I2.hok.fresh (Nat.le_of_eq hD.symm))
  obtain ⟨s3, e3⟩ : ∃ s3 : Shared, s3 = { s2 with heap := s2.heap.push { cls := .type "dict", data := .dict #[] } } := ⟨_, rfl⟩
  have g3 : ∀ b o, s2.heap.get? b = some o → s3.heap.get? b = some o := by
    intro b o e
    rw [e3]
    exact Heap.get?_push_of_some _ (by exact e)
  have I3 : Inv X ps σ (upd H2 D (.dT [])) s3 := by
    rw [e3, hD]
    exact I2.laid (t' := s2.toks) (fun b o e => Heap.get?_push_of_some _ e) (Nat.le_refl _) (dt_empty s2.heap I2.big)
  rw [← e3]
  obtain ⟨H3, eH3⟩ : ∃ H3, H3 = upd H2 D (.dT []) := ⟨_, rfl⟩
  rw [← eH3] at I3 w0
  have f3 : ∀ b ∈ fp, FpOk X ps H3 b ∧ b < s3.heap.objs.size := by
    intro b hb
    obtain ⟨o, e, _⟩ := T.obj 0 _ st2 b hb
    refine ⟨⟨?_, (f2 b hb).2⟩, Heap.lt_size (g3 b o e)⟩
    rw [eH3, upd_ne (by rw [hD]; exact Nat.ne_of_lt (Heap.lt_size e))]
    exact (f2 b hb).1
  have st3 : tn 0 s3.heap := T.keep _ _ _ st2 fun b _ o e => g3 b o e
  have Ib := block_start I3 ok hN f3
  obtain ⟨C, hC⟩ : ∃ C, C = s3.heap.objs.size := ⟨_, rfl⟩
  rw [← hC] at Ib ⊢
  obtain ⟨cl, ecl⟩ : ∃ cl, cl = cellsFrom (C + 1) scope.names (cloFrom X.env.cells scope.names []) := ⟨_, rfl⟩
  rw [← ecl] at Ib ⊢
  have st4 : tn 0 (pushCells (s3.heap.push { cls := .type "dict", data := .dict #[] }) scope.names) := T.keep _ _ _ st3 fun b _ o e =>
    pushCells_keeps _ _ _ _ (Heap.get?_push_of_some _ e)
  have loop : codeAny (model X.prog X.w) X.A
      (.compLoop (.DictComp kx vx [⟨tg, iter, ifs, 0⟩] scope pos) 0 (.ref it) (.ref D) (compEnvC scope cl C X.env))
      (compPost (model X.prog X.w) X.A X.xe none (EP X ps σ Q) (.ref D) C)
      { s3 with heap := pushCells (s3.heap.push { cls := .type "dict", data := .dict #[] }) scope.names } := by
    refine dq_loop (Y := Bq X scope s3 H3 C cl fp) (σ := σ) hc rfl (Nat.lt_of_succ_lt hu) T (hg s3 H3 C cl fp)
      (ht s3 H3 C cl fp) (hk s3 H3 C cl fp) (he s3 H3 C cl fp) ?_ walk ?_ Ib st4 (fun b hb => (f3 b hb).1.1) w0
    · intro σ' H' s' I' nf b hb
      refine ⟨nf b hb, (I'.ok.exf b hb).1, I'.ok.exfs b hb, .inl hb, fun x c e => (I'.ok.exf b hb).2 x c e, ?_⟩
      intro p hp
      exact absurd (show p ∈ ([] : List (Addr × Obj)) ++ [] from hp) (by simp)
    · intro H6 s6 I6 q6
      have I7 : Inv X ps σ H6 s6 := by
        refine I3.call' (ch := fp) I6.os I6.base I6.hok I6.bare ?_
        intro b hb
        obtain ⟨_, n1, _, n2, n3, n4⟩ := (f3 b hb).1
        exact ⟨n2, n1, n3, n4⟩
      obtain ⟨m, hn, _⟩ := I6.loc
      refine ⟨m, hn, fun h' sb => ?_⟩
      obtain ⟨n0, n1, n2, n3, n4, n5⟩ := I3.fpOk (b := C) (Nat.le_of_eq hC.symm) (show H6 C = none from I6.free)
      refine ⟨.ref D, H6, ?_, rfl, q6⟩
      exact I7.turned (t' := s6.toks) (fun b o hb e => (sb.2 b hb).trans e) n0 n1 n3 n4 n5
  exact codeAny_compStart_dict loop (T.self _ 0 _ _ _ st4 loop)
end Wk

set_option Elab.async false
set_option linter.all false
set_option maxRecDepth 100000
set_option maxHeartbeats 2000000
namespace Wk
open L2 PySem PySem.Spec PyProof.Rows Evl
/-- the items that a comprehension has put, item j of the source by Y j -/
def Grown (Y : Nat → V → Hp → Prop) (H : Hp) : List Nat → List V → Prop
  | [], us => us = []
  | j :: js, us => ∃ u r, us = u :: r ∧ Y j u H ∧ Grown Y H js r
def UpY (Y : Nat → V → Hp → Prop) : Prop := ∀ i u H H', Ex H H' → Y i u H → Y i u H'
theorem Grown.up {Y : Nat → V → Hp → Prop} (hY : UpY Y) {H H' : Hp} (e : Ex H H') : ∀ {js : List Nat} {us : List V}, Grown Y H js us → Grown Y H' js us
  | [], _, h => h
  | j :: js, _, ⟨u, r, h1, h2, h3⟩ => ⟨u, r, h1, hY j u H H' e h2, Grown.up hY e h3⟩
theorem Grown.snoc {Y : Nat → V → Hp → Prop} {H : Hp} {j : Nat} {u : V} (h : Y j u H) : ∀ {js : List Nat} {us : List V}, Grown Y H js us → Grown Y H (js ++ [j]) (us ++ [u])
  | [], _, h0 => by
    rw [show _ = [] from h0]
    exact ⟨u, [], rfl, h, rfl⟩
  | k :: js, _, ⟨v, r, h1, h2, h3⟩ => by
    subst h1
    exact ⟨v, r ++ [u], rfl, h2, Grown.snoc h h3⟩
theorem Grown.len {Y : Nat → V → Hp → Prop} {H : Hp} : ∀ {js : List Nat} {us : List V}, Grown Y H js us → us.length = js.length
  | [], _, h0 => by
    rw [show _ = [] from h0]
    rfl
  | k :: js, _, ⟨v, r, h1, h2, h3⟩ => by
    subst h1
    simp [Grown.len h3]
def upTo (f : Nat → Bool) (i : Nat) : List Nat := (List.range i).filter f
theorem upTo_yes {f : Nat → Bool} {i : Nat} (h : f i = true) : upTo f (i + 1) = upTo f i ++ [i] := by
  unfold upTo
  rw [List.range_succ, List.filter_append]
  simp [h]
theorem upTo_no {f : Nat → Bool} {i : Nat} (h : f i = false) : upTo f (i + 1) = upTo f i := by
  unfold upTo
  rw [List.range_succ, List.filter_append]
  simp [h]
theorem upTo_len (f : Nat → Bool) (i : Nat) : (upTo f i).length ≤ i := by
  unfold upTo
  have h := List.length_filter_le f (List.range i)
  rw [List.length_range] at h
  exact h
/-- what is evaluated is told by Y, the heap may grow -/
def EvY (te : TE) (σ : L2.St) (H : Hp) (Y : V → Hp → Prop) : Prop := ∀ H1, Ex H H1 → ∀ Q : VK, (∀ u H2, Ex H1 H2 → Y u H2 → Q u H2) → te σ H1 Q
def off (D : Addr) (H : Hp) : Hp := fun a => if a = D then none else H a
theorem off_ex {D : Addr} {H H' : Hp} (e : Ex H H') : Ex (off D H) (off D H') := fun a o h => by
  unfold off at h ⊢
  by_cases z : a = D
  · rw [if_pos z] at h
    cases h
  · rw [if_neg z] at h ⊢
    exact e a o h
theorem off_in (D : Addr) (H : Hp) : Ex (off D H) H := fun a o h => by
  unfold off at h
  split at h
  · cases h
  · exact h
theorem off_upd {D : Addr} {H : Hp} {o : HO} : off D (upd H D o) = off D H := by
  funext a
  unfold off upd
  split <;> rfl
theorem off_at {D a : Addr} {H : Hp} (h : a ≠ D) : off D H a = H a := by
  unfold off
  rw [if_neg h]
/-- a word of an item that outlives new objects and does not speak of lists -/
structure GoodY (Y : Nat → V → Hp → Prop) : Prop where
  up : UpY Y
  off : ∀ i u H D l, H D = some (.lst l) → Y i u H → Y i u (Wk.off D H)
def Gw (Y : Nat → V → Hp → Prop) (H : Hp) (f : Nat → Bool) (D : Addr) (i : Nat) (H' : Hp) : Prop :=
  H D = none ∧ Ex H H' ∧ ∃ us, H' D = some (.lst us) ∧ Grown Y (off D H') (upTo f i) us
theorem gw_turn {Y : Nat → V → Hp → Prop} (hY : GoodY Y) {H H' : Hp} {f : Nat → Bool} {D : Addr} {i : Nat} {t : TT} {te : TE} {σ2 : L2.St} (p : Gw Y H f D i H') (hi : i < 50000)
    (ht : EvT t σ2 H' (f i)) (he : f i = true → EvY te σ2 H' (Y i)) :
    t σ2 H' fun b H3 => if b = true then te σ2 H3 fun y H4 => ∃ acc, H4 D = some (.lst acc) ∧ acc.length < sizeLine ∧ Gw Y H f D (i + 1) (upd H4 D (.lst (acc ++ [y])))
      else Gw Y H f D (i + 1) H3 := by
  obtain ⟨p1, p2, us, p3, p4⟩ := p
  refine ht H' (Ex.refl _) _ fun H3 e3 => ?_
  cases hf : f i with
  | false =>
    refine ⟨p1, p2.trans e3, us, e3 _ _ p3, ?_⟩
    rw [upTo_no hf]
    exact p4.up hY.up (off_ex e3)
  | true =>
    refine he hf H3 e3 _ fun u H4 e4 y => ?_
    have d4 := e4 _ _ (e3 _ _ p3)
    have l1 := p4.len
    have l2 := upTo_len f i
    refine ⟨us, d4, sz_lt (by omega), p1, Ex.mut ((p2.trans e3).trans e4) p1, us ++ [u], upd_same, ?_⟩
    rw [upTo_yes hf, off_upd]
    exact Grown.snoc (hY.off i u H4 D us d4 y) (p4.up hY.up (off_ex (e3.trans e4)))
/-- a list comprehension whose items may be new objects -/
theorem grow_lc {J : It} {n : Nat} {Gd : Hp → Prop} {Yx : Nat → V → Prop} {Y : Nat → V → Hp → Prop} {j : Nat} {vs : List Nat} {σ : L2.St} {H : Hp} {D : Addr} {Qd : Hp → Prop} {t : TT} {te : TE}
    (w : Walk J n Gd (fun i H x H' => H' = H ∧ Yx i x)) (hY : GoodY Y) (f : Nat → Bool) (hD : H D = none) (hn : n ≤ 40000) (hG : ∀ H', Ex H H' → Gd H') (hw : ∀ x, wipe ((wipe σ vs).set j (some x)) vs = wipe σ vs)
    (ht : ∀ i x H', Ex H H' → i < n → Yx i x → EvT t ((wipe σ vs).set j (some x)) H' (f i)) (he : ∀ i x H', Ex H H' → i < n → Yx i x → f i = true → EvY te ((wipe σ vs).set j (some x)) H' (Y i))
    (hq : ∀ us H', Ex H H' → H' D = some (.lst us) → Grown Y H' (upTo f n) us → Qd H') :
    ∃ W : Nat → Nat → Hp → Prop, (∃ m, W 0 m (upd H D (.lst []))) ∧ ∀ i m H, W i m H →
      (J.stop i H ∧ Qd H) ∨ (J.go i H ∧ ∃ Nx : Hp → Prop, (∀ H', Nx H' → ∃ m', m' < m ∧ W (i + 1) m' H') ∧ ∀ x H', J.yld i H x H' → gName j x (wipe σ vs) H' fun σ2 H2 => wipe σ2 vs = wipe σ vs ∧ t σ2 H2 fun b H3 =>
        if b = true then te σ2 H3 fun y H4 => ∃ acc, H4 D = some (.lst acc) ∧ acc.length < sizeLine ∧ Nx (upd H4 D (.lst (acc ++ [y]))) else Nx H3) := by
  refine lc_it w (Gw Y H f D) ⟨hD, Ex.new hD, [], upd_same, rfl⟩ (fun i H' _ p => hG H' p.2.1) (fun i x H' H2 hi p y => ?_) (fun H' p => ?_)
  · obtain ⟨rfl, yx⟩ := y
    exact ⟨hw x, gw_turn hY p (by omega) (ht i x _ p.2.1 hi yx) (fun hf => he i x _ p.2.1 hi yx hf)⟩
  · obtain ⟨_, e, us, d, g⟩ := p
    exact hq us H' e d (g.up hY.up (off_in D H'))
/-- the keys of a dict are the first i of k, each with True -/
def KHas (k : Nat → List L2.Key) (i : Nat) (kvs : List (List L2.Key × V)) : Prop :=
  ∀ q, (valV kvs q = some (V.bl true) ∧ ∃ j, j < i ∧ k j = q) ∨ (valV kvs q = none ∧ ∀ j, j < i → k j ≠ q)
/-- the keys that a comprehension has put -/
def Kw (k : Nat → List L2.Key) (H : Hp) (D : Addr) (i : Nat) (H' : Hp) : Prop :=
  H D = none ∧ Ex H H' ∧ ∃ kvs, H' D = some (.dT kvs) ∧ kvs.length ≤ i ∧ KHas k i kvs
/-- {x: True for x in ..}, of tuples of whole numbers or texts -/
theorem grow_dq {J : It} {n : Nat} {Gd : Hp → Prop} {Yx : Nat → V → Prop} {k : Nat → List L2.Key} {j : Nat} {vs : List Nat} {σ : L2.St} {H : Hp} {D : Addr} {Qd : Hp → Prop} {tk tv : TE}
    (w : Walk J n Gd (fun i H x H' => H' = H ∧ Yx i x)) (hD : H D = none) (hn : n ≤ 40000) (hG : ∀ H', Ex H H' → Gd H') (hw : ∀ x, wipe ((wipe σ vs).set j (some x)) vs = wipe σ vs)
    (hk : ∀ i x H', Ex H H' → i < n → Yx i x → EvY tk ((wipe σ vs).set j (some x)) H' (fun u H2 => ∃ b, u = .ref b ∧ H2 b = some (.tup ((k i).map kV))))
    (hv : ∀ i x H', Ex H H' → i < n → Yx i x → Ev tv ((wipe σ vs).set j (some x)) H' (.bl true))
    (hq : ∀ kvs H', Ex H H' → H' D = some (.dT kvs) → KHas k n kvs → Qd H') :
    ∃ W : Nat → Nat → Hp → Prop, (∃ m, W 0 m (upd H D (.dT []))) ∧ dqWalk J (fun Nx x Ha => dqStep (gName j) tYes tk tv vs D Nx σ x Ha) Qd W := by
  refine ⟨fun i m H' => m = n - i ∧ i ≤ n ∧ Kw k H D i H', ⟨n, by simp, Nat.zero_le _, hD, Ex.new hD, [], upd_same, Nat.le_refl _, fun q => .inr ⟨rfl, fun j hj => absurd hj (Nat.not_lt_zero _)⟩⟩, ?_⟩
  rintro i m H1 ⟨rfl, hi, p1, p2, kvs, p3, p4, p5⟩
  by_cases lt : i < n
  · refine .inr ⟨w.goes i H1 lt (hG H1 p2), Kw k H D (i + 1), fun Ha q => ⟨n - (i + 1), by omega, rfl, lt, q⟩, fun x Ha y => ?_⟩
    obtain ⟨rfl, yx⟩ := w.yields i H1 x Ha lt (hG H1 p2) y
    refine ⟨hw x, ?_⟩
    show tk _ _ _
    refine hk i x _ p2 lt yx _ (Ex.refl _) _ fun u H2 e2 hu => ?_
    obtain ⟨b, rfl, hb⟩ := hu
    refine hv i x _ p2 lt yx H2 e2 _ fun H3 e3 => ?_
    have d3 := e3 _ _ (e2 _ _ p3)
    refine ⟨_, DPut.t d3 (e3 _ _ hb) (sz_lt (by omega)), p1, Ex.mut ((p2.trans e2).trans e3) p1, _, upd_same, ?_, fun q => ?_⟩
    · have := length_putK kvs (k i) (V.bl true)
      omega
    · rw [valV_put]
      by_cases e : q = k i
      · rw [if_pos e]
        exact .inl ⟨rfl, i, Nat.lt_succ_self i, e.symm⟩
      · rw [if_neg e]
        rcases p5 q with ⟨z, j', h1, h2⟩ | ⟨z, h2⟩
        · exact .inl ⟨z, j', by omega, h2⟩
        · refine .inr ⟨z, fun j' hj => ?_⟩
          rcases Nat.lt_succ_iff_lt_or_eq.mp hj with h3 | h3
          · exact h2 j' h3
          · subst h3
            exact fun z2 => e z2.symm
  · have e : i = n := by omega
    subst e
    exact .inl ⟨w.stops H1 (hG H1 p2), hq kvs H1 p2 p3 p5⟩
end Wk

set_option Elab.async false
set_option linter.all false
set_option maxRecDepth 100000
set_option maxHeartbeats 2000000
namespace Wk
open PySem PySem.Spec PyProof.Rows L2 Evl
theorem lay_ints : ∀ ns : List Int, PyData.canLayAll0 (ns.map PyData.int) = true
  | [] => by simp [PyData.canLayAll0]
  | n :: ns => by
    have h := lay_ints ns
    simp [PyData.canLayAll0, PyData.canLay0, h]
theorem depth_ints : ∀ ns : List Int, PyData.depthAll (ns.map PyData.int) = 0
  | [] => by simp [PyData.depthAll]
  | n :: ns => by
    have h := depth_ints ns
    simp [PyData.depthAll, PyData.depth, h]
theorem shaped_ints (ns : List Int) : SeqAt.shaped (.tuple (ns.map PyData.int)) = true := by
  unfold SeqAt.shaped
  have h1 := lay_ints ns
  have h2 := depth_ints ns
  simp [PyData.canLay0, PyData.depth, h1, h2]
theorem layAll : ∀ {ds : List PyData}, PyData.canLayAll0 ds = true ↔ ∀ d ∈ ds, d.canLay0 = true
  | [] => by simp [PyData.canLayAll0]
  | d :: ds => by
    have ih := layAll (ds := ds)
    simp [PyData.canLayAll0, ih]
theorem depAll {k : Nat} : ∀ {ds : List PyData}, PyData.depthAll ds ≤ k ↔ ∀ d ∈ ds, d.depth ≤ k
  | [] => by simp [PyData.depthAll]
  | d :: ds => by
    have ih := depAll (k := k) (ds := ds)
    simp only [PyData.depthAll, List.mem_cons, forall_eq_or_imp, ← ih]
    omega
theorem nd_snoc {α : Type} {l : List α} {x : α} (h : l.Nodup) (hx : x ∉ l) : (l ++ [x]).Nodup := by
  unfold List.Nodup
  rw [List.pairwise_append]
  refine ⟨h, List.pairwise_singleton _ _, fun a ha b hb => ?_⟩
  rw [List.mem_singleton] at hb
  intro e
  rw [← hb, ← e] at hx
  exact hx ha
theorem eraseIdx_mp {α β : Type} (f : α → β) : ∀ (l : List α) (k : Nat), (l.map f).eraseIdx k = (l.eraseIdx k).map f
  | [], _ => rfl
  | _ :: _, 0 => rfl
  | x :: l, k + 1 => by
    show f x :: (l.map f).eraseIdx k = f x :: (l.eraseIdx k).map f
    rw [eraseIdx_mp f l k]
theorem eqv_ints : ∀ a b : List Int, PyData.eqvAll (a.map PyData.int) (b.map PyData.int) = decide (a = b)
  | [], [] => by simp [PyData.eqvAll]
  | [], _ :: _ => by simp [PyData.eqvAll]
  | _ :: _, [] => by simp [PyData.eqvAll]
  | x :: a, y :: b => by
    have ih := eqv_ints a b
    simp only [List.map_cons, PyData.eqvAll, PyData.eqv, ih]
    by_cases h : x = y
    · subst h; simp
    · have : (x == y) = false := by simpa using h
      simp [this, h]
theorem inV_ints (x : Int) : ∀ ns : List Int, inV (.int x) (ns.map V.int) = decide (x ∈ ns)
  | [] => rfl
  | n :: ns => by
    have ih := inV_ints x ns
    unfold inV at *
    rw [List.map_cons, List.any_cons, ih]
    show ((n == x) || _) = _
    by_cases h : n = x
    · subst h; simp
    · have : (n == x) = false := by simpa using h
      rw [this]
      simp [Ne.symm h]
abbrev Wy := List Int
def wd (w : Wy) : PyData := .tuple (w.map PyData.int)
theorem eqv_wd (a b : Wy) : PyData.eqv (wd a) (wd b) = decide (a = b) := eqv_ints a b
theorem wd_ref {G : Hp} {v : V} {w : Wy} (h : Dq G v (wd w)) : ∃ a, v = .ref a ∧ G a = some (.tup (w.map V.int)) := by
  unfold wd at h
  cases h with
  | tup h1 h2 => exact ⟨_, rfl, by rw [h1, h2.int_inv]⟩
theorem wd_of {G : Hp} {a : Addr} {w : Wy} (h : G a = some (.tup (w.map V.int))) : Dq G (.ref a) (wd w) := .tup h (DqA.ints w)
theorem lay_wds (ws : List Wy) : PyData.canLayAll0 (ws.map wd) = true := layAll.mpr fun d hd => by
  obtain ⟨w, _, rfl⟩ := List.mem_map.mp hd
  simp [wd, PyData.canLay0, lay_ints]
theorem dep_wds (ws : List Wy) : PyData.depthAll (ws.map wd) ≤ 1 := depAll.mpr fun d hd => by
  obtain ⟨w, _, rfl⟩ := List.mem_map.mp hd
  simp [wd, PyData.depth, depth_ints]
theorem shaped_wds (ws : List Wy) : SeqAt.shaped (.list (ws.map wd)) = true := by
  unfold SeqAt.shaped
  have h1 := lay_wds ws
  have h2 := dep_wds ws
  have : decide ((PyData.list (ws.map wd)).depth ≤ 64) = true := decide_eq_true (by simp only [PyData.depth]; omega)
  rw [this]
  simp [PyData.canLay0, h1]
theorem any_wd (ws : List Wy) (x : Wy) : ((ws.map wd).any fun z => PyData.eqv z (wd x)) = decide (x ∈ ws) := by
  induction ws with
  | nil => rfl
  | cons a l ih =>
    rw [List.map_cons, List.any_cons, ih, eqv_wd]
    by_cases h : a = x
    · subst h; simp
    · rw [decide_eq_false h, Bool.false_or, decide_eq_decide]
      constructor
      · exact fun z => List.mem_cons_of_mem _ z
      · intro z
        rcases List.mem_cons.mp z with e | e
        · exact absurd e.symm h
        · exact e
theorem DqA.wds_inv {G : Hp} {ws : List Wy} {vs : List V} {i : Nat} {v : V} (h : DqA G vs (ws.map wd)) (e : vs[i]? = some v) : ∃ w, ws[i]? = some w ∧ Dq G v (wd w) := by
  obtain ⟨d, e1, e2⟩ := h.get e
  rw [List.getElem?_map] at e1
  cases hw : ws[i]? with
  | none => rw [hw] at e1; cases e1
  | some w =>
    rw [hw] at e1
    cases e1
    exact ⟨w, rfl, e2⟩
theorem DqA.set {G : Hp} {v : V} {d : PyData} (hv : Dq G v d) : ∀ {ds : List PyData} {vs : List V} (i : Nat), DqA G vs ds → DqA G (vs.set i v) (ds.set i d)
  | [], _, i, .nil => by simp; exact .nil
  | _ :: _, _, 0, .cons h t => .cons hv t
  | _ :: _, _, i + 1, .cons h t => .cons h (DqA.set hv i t)
theorem DqA.erase {G : Hp} : ∀ {ds : List PyData} {vs : List V} (i : Nat), DqA G vs ds → DqA G (vs.eraseIdx i) (ds.eraseIdx i)
  | [], _, i, .nil => by simp; exact .nil
  | _ :: _, _, 0, .cons h t => t
  | _ :: _, _, i + 1, .cons h t => .cons h (DqA.erase i t)
theorem DqA.perm {G : Hp} {us ys : List V} (h : ys.Perm us) : ∀ {ds : List PyData}, DqA G us ds → ∃ es, es.Perm ds ∧ DqA G ys es := by
  induction h with
  | nil => exact fun h => ⟨_, .refl _, h⟩
  | cons x h ih =>
    intro ds hd
    cases hd with
    | cons hv t =>
      obtain ⟨es, h1, h2⟩ := ih t
      exact ⟨_, h1.cons _, .cons hv h2⟩
  | swap x y l =>
    intro ds hd
    cases hd with
    | cons hx t =>
      cases t with
      | cons hy t => exact ⟨_, .swap _ _ _, .cons hy (.cons hx t)⟩
  | trans h1 h2 ih1 ih2 =>
    intro ds hd
    obtain ⟨es, a, b⟩ := ih2 hd
    obtain ⟨es2, c, d⟩ := ih1 b
    exact ⟨es2, c.trans a, d⟩
def wi (d : PyData) : Wy := (itemsT d).map valI
theorem wi_wd (w : Wy) : wi (wd w) = w := by
  show (w.map PyData.int).map valI = w
  rw [List.map_map]
  exact List.map_id w
theorem perm_wds {es : List PyData} {ws : List Wy} (h : es.Perm (ws.map wd)) : ∃ ws' : List Wy, ws'.Perm ws ∧ es = ws'.map wd := by
  refine ⟨es.map wi, ?_, ?_⟩
  · have z := h.map wi
    rw [List.map_map, show (wi ∘ wd) = id from funext wi_wd, List.map_id] at z
    exact z
  · rw [List.map_map]
    refine ((List.map_congr_left fun d hd => ?_).trans (List.map_id es)).symm
    obtain ⟨w, _, rfl⟩ := List.mem_map.mp (h.mem_iff.mp hd)
    show wd (wi (wd w)) = _
    rw [wi_wd]
    rfl
def TupY (z : Nat → List V) : Nat → V → Hp → Prop := fun i u H => ∃ b, u = .ref b ∧ H b = some (.tup (z i))
theorem tupY_good (z : Nat → List V) : GoodY (TupY z) := by
  refine ⟨fun i u H H' e h => ?_, fun i u H D l hD h => ?_⟩
  · obtain ⟨b, h1, h2⟩ := h
    exact ⟨b, h1, e _ _ h2⟩
  · obtain ⟨b, h1, h2⟩ := h
    refine ⟨b, h1, (off_at ?_).trans h2⟩
    intro hb
    rw [hb, hD] at h2
    cases h2
theorem grown_ks {z : Nat → Wy} {H : Hp} : ∀ {js : List Nat} {us : List V}, Grown (TupY fun i => (z i).map V.int) H js us → ∃ ks : List (Addr × List Int), us = (ks.map fun p => V.ref p.1) ∧ ks.map (·.2) = js.map z ∧
    ∀ p ∈ ks, H p.1 = some (.tup (p.2.map V.int))
  | [], us, h => ⟨[], h, rfl, fun p hp => by cases hp⟩
  | j :: js, us, ⟨u, r, h1, ⟨b, h2, h3⟩, h4⟩ => by
    obtain ⟨ks, k1, k2, k3⟩ := grown_ks h4
    subst h1 h2
    refine ⟨(b, z j) :: ks, by rw [k1]; rfl, by rw [List.map_cons, k2]; rfl, ?_⟩
    intro p hp
    rcases List.mem_cons.mp hp with e | e
    · subst e
      exact h3
    · exact k3 p e
theorem ks_wds {H : Hp} : ∀ {ks : List (Addr × List Int)}, (∀ p ∈ ks, H p.1 = some (.tup (p.2.map V.int))) → DqA H (ks.map fun p => V.ref p.1) ((ks.map (·.2)).map wd)
  | [], _ => .nil
  | p :: ks, h => .cons (wd_of (h p List.mem_cons_self)) (ks_wds fun q hq => h q (List.mem_cons_of_mem _ hq))
theorem wds_ks {H : Hp} : ∀ {ws : List Wy} {us : List V}, DqA H us (ws.map wd) → ∃ ks : List (Addr × List Int), us = (ks.map fun p => V.ref p.1) ∧ ks.map (·.2) = ws ∧ ∀ p ∈ ks, H p.1 = some (.tup (p.2.map V.int))
  | [], us, h => by
    cases h
    exact ⟨[], rfl, rfl, fun p hp => by cases hp⟩
  | w :: ws, us, h => by
    cases h with
    | cons hv t =>
      obtain ⟨ks, k1, k2, k3⟩ := wds_ks t
      obtain ⟨a, rfl, ha⟩ := wd_ref hv
      refine ⟨(a, w) :: ks, by rw [k1]; rfl, by rw [List.map_cons, k2], fun p hp => ?_⟩
      rcases List.mem_cons.mp hp with e | e
      · subst e
        exact ha
      · exact k3 p e
/-! pairs of routers, ascending -/
theorem asc_eq : ∀ {l m : List Nat}, l.Pairwise (· < ·) → m.Pairwise (· < ·) → (∀ x, x ∈ l ↔ x ∈ m) → l = m
  | [], [], _, _, _ => rfl
  | [], b :: m, _, _, h => absurd ((h b).mpr List.mem_cons_self) (by simp)
  | a :: l, [], _, _, h => absurd ((h a).mp List.mem_cons_self) (by simp)
  | a :: l, b :: m, h1, h2, h => by
    obtain ⟨ha, hl⟩ := List.pairwise_cons.mp h1
    obtain ⟨hb, hm⟩ := List.pairwise_cons.mp h2
    have e : a = b := by
      rcases List.mem_cons.mp ((h a).mp List.mem_cons_self) with z | z
      · exact z
      · rcases List.mem_cons.mp ((h b).mpr List.mem_cons_self) with y | y
        · exact y.symm
        · have := ha b y
          have := hb a z
          omega
    subst e
    rw [asc_eq hl hm fun x => ?_]
    constructor
    · intro hx
      rcases List.mem_cons.mp ((h x).mp (List.mem_cons_of_mem _ hx)) with z | z
      · have := ha x hx
        omega
      · exact z
    · intro hx
      rcases List.mem_cons.mp ((h x).mpr (List.mem_cons_of_mem _ hx)) with z | z
      · have := hb x hx
        omega
      · exact z
def cdW (c : Nat) : Wy := [((c / 8 : Nat) : Int), ((c % 8 : Nat) : Int)]
def ascW (S : List Wy) : List Wy := ((List.range 64).filter fun c => decide (cdW c ∈ S)).map cdW
theorem cd_pair {u v : Nat} (hv : v < 8) : cdW (u * 8 + v) = [(u : Int), (v : Int)] := by
  unfold cdW
  rw [show (u * 8 + v) / 8 = u by omega, show (u * 8 + v) % 8 = v by omega]
def enW (w : Wy) : Nat := (w.getD 0 0).toNat * 8 + (w.getD 1 0).toNat
/-- a pair of unlike routers below n -/
def PrOk (n : Nat) (w : Wy) : Prop := ∃ u v : Nat, w = [(u : Int), (v : Int)] ∧ u < n ∧ v < n ∧ u ≠ v
theorem asc_unique {S M : List Wy} (hb : ∀ p ∈ S, ∃ u v : Nat, u < 8 ∧ v < 8 ∧ p = [(u : Int), (v : Int)]) (hm : ∀ p, p ∈ M ↔ p ∈ S) (nd : M.Nodup)
    (pw : M.Pairwise fun q r => TS.code 64 q ≤ TS.code 64 r) : M = ascW S := by
  have hM : ∀ p ∈ M, ∃ u v : Nat, u < 8 ∧ v < 8 ∧ p = [(u : Int), (v : Int)] := fun p hp => hb p ((hm p).mp hp)
  have e1 : (M.map enW).map cdW = M := by
    rw [List.map_map]
    refine (List.map_congr_left fun p hp => ?_).trans (List.map_id M)
    obtain ⟨u, v, hu, hv, rfl⟩ := hM p hp
    show cdW ((u : Int).toNat * 8 + (v : Int).toNat) = _
    rw [Int.toNat_natCast, Int.toNat_natCast, cd_pair hv]
    rfl
  have e2 : (M.map enW).Pairwise (· < ·) := by
    rw [List.pairwise_map]
    refine List.Pairwise.imp_of_mem (R := fun q r => TS.code 64 q ≤ TS.code 64 r ∧ q ≠ r) ?_ (pw.and nd)
    intro q r hq hr ⟨h, hne⟩
    obtain ⟨u, v, hu, hv, rfl⟩ := hM q hq
    obtain ⟨x, y, hx, hy, rfl⟩ := hM r hr
    have z := pair_lt h hne (by omega) (by omega) (by omega) (by omega)
    show (u : Int).toNat * 8 + (v : Int).toNat < (x : Int).toNat * 8 + (y : Int).toNat
    rw [Int.toNat_natCast, Int.toNat_natCast, Int.toNat_natCast, Int.toNat_natCast]
    omega
  have e3 : ((List.range 64).filter fun c => decide (cdW c ∈ S)).Pairwise (· < ·) := List.Pairwise.filter _ List.pairwise_lt_range
  have e4 : M.map enW = (List.range 64).filter fun c => decide (cdW c ∈ S) := by
    refine asc_eq e2 e3 fun c => ?_
    rw [List.mem_map, List.mem_filter, List.mem_range, decide_eq_true_eq]
    constructor
    · rintro ⟨p, hp, rfl⟩
      have hp2 := (hm p).mp hp
      obtain ⟨u, v, hu, hv, rfl⟩ := hM p hp
      have ee : enW [(u : Int), (v : Int)] = u * 8 + v := by
        show (u : Int).toNat * 8 + (v : Int).toNat = _
        rw [Int.toNat_natCast, Int.toNat_natCast]
      rw [ee]
      exact ⟨by omega, by rw [cd_pair hv]; exact hp2⟩
    · rintro ⟨hc, hp⟩
      refine ⟨cdW c, (hm _).mpr hp, ?_⟩
      show (((c / 8 : Nat) : Int)).toNat * 8 + (((c % 8 : Nat) : Int)).toNat = c
      rw [Int.toNat_natCast, Int.toNat_natCast]
      omega
  rw [← e1, e4]
  rfl
theorem asc_mem {S : List Wy} (hb : ∀ p ∈ S, ∃ u v : Nat, u < 8 ∧ v < 8 ∧ p = [(u : Int), (v : Int)]) (p : Wy) : p ∈ ascW S ↔ p ∈ S := by
  unfold ascW
  rw [List.mem_map]
  constructor
  · rintro ⟨c, hc, rfl⟩
    exact of_decide_eq_true (List.mem_filter.mp hc).2
  · intro hp
    obtain ⟨u, v, hu, hv, rfl⟩ := hb p hp
    exact ⟨u * 8 + v, List.mem_filter.mpr ⟨List.mem_range.mpr (by omega), decide_eq_true (by rw [cd_pair hv]; exact hp)⟩, cd_pair hv⟩
theorem asc_len (S : List Wy) : (ascW S).length ≤ 64 := by
  unfold ascW
  rw [List.length_map]
  have h := List.length_filter_le (fun c => decide (cdW c ∈ S)) (List.range 64)
  rw [List.length_range] at h
  exact h
def swW (w : Wy) : Wy := [w.getD 1 0, w.getD 0 0]
def joinW (prs : List Wy) : List Wy := ascW (prs ++ prs.map swW)
theorem PrOk.sw {n : Nat} {w : Wy} (h : PrOk n w) : PrOk n (swW w) := by
  obtain ⟨u, v, rfl, h1, h2, h3⟩ := h
  exact ⟨v, u, rfl, h2, h1, Ne.symm h3⟩
theorem both_ok {n : Nat} {prs : List Wy} (h : ∀ p ∈ prs, PrOk n p) : ∀ p ∈ prs ++ prs.map swW, PrOk n p := fun p hp => by
  rcases List.mem_append.mp hp with z | z
  · exact h p z
  · obtain ⟨q, hq, rfl⟩ := List.mem_map.mp z
    exact (h q hq).sw
theorem PrOk.bd {n : Nat} (hn : n ≤ 8) {S : List Wy} (h : ∀ p ∈ S, PrOk n p) : ∀ p ∈ S, ∃ u v : Nat, u < 8 ∧ v < 8 ∧ p = [(u : Int), (v : Int)] := fun p hp => by
  obtain ⟨u, v, e, h1, h2, _⟩ := h p hp
  exact ⟨u, v, by omega, by omega, e⟩
theorem join_ok {n : Nat} (hn : n ≤ 8) {prs : List Wy} (h : ∀ p ∈ prs, PrOk n p) : ∀ p ∈ joinW prs, PrOk n p := fun p hp => both_ok h p ((asc_mem (PrOk.bd hn (both_ok h)) p).mp hp)

theorem perm_erase {α : Type} : ∀ {l : List α} {m : Nat} (h : m < l.length), l.Perm (l[m] :: l.eraseIdx m)
  | [], _, h => absurd h (Nat.not_lt_zero _)
  | x :: l, 0, _ => .refl _
  | x :: l, m + 1, h => ((perm_erase (l := l) (m := m) (Nat.lt_of_succ_lt_succ h)).cons x).trans (.swap _ _ _)
end Wk

set_option Elab.async false
set_option linter.all false
set_option maxRecDepth 100000
set_option maxHeartbeats 2000000
namespace Wk
open PySem PySem.Spec PyProof.Rows L2 Evl
section
variable {P : Program} {w : World} {K : PySem.W.Frag} {mg : Str → Option Value} {base : Heap} {f : Addr} {fd : FuncData}
/-! _law_shuffled -/
def spShuf : Sp := fun vs H Q _ => ∃ (G : Hp) (p q a : Addr) (xs : List V), vs = [.ref p, .ref a] ∧ Pm G H p q ∧ G a = some (.lst xs) ∧ xs.length ≤ 1000 ∧ ∀ H' l ys, Pm G H' p q → H l = none → l ≠ p → H' l = some (.lst ys) → ys.Perm xs → Q (.ref l) H'
abbrev sShuf : Stmt := top 34
abbrev nShuf : List Str := ["_law_pool_here", "_law_items", "_law_left", "_law_mixed_here", "_law_k"]
theorem scShuf : FnScope nShuf ["_law_pool_here", "_law_items"] (defScope sShuf) := ⟨rfl, rfl, rfl, by decide +kernel, rfl, by decide +kernel, by decide +kernel⟩
theorem ok_shuf (B : Bl mg) (C : Cal P w K mg base "_law_draw" ["_law_pool_here", "_law_limit"] 2 spDraw) (F : FnP K "_law_shuffled" sShuf f fd) : FnOk P w K mg base CX0 3 f fd ["_law_pool_here", "_law_items"] spShuf := by
  refine F.ok scShuf (fun vs H Q E h => ?_) (fun cdv A outer s H vs Q E hr h => ?_)
  · obtain ⟨G, p, q, a, xs, rfl, _⟩ := h
    rfl
  · obtain ⟨G, p, q, a, xs, rfl, hP, ha, hx, k⟩ := h
    refine ⟨_, pss_cons (ps_set (i := 2) scShuf.nd rfl (Or.inl rfl) (pe_callTy (call_listK2 (K := K) rfl) (by rfl) B.list PyProof.Rows.boot_list (pa_cons (pv 1) pa_nil)))
      (pss_cons (ps_set (i := 3) scShuf.nd rfl (Or.inl rfl) (pe_lst pa_nil))
      (pss_cons (ps_for (passes_of rfl) rfl (pi_range1 (by rfl) B.range (pa_cons (pe_callB call_len_seq (by rfl) B.len PySem.boot_len (pa_cons (pv 1) pa_nil)) pa_nil)) (pg_name (i := 4) scShuf.nd rfl (Or.inl rfl))
        (pss_one (ps_expr (pe_bm PySem.F.plainAttrs_list PySem.F.slot_list_append PySem.F.type_list_append mt_append (pv 3) (pa_cons
          (pe_bm PySem.F.plainAttrs_list PySem.F.slot_list_pop PySem.F.type_list_pop mt_popAt (pv 2) (pa_cons (pe_cal C hr (by rfl) (pa_cons (pv 0) (pa_cons (pe_callB call_len_seq (by rfl) B.len PySem.boot_len (pa_cons (pv 2) pa_nil)) pa_nil))) pa_nil)) pa_nil)))))
      (pss_one (ps_ret (pv 3))))), ?_⟩
    have hHa := hP.ex _ _ ha
    refine ⟨.ref a, rfl, a, xs, rfl, .inl (sq_of hHa), fun a1 ha1 => ?_⟩
    refine ⟨by show 0 ≤ sizeLine; decide, fun a2 ha2 => ?_⟩
    have n12 : a1 ≠ a2 := fun z => by rw [← z, upd_same] at ha2; cases ha2
    have ha2' : H a2 = none := by rw [upd_ne (Ne.symm n12)] at ha2; exact ha2
    have ga1 := fresh_back hP.ex ha1
    have ga2 := fresh_back hP.ex ha2'
    have p1 := hP.np ha1
    have p2 := hP.np ha2'
    change tSeq _ _ _ [some (.ref p), some (.ref a), some (.ref a1), some (.ref a2), none] _
    have hHa2 : (upd (upd H a1 (.lst xs)) a2 (.lst [])) a = some (.lst xs) := by
      rw [upd_ne (ne_of_none hHa ha2'), upd_ne (ne_of_none hHa ha1)]
      exact hHa
    refine q_forR1 (ea_cons (ev_len (ev_var rfl) (sq_of hHa2)) ea_nil) (n := (xs.length : Int)) (by omega) (fun i σ' H' => ∃ (ls os : List V) (o : Option V), σ' = [some (.ref p), some (.ref a), some (.ref a1), some (.ref a2), o] ∧ Pm G H' p q ∧ H' a1 = some (.lst ls) ∧ H' a2 = some (.lst os) ∧ (os ++ ls).Perm xs ∧ os.length = i) ?_ ?_ ?_
    · intro H1 e1
      exact ⟨xs, [], none, rfl, ((hP.ext (Ex.new ha1)).ext (Ex.new ha2)).ext e1, e1 _ _ (by rw [upd_ne n12, upd_same]), e1 _ _ upd_same, .refl _, rfl⟩
    · rintro i σ' H1 hi ⟨ls, os, o, rfl, hP1, h1, h2, hpm, hol⟩
      have hlen := hpm.length_eq
      rw [List.length_append] at hlen
      have hlp : 0 < ls.length := by omega
      refine ⟨.ref a2, rfl, .inl ⟨rfl, _, sq_of h2⟩, .ref a1, rfl, .inl ⟨rfl, _, sq_of h1⟩, .ref p, rfl, .ref a1, rfl, a1, _, rfl, .inl (sq_of h1), ?_⟩
      refine ⟨_, p, q, ((ls.length : Int)), rfl, hP1.hd, by omega, by omega, fun H2 j hP20 hj0 hj1 => ?_⟩
      have hP2 := hP1.back hP20
      have hO2 := hP20.off
      obtain ⟨m, rfl⟩ : ∃ m : Nat, j = (m : Int) := ⟨j.toNat, by omega⟩
      have hm : m < ls.length := by omega
      have h1' := hO2 _ _ p1 h1
      have h2' := hO2 _ _ p2 h2
      refine ⟨a1, _, (m : Int), m, ls[m], rfl, rfl, h1', by omega, by omega, seqIx hm, List.getElem?_eq_getElem hm, ?_⟩
      refine ⟨a2, _, ls[m], rfl, rfl, by rw [upd_ne (Ne.symm n12)]; exact h2', by rw [sizeLine_eq]; omega, ?_⟩
      refine ⟨ls.eraseIdx m, os ++ [ls[m]], _, rfl, (hP2.mut ga1 p1).mut ga2 p2, by rw [upd_ne n12, upd_same], by rw [upd_same], ?_, by simp; omega⟩
      refine List.Perm.trans ?_ hpm
      rw [List.append_assoc]
      refine List.Perm.append_left _ ?_
      exact (perm_erase hm).symm
    · rintro σ' H1 ⟨ls, os, o, rfl, hP1, h1, h2, hpm, hol⟩
      have hlen := hpm.length_eq
      rw [List.length_append] at hlen
      have hl0 : ls = [] := List.length_eq_zero_iff.mp (by omega)
      subst hl0
      rw [List.append_nil] at hpm
      exact ⟨.ref a2, rfl, k H1 a2 os hP1 ha2' p2 h2 hpm⟩
end
end Wk

set_option Elab.async false
set_option linter.all false
set_option maxRecDepth 100000
set_option maxHeartbeats 2000000
namespace Wk
open PySem PySem.Spec PyProof.Rows L2 Evl
def vI : V → Int
  | .int i => i
  | _ => 0
theorem perm_ints {ys : List V} {ns : List Int} (h : ys.Perm (ns.map V.int)) : ∃ os : List Int, os.Perm ns ∧ ys = os.map V.int := by
  refine ⟨ys.map vI, ?_, ?_⟩
  · have z := h.map vI
    rw [List.map_map, show (vI ∘ V.int) = id from rfl, List.map_id] at z
    exact z
  · rw [List.map_map]
    refine ((List.map_congr_left fun d hd => ?_).trans (List.map_id ys)).symm
    obtain ⟨w, _, rfl⟩ := List.mem_map.mp (h.mem_iff.mp hd)
    rfl
theorem next_ne {a d n : Int} (h0 : 0 ≤ a) (h1 : a < n) (h2 : 0 ≤ d) (h3 : d < n - 1) : (a + 1 + d) % n ≠ a := by
  by_cases h : a + 1 + d < n
  · rw [Int.emod_eq_of_lt (by omega) h]
    omega
  · rw [show a + 1 + d = (a + 1 + d - n) + n by omega, Int.add_emod_right, Int.emod_eq_of_lt (by omega) (by omega)]
    omega
theorem prOk_of {n : Nat} {a b : Int} (h0 : 0 ≤ a) (h1 : a < n) (h2 : 0 ≤ b) (h3 : b < n) (h4 : a ≠ b) : PrOk n [a, b] :=
  ⟨a.toNat, b.toNat, by rw [Int.toNat_of_nonneg h0, Int.toNat_of_nonneg h2], by omega, by omega, by omega⟩
/-- links that are put into the list at D -/
structure LsW (n : Nat) (G H : Hp) (p q D : Addr) (us : List V) (prs : List Wy) : Prop where
  pm : Pm G H p q
  at_ : H D = some (.lst us)
  gD : G D = none
  np : D ≠ p
  dq : DqA G us (prs.map wd)
  ok : ∀ w ∈ prs, PrOk n w
theorem LsW.ext {n : Nat} {G H H' : Hp} {p q D : Addr} {us : List V} {prs : List Wy} (h : LsW n G H p q D us prs) (e : Ex H H') : LsW n G H' p q D us prs := ⟨h.pm.ext e, e _ _ h.at_, h.gD, h.np, h.dq, h.ok⟩
theorem LsW.off {n : Nat} {G H H' : Hp} {p q D : Addr} {us : List V} {prs : List Wy} (h : LsW n G H p q D us prs) (hP : Pm G H' p q) (o : Of1 p H H') : LsW n G H' p q D us prs := ⟨hP, o _ _ h.np h.at_, h.gD, h.np, h.dq, h.ok⟩
theorem LsW.put {n : Nat} {G H : Hp} {p q D t : Addr} {us : List V} {prs : List Wy} {w : Wy} (h : LsW n G H p q D us prs) (ht : H t = none) (hw : PrOk n w) :
    Ex G (upd G t (.tup (w.map V.int))) ∧ LsW n (upd G t (.tup (w.map V.int))) (upd (upd H t (.tup (w.map V.int))) D (.lst (us ++ [.ref t]))) p q D (us ++ [.ref t]) (prs ++ [w]) := by
  have gt := fresh_back h.pm.ex ht
  have eg : Ex G (upd G t (.tup (w.map V.int))) := Ex.new gt
  have nDt : D ≠ t := ne_of_none h.at_ ht
  have gD' : (upd G t (.tup (w.map V.int))) D = none := by rw [upd_ne nDt]; exact h.gD
  refine ⟨eg, (h.pm.new ht).mut gD' h.np, upd_same, gD', h.np, ?_, fun x hx => ?_⟩
  · rw [List.map_append]
    exact (h.dq.mono eg).append (.cons (wd_of upd_same) .nil)
  · rcases List.mem_append.mp hx with z | z
    · exact h.ok x z
    · rw [List.mem_singleton.mp z]
      exact hw
section
variable {P : Program} {w : World} {K : PySem.W.Frag} {mg : Str → Option Value} {base : Heap} {f : Addr} {fd : FuncData}
/-! _law_links -/
def spLinks : Sp := fun vs H Q _ => ∃ (G : Hp) (p q : Addr) (n : Nat), vs = [.ref p, .int (n : Int)] ∧ Pm G H p q ∧ 1 ≤ n ∧ n ≤ 8 ∧
  ∀ G' H' (l : Addr) (us : List V) (prs : List Wy), Ex G G' → Pm G' H' p q → G' l = some (.lst us) → DqA G' us (prs.map wd) → (∀ w ∈ prs, PrOk n w) → prs.length ≤ 22 → Q (.ref l) H'
abbrev sLinks : Stmt := top 35
abbrev nLinks : List Str := ["_law_pool_here", "_law_size", "_law_order", "_law_kind", "_law_links_here", "_law_k", "_law_a", "_law_b"]
theorem scLinks : FnScope nLinks ["_law_pool_here", "_law_size"] (defScope sLinks) := ⟨rfl, rfl, rfl, by decide +kernel, rfl, by decide +kernel, by decide +kernel⟩
theorem ok_links (B : Bl mg) (C : Cal P w K mg base "_law_draw" ["_law_pool_here", "_law_limit"] 2 spDraw) (C2 : Cal P w K mg base "_law_shuffled" ["_law_pool_here", "_law_items"] 3 spShuf) (F : FnP K "_law_links" sLinks f fd) : FnOk P w K mg base CX0 4 f fd ["_law_pool_here", "_law_size"] spLinks := by
  refine F.ok scLinks (fun vs H Q E h => ?_) (fun cdv A outer s H vs Q E hr h => ?_)
  · obtain ⟨G, p, q, n, rfl, _⟩ := h
    rfl
  · obtain ⟨G, p, q, n, rfl, hP, hn1, hn8, k⟩ := h
    refine ⟨_, pss_cons (ps_set (i := 2) scLinks.nd rfl (Or.inl rfl) (pe_cal C2 hr (by rfl) (pa_cons (pv 0) (pa_cons (pe_listRg rfl (by rfl) B.list (prg_1 (by rfl) B.range (pv 1))) pa_nil))))
      (pss_cons (ps_set (i := 3) scLinks.nd rfl (Or.inl rfl) (pe_cal C hr (by rfl) (pa_cons (pv 0) (pa_cons pe_int pa_nil))))
      (pss_cons (ps_set (i := 4) scLinks.nd rfl (Or.inl rfl) (pe_lst pa_nil))
      (pss_cut (ps_for (passes_of rfl) rfl (pi_range1 (by rfl) B.range (pa_cons (pe_op op_sub (pv 1) pe_int) pa_nil)) (pg_name (i := 5) scLinks.nd rfl (Or.inl rfl))
        (pss_one (ps_if (pt_cmpR op_ne (pv 3) pe_int (nomark _)) (pss_one (ps_expr (pe_bm PySem.F.plainAttrs_list PySem.F.slot_list_append PySem.F.type_list_append mt_append (pv 4) (pa_cons
          (pe_tup (pa_cons (pe_ix ix_list (pv 2) (pv 5) (fun _ _ => rfl)) (pa_cons (pe_ix ix_list (pv 2) (pe_op op_add (pv 5) pe_int) (fun _ _ => rfl)) pa_nil))) pa_nil)))) pss_nil)))
      (pss_cut (ps_for (passes_of rfl) rfl (pi_range1 (by rfl) B.range (pa_cons (pe_cal C hr (by rfl) (pa_cons (pv 0) (pa_cons (pe_op op_mul pe_int (pv 1)) pa_nil))) pa_nil)) (pg_name (i := 5) scLinks.nd rfl (Or.inl rfl))
        (pss_one (ps_if (PW.pt (pw_and (pt_cmpR op_gt (pv 1) pe_int (nomark _)) (pw_and1 (pt_cmpR op_ne (pv 3) pe_int (nomark _)))))
          (pss_cons (ps_set (i := 6) scLinks.nd rfl (Or.inl rfl) (pe_cal C hr (by rfl) (pa_cons (pv 0) (pa_cons (pv 1) pa_nil))))
          (pss_cons (ps_set (i := 7) scLinks.nd rfl (Or.inl rfl) (pe_op op_mod (pe_callTy call_int1 (by rfl) B.int PyProof.Rows.boot_int (pa_cons (pe_op op_add (pe_op op_add (pv 6) pe_int) (pe_cal C hr (by rfl) (pa_cons (pv 0) (pa_cons (pe_op op_sub (pv 1) pe_int) pa_nil)))) pa_nil)) (pv 1)))
          (pss_one (ps_expr (pe_bm PySem.F.plainAttrs_list PySem.F.slot_list_append PySem.F.type_list_append mt_append (pv 4) (pa_cons (pe_tup (pa_cons (pv 6) (pa_cons (pv 7) pa_nil))) pa_nil)))))) pss_nil)))
      (pss_one (ps_ret (pe_cal C2 hr (by rfl) (pa_cons (pv 0) (pa_cons (pv 4) pa_nil))))))))), ?_⟩
    refine ⟨.ref p, rfl, .int (n : Int), rfl, (n : Int), rfl, RgOk.of_le (by decide) (by omega) (by decide) (by omega), fun a0 ha0 => ?_⟩
    have e0 : rgV 0 (n : Int) = ((List.range n).map fun (i : Nat) => (i : Int)).map V.int := by
      unfold rgV
      rw [show ((n : Int) - 0).toNat = n by omega, List.map_map]
      refine List.map_congr_left fun i _ => ?_
      show V.int ((0 : Int) + (i : Int)) = V.int (i : Int)
      rw [Int.zero_add]
    have ga0 := fresh_back hP.ex ha0
    have hP0 := hP.new (o := .lst (rgV 0 (n : Int))) ha0
    refine ⟨_, p, q, a0, _, rfl, hP0, upd_same, by rw [e0]; simp; omega, fun H1 l ys hP1 hl0 nlp hl hpm => ?_⟩
    rw [e0] at hpm
    obtain ⟨os, hos, rfl⟩ := perm_ints hpm
    have gl := fresh_back hP0.ex hl0
    have hol : os.length = n := by rw [hos.length_eq]; simp
    have hrg : ∀ x ∈ os, 0 ≤ x ∧ x < (n : Int) := fun x hx => by
      obtain ⟨i, hi, rfl⟩ := List.mem_map.mp (hos.mem_iff.mp hx)
      have := List.mem_range.mp hi
      omega
    have hnd : os.Nodup := hos.nodup_iff.mpr (by
      rw [List.nodup_iff_pairwise_ne, List.pairwise_map]
      exact List.Pairwise.imp (fun h => by omega) List.pairwise_lt_range)
    have eG0 : Ex G (upd G a0 (.lst (rgV 0 (n : Int)))) := Ex.new ga0
    have hP2 := hP1.hold hl nlp gl
    have eG1 : Ex (upd G a0 (.lst (rgV 0 (n : Int)))) (upd (upd G a0 (.lst (rgV 0 (n : Int)))) l (.lst (os.map V.int))) := Ex.new gl
    have hGl : (upd (upd G a0 (.lst (rgV 0 (n : Int)))) l (.lst (os.map V.int))) l = some (.lst (os.map V.int)) := upd_same
    have eG := eG0.trans eG1
    generalize upd (upd G a0 (.lst (rgV 0 (n : Int)))) l (.lst (os.map V.int)) = G1 at *
    clear eG0 eG1 hP1 hP0
    refine g_name ?_
    refine ⟨.ref p, rfl, ⟨_, p, q, _, rfl, hP2.hd, by decide, by decide, fun H2 kd hP30 hk0 hk1 => ?_⟩⟩
    have hP3 := hP2.back hP30
    have hO2 := hP30.off
    refine g_name ?_
    refine ⟨by show 0 ≤ sizeLine; decide, fun D hD => ?_⟩
    have gD := fresh_back hP3.ex hD
    have nD := hP3.np hD
    have hW0 : LsW n G1 (upd H2 D (.lst [])) p q D [] [] := ⟨hP3.ext (Ex.new hD), upd_same, gD, nD, .nil, fun w hw => by cases hw⟩
    refine g_name ?_
    dsimp only
    generalize upd H2 D (.lst []) = H3 at *
    refine q_cut (M := fun σ' H' => ∃ (G' : Hp) (us : List V) (prs : List Wy) (o5 : Option V), σ' = [some (.ref p), some (.int (n : Int)), some (.ref l), some (.int kd), some (.ref D), o5, none, none] ∧ Ex G1 G' ∧ LsW n G' H' p q D us prs ∧ prs.length ≤ 7) ?_ ?_
    · change tFor _ _ _ _ [some (.ref p), some (.int (n : Int)), some (.ref l), some (.int kd), some (.ref D), none, none, none] H3
      refine s_forR1 (ea_cons (ev_op (ev_var rfl) ev_c rv_I0) ea_nil) (n := (n : Int) - 1) (by omega) (fun i σ' H' => ∃ (G' : Hp) (us : List V) (prs : List Wy) (o5 : Option V), σ' = [some (.ref p), some (.int (n : Int)), some (.ref l), some (.int kd), some (.ref D), o5, none, none] ∧ Ex G1 G' ∧ LsW n G' H' p q D us prs ∧ prs.length ≤ i) (fun H4 e4 => ⟨G1, [], [], none, rfl, Ex.refl _, hW0.ext e4, Nat.zero_le _⟩) ?_ (fun σ' H' ⟨G', us, prs, o5, h1, h2, h3, h4⟩ => ⟨G', us, prs, o5, h1, h2, h3, by omega⟩)
      rintro i σ' H4 hi ⟨G', us, prs, o5, rfl, eG', hW, hl4⟩
      change tIfS _ _ _ _ [some (.ref p), some (.int (n : Int)), some (.ref l), some (.int kd), some (.ref D), some (.int (i : Int)), none, none] H4
      refine s_when (b := !decide (V.int kd = V.int 1)) (et_test (ev_op (ev_var rfl) ev_c (rv_ne rfl))) (fun _ H5 e5 => ?_) (fun _ H5 e5 => ⟨G', us, prs, _, rfl, eG', hW.ext e5, by omega⟩)
      have hW5 := hW.ext e5
      have hL : H5 l = some (.lst (os.map V.int)) := hW5.pm.ex _ _ (eG' _ _ hGl)
      have hi1 : i < os.length := by omega
      have hi2 : i + 1 < os.length := by omega
      have at1 := at_ints hi1
      have at2 := at_ints hi2
      rw [show ((i + 1 : Nat) : Int) = (i : Int) + 1 by omega] at at2
      have r1 := hrg os[i] (List.getElem_mem hi1)
      have r2 := hrg os[i + 1] (List.getElem_mem hi2)
      have rn : os[i] ≠ os[i + 1] := (List.pairwise_iff_getElem.mp hnd) i (i + 1) hi1 hi2 (by omega)
      generalize os[i] = x1 at *
      generalize os[i + 1] = x2 at *
      have hul := hW5.dq.length
      rw [List.length_map] at hul
      refine ⟨.ref D, rfl, .inl ⟨rfl, _, sq_of hW5.at_⟩, .ref l, rfl, .int (i : Int), rfl, l, _, (i : Int), .int x1, rfl, rfl, sq_of hL, at1, .ref l, rfl, .int (i : Int), rfl, (i : Int), 1, rfl, rfl, l, _, (i : Int) + 1, .int x2, rfl, rfl, sq_of hL, at2, by show 2 ≤ sizeLine; decide, fun t ht => ?_⟩
      obtain ⟨eg, hW6⟩ := hW5.put ht (w := [x1, x2]) (prOk_of r1.1 r1.2 r2.1 r2.2 rn)
      exact ⟨D, us, .ref t, rfl, rfl, by rw [upd_ne (ne_of_none hW5.at_ ht)]; exact hW5.at_, by rw [sizeLine_eq]; omega, _, _, _, _, rfl, eG'.trans eg, hW6, by simp; omega⟩
    rintro σ' H4 ⟨G', us, prs, o5, rfl, eG', hW, hl4⟩
    refine q_cut (M := fun σ' H' => ∃ (G' : Hp) (us : List V) (prs : List Wy) (o5 o6 o7 : Option V), σ' = [some (.ref p), some (.int (n : Int)), some (.ref l), some (.int kd), some (.ref D), o5, o6, o7] ∧ Ex G1 G' ∧ LsW n G' H' p q D us prs ∧ prs.length ≤ 22) ?_ ?_
    · refine ⟨.ref p, rfl, .int (n : Int), rfl, 2, (n : Int), rfl, rfl, .inl ⟨by decide, by decide⟩, ⟨_, p, q, _, rfl, hW.pm.hd, by omega, by omega, fun H5 j hP50 hj0 hj1 => ?_⟩⟩
      have hP5 := hW.pm.back hP50
      have hO5 := hP50.off
      have hW5 := hW.off hP5 hO5
      refine ⟨j, rfl, by omega, by omega, for_range (lo := 0) (n := j.toNat) (fun i σ' H' => ∃ (G' : Hp) (us : List V) (prs : List Wy) (o5 o6 o7 : Option V), σ' = [some (.ref p), some (.int (n : Int)), some (.ref l), some (.int kd), some (.ref D), o5, o6, o7] ∧ Ex G1 G' ∧ LsW n G' H' p q D us prs ∧ prs.length ≤ 7 + i) ⟨G', us, prs, _, _, _, rfl, eG', hW5, by omega⟩ ?_ (fun σ' H' ⟨G', us, prs, o5, o6, o7, h1, h2, h3, h4⟩ => ⟨G', us, prs, o5, o6, o7, h1, h2, h3, by omega⟩)⟩
      rintro i σ' H6 hi ⟨G6, us6, prs6, o5, o6, o7, rfl, eG6, hW6, hl6⟩
      refine g_name ?_
      dsimp only
      have stay : ∀ H7, Ex H6 H7 → ∃ (G' : Hp) (us : List V) (prs : List Wy) (p5 p6 p7 : Option V), [some (.ref p), some (.int (n : Int)), some (.ref l), some (.int kd), some (.ref D), some (.int (0 + (i : Int))), o6, o7] = [some (.ref p), some (.int (n : Int)), some (.ref l), some (.int kd), some (.ref D), p5, p6, p7] ∧ Ex G1 G' ∧ LsW n G' H7 p q D us prs ∧ prs.length ≤ 7 + (i + 1) := fun H7 e7 => ⟨G6, us6, prs6, _, _, _, rfl, eG6, hW6.ext e7, by omega⟩
      change tIfS _ _ _ _ [some (.ref p), some (.int (n : Int)), some (.ref l), some (.int kd), some (.ref D), some (.int (0 + (i : Int))), o6, o7] H6
      refine s_when (b := decide ((n : Int) > 1) && !decide (V.int kd = V.int 0)) (et_and (et_test (ev_op (ev_var rfl) ev_c rv_I0)) fun _ => et_test (ev_op (ev_var rfl) ev_c (rv_ne rfl))) (fun hb H7 e7 => ?_) (fun _ H7 e7 => stay H7 e7)
      have hn2 : (n : Int) > 1 := of_decide_eq_true (Bool.and_eq_true_iff.mp hb).1
      have hW7 := hW6.ext e7
      refine ⟨.ref p, rfl, .int (n : Int), rfl, ⟨_, p, q, _, rfl, hW7.pm.hd, by omega, by omega, fun H8 a hP80 ha0 ha1 => ?_⟩⟩
      have hP8 := hW7.pm.back hP80
      have hO8 := hP80.off
      have hW8 := hW7.off hP8 hO8
      refine g_name ?_
      dsimp only
      refine ⟨.int a, rfl, a, 1, rfl, rfl, .ref p, rfl, .int (n : Int), rfl, (n : Int), 1, rfl, rfl, ⟨_, p, q, _, rfl, hW8.pm.hd, by omega, by omega, fun H9 d hP90 hd0 hd1 => ?_⟩⟩
      have hP9 := hW8.pm.back hP90
      have hO9 := hP90.off
      have hW9 := hW8.off hP9 hO9
      refine ⟨_, d, rfl, rfl, .inl ⟨_, rfl, .int (n : Int), rfl, _, (n : Int), rfl, rfl, (show (0 : Int) < (n : Int) by omega), ?_⟩⟩
      have mb := modP (a + 1 + d) (n : Int) (by omega)
      have nb := next_ne ha0 ha1 hd0 hd1
      refine g_name ?_
      dsimp only
      generalize (a + 1 + d) % (n : Int) = b at mb nb ⊢
      have hul := hW9.dq.length
      rw [List.length_map] at hul
      refine ⟨.ref D, rfl, .inl ⟨rfl, _, sq_of hW9.at_⟩, .int a, rfl, .int b, rfl, by show 2 ≤ sizeLine; decide, fun t ht => ?_⟩
      obtain ⟨eg, hW10⟩ := hW9.put ht (w := [a, b]) (prOk_of ha0 ha1 mb.1 mb.2 (Ne.symm nb))
      exact ⟨D, us6, .ref t, rfl, rfl, by rw [upd_ne (ne_of_none hW9.at_ ht)]; exact hW9.at_, by rw [sizeLine_eq]; omega, _, _, _, _, _, _, rfl, eG6.trans eg, hW10, by simp; omega⟩
    rintro σ' H5 ⟨G5, us5, prs5, o5, o6, o7, rfl, eG5, hW5, hl5⟩
    have hul := hW5.dq.length
    rw [List.length_map] at hul
    have hP5 := hW5.pm.hold hW5.at_ hW5.np hW5.gD
    have eD : Ex G5 (upd G5 D (.lst us5)) := Ex.new hW5.gD
    refine ⟨.ref p, rfl, .ref D, rfl, _, p, q, D, us5, rfl, hP5, upd_same, by omega, fun H6 l2 ys2 hP6 hl20 nl2 hl2 hpm2 => ?_⟩
    have gl2 := fresh_back hP5.ex hl20
    obtain ⟨es, hes, hdq⟩ := DqA.perm hpm2 (hW5.dq.mono eD)
    obtain ⟨ws, hws, rfl⟩ := perm_wds hes
    have e2 : Ex (upd G5 D (.lst us5)) (upd (upd G5 D (.lst us5)) l2 (.lst ys2)) := Ex.new gl2
    exact k _ H6 l2 ys2 ws ((eG.trans eG5).trans (eD.trans e2)) (hP6.hold hl2 nl2 gl2) upd_same (hdq.mono e2) (fun w hw => hW5.ok w (hws.mem_iff.mp hw)) (by rw [hws.length_eq]; exact hl5)
/-! _law_pairs -/
def spPairs : Sp := fun vs H Q _ => ∃ (l : Addr) (us : List V) (prs : List Wy), vs = [.ref l] ∧ H l = some (.lst us) ∧ DqA H us (prs.map wd) ∧ (∀ w ∈ prs, PrOk 8 w) ∧ prs.length ≤ 22 ∧
  ∀ H' l' us', Ex H H' → H l' = none → H' l' = some (.lst us') → DqA H' us' ((joinW prs).map wd) → Q (.ref l') H'
abbrev sPairs : Stmt := top 36
abbrev nPairs : List Str := ["_law_links_here", "_law_link"]
theorem scPairs : FnScope nPairs ["_law_links_here"] (defScope sPairs) := ⟨rfl, rfl, rfl, by decide +kernel, rfl, by decide +kernel, by decide +kernel⟩
theorem upTo_all (n : Nat) : upTo (fun _ => true) n = List.range n := by
  unfold upTo
  exact List.filter_eq_self.mpr fun _ _ => rfl
theorem range_sw (prs : List Wy) : (List.range prs.length).map (fun i => swW (prs.getD i [])) = prs.map swW := by
  apply List.ext_getElem
  · simp
  · intro i h1 h2
    have h3 : i < prs.length := by simpa using h1
    simp [List.getD_eq_getElem?_getD, List.getElem?_eq_getElem h3]
theorem ok_pairs (B : Bl mg) (hs : mg "sorted" = none) (F : FnP K "_law_pairs" sPairs f fd) : FnOk P w K mg base CX0 1 f fd ["_law_links_here"] spPairs := by
  refine F.ok scPairs (fun vs H Q E h => ?_) (fun cdv A outer s H vs Q E hr h => ?_)
  · obtain ⟨l, us, prs, rfl, _⟩ := h
    rfl
  · obtain ⟨l, us, prs, rfl, hl, hus, hok, hpl, k⟩ := h
    have hu : (A.deeper (envOfC "_law_pairs" (defScope sPairs) s.heap.objs.size f cdv)).units + 64 < cLine := by have := hr.un; omega
    refine ⟨_, pss_one (ps_ret (pe_callB (cr_sortedT rfl) (by rfl) hs boot_sorted (pa_cons (pe_callTy (cr_setOfT rfl hu) (by rfl) B.set PyProof.Rows.boot_set (pa_cons (pe_op op_cat (pv 0)
      (pe_lc (own := [("_law_link", 1)]) (g := gName 1) (tt := tYes) (te := tTup (tCons (tOp (rIxT K) (tVar 1) (tC (.int 1))) (tCons (tOp (rIxT K) (tVar 1) (tC (.int 0))) tNil))) rfl scPairs.nd
        (pi_list (pv 0)) (blkOk_by (N := nPairs) (sc := defScope sPairs) (by decide +kernel)) (fun _ _ _ _ _ => pg_name (i := 1) scPairs.nd rfl (Or.inl rfl))
        (fun _ _ _ _ _ => pts_nil)
        (fun _ _ _ _ _ => pe_tup (pa_cons (pe_ix ix_tup (pv 1) pe_int (fun _ _ => rfl)) (pa_cons (pe_ix ix_tup (pv 1) pe_int (fun _ _ => rfl)) pa_nil))))) pa_nil)) pa_nil))), ?_⟩
    have hul := hus.length
    rw [List.length_map] at hul
    have hbd := PrOk.bd (n := 8) (by omega) (both_ok hok)
    have two : ∀ {i : Nat} {x : V}, us[i]? = some x → ∃ (a : Addr) (w : Wy), x = .ref a ∧ prs.getD i [] = w ∧ H a = some (.tup (w.map V.int)) ∧ atI (w.map V.int) 1 = some (.int (w.getD 1 0)) ∧ atI (w.map V.int) 0 = some (.int (w.getD 0 0)) := by
      intro i x hx
      obtain ⟨w, h1, h2⟩ := DqA.wds_inv hus hx
      obtain ⟨a, rfl, ha⟩ := wd_ref h2
      obtain ⟨u, v, rfl, _⟩ := hok w (List.mem_of_getElem? h1)
      exact ⟨a, _, rfl, by rw [List.getD_eq_getElem?_getD, h1]; rfl, ha, atI_nat (j := 1) rfl, atI_nat (j := 0) rfl⟩
    refine ret_cb (cb1 ?_)
    refine ⟨.ref l, rfl, ?_⟩
    refine ⟨.ref l, rfl, l, rfl, ⟨us, sq_of hl⟩, fun D hD => ?_⟩
    refine grow_lc (walk_list (K := K) (a := l) (xs := us)) (Yx := fun i x => us[i]? = some x) (tupY_good fun i => (swW (prs.getD i [])).map V.int) (fun _ => true) hD (by omega)
      (fun H' e => sq_of (e _ _ hl)) (fun x => rfl) (fun i x H' e hi hx => et_yes) (fun i x H' e hi hx _ => ?_) (fun us2 H2 e2 hd g => ?_)
    · obtain ⟨a, w, rfl, ew, ha, at1, at0⟩ := two hx
      have i1 : Ev (tOp (rIxT K) (tVar 1) (tC (.int 1))) ((wipe (start nPairs [V.ref l]) [1]).set 1 (some (.ref a))) H' (.int (w.getD 1 0)) := ev_op (ev_var rfl) ev_c (rv_ixT (st_of (e _ _ ha)) at1)
      have i0 : Ev (tOp (rIxT K) (tVar 1) (tC (.int 0))) ((wipe (start nPairs [V.ref l]) [1]).set 1 (some (.ref a))) H' (.int (w.getD 0 0)) := ev_op (ev_var rfl) ev_c (rv_ixT (st_of (e _ _ ha)) at0)
      intro H3 e3 Q3 q
      refine (ea_cons i1 (ea_cons i0 ea_nil)) H3 e3 _ fun H4 e4 => ⟨by show 2 ≤ sizeLine; decide, fun p hp => q _ _ (e4.trans (Ex.new hp)) ⟨p, rfl, ?_⟩⟩
      show upd H4 p _ p = some (.tup ((swW (prs.getD i [])).map V.int))
      rw [ew]
      exact upd_same
    · obtain ⟨ks2, k1, k2, k3⟩ := grown_ks g
      subst k1
      rw [upTo_all, hul, range_sw] at k2
      obtain ⟨ks1, j1, j2, j3⟩ := wds_ks (hus.mono e2)
      have l1 : ks1.length = prs.length := by rw [← j2, List.length_map]
      have l2 : ks2.length = prs.length := by
        have := congrArg List.length k2
        simpa using this
      refine ⟨l, D, us, _, rfl, rfl, e2 _ _ hl, hd, by rw [List.length_map, sizeLine_eq]; omega, fun t ht => ?_⟩
      have et := Ex.new (o := .lst (us ++ ks2.map fun p => V.ref p.1)) ht
      have htt : (upd H2 t (.lst (us ++ ks2.map fun p => V.ref p.1))) t = some (.lst ((ks1 ++ ks2).map fun p => V.ref p.1)) := by
        rw [upd_same, List.map_append, ← j1]
      generalize upd H2 t (.lst (us ++ ks2.map fun p => V.ref p.1)) = H3 at *
      have hm3 : ∀ p ∈ ks1 ++ ks2, H3 p.1 = some (.tup (p.2.map V.int)) := fun p hp => by
        rcases List.mem_append.mp hp with z | z
        · exact et _ _ (j3 p z)
        · exact et _ _ (k3 p z)
      have hmem : ∀ p, p ∈ (ks1 ++ ks2).map (·.2) ↔ p ∈ prs ++ prs.map swW := by
        intro p
        rw [List.map_append, j2, k2]
      refine ⟨t, ks1 ++ ks2, rfl, sq_of htt, fun p hp => st_of (hm3 p hp), by rw [List.length_append]; omega, fun a L ha h1 h2 => ?_⟩
      have ea := Ex.new (o := SetTO P w a L) ha
      refine ⟨a, L, 2, 64, rfl, upd_same, fun p hp => st_of (ea _ _ (hm3 p (h1 p hp))), by decide, fun p hp => ?_, fun L' p pm nd l64 pw hp => ?_⟩
      · obtain ⟨u, v', hu', hv', ep⟩ := hbd p.2 ((hmem _).mp (List.mem_map.mpr ⟨p, h1 p hp, rfl⟩))
        rw [ep]
        refine ⟨rfl, fun m hm => ?_⟩
        rcases List.mem_cons.mp hm with z | z
        · omega
        · rcases List.mem_cons.mp z with z | z
          · omega
          · cases z
      · have eM : L'.map (·.2) = joinW prs := by
          refine asc_unique hbd (fun q => ?_) nd (List.pairwise_map.mpr pw)
          rw [← hmem]
          constructor
          · intro hq
            obtain ⟨r, hr', rfl⟩ := List.mem_map.mp hq
            exact List.mem_map.mpr ⟨r, h1 r (pm.mem_iff.mp hr'), rfl⟩
          · intro hq
            obtain ⟨r, hr', rfl⟩ := List.mem_map.mp hq
            obtain ⟨r2, hr2, e⟩ := List.mem_map.mp (h2 r hr')
            exact List.mem_map.mpr ⟨r2, pm.mem_iff.mpr hr2, e⟩
        have ep := Ex.new (o := .lst (L'.map fun q => V.ref q.1)) hp
        refine k _ p _ ((e2.trans et).trans (ea.trans ep)) (fresh_back ((e2.trans et).trans ea) hp) upd_same ?_
        rw [← eM]
        exact ks_wds fun q hq => ep _ _ (ea _ _ (hm3 q (h1 q (pm.mem_iff.mp hq))))
end
end Wk

set_option Elab.async false
set_option linter.all false
set_option maxRecDepth 100000
set_option maxHeartbeats 2000000
namespace Wk
open PySem PySem.Spec PyProof.Rows L2 Evl
/-! deeds -/
inductive Deed
  | pas (a b : Nat)
  | los (a b : Nat)
  | rst (r : Nat)
  | wri (r c : Nat)
def Deed.vs : Deed → List V
  | .pas a b => [.str "pass", .int (a : Int), .int (b : Int)]
  | .los a b => [.str "lose", .int (a : Int), .int (b : Int)]
  | .rst r => [.str "restart", .int (r : Int)]
  | .wri r c => [.str "write", .int (r : Int), .int (c : Int)]
def Deed.ds : Deed → List PyData
  | .pas a b => [.str "pass", .int (a : Int), .int (b : Int)]
  | .los a b => [.str "lose", .int (a : Int), .int (b : Int)]
  | .rst r => [.str "restart", .int (r : Int)]
  | .wri r c => [.str "write", .int (r : Int), .int (c : Int)]
def Deed.d (x : Deed) : PyData := .tuple x.ds
def Deed.ok (n : Nat) (js : List Wy) (rs : Bool) : Deed → Prop
  | .pas a b => [(a : Int), (b : Int)] ∈ js
  | .los a b => [(a : Int), (b : Int)] ∈ js
  | .rst r => r < n ∧ rs = true
  | .wri r c => r < n ∧ c < 100
theorem Deed.dqa (H : Hp) : ∀ x : Deed, DqA H x.vs x.ds
  | .pas a b => .cons (.str _) (.cons (.int _) (.cons (.int _) .nil))
  | .los a b => .cons (.str _) (.cons (.int _) (.cons (.int _) .nil))
  | .rst r => .cons (.str _) (.cons (.int _) .nil)
  | .wri r c => .cons (.str _) (.cons (.int _) (.cons (.int _) .nil))
theorem Deed.dq {H : Hp} {t : Addr} {x : Deed} (h : H t = some (.tup x.vs)) : Dq H (.ref t) x.d := .tup h (x.dqa H)
theorem Deed.inv {H : Hp} {v : V} {x : Deed} (h : Dq H v x.d) : ∃ t, v = .ref t ∧ H t = some (.tup x.vs) := by
  unfold Deed.d at h
  cases h with
  | @tup a xs _ h1 h2 =>
    refine ⟨a, rfl, ?_⟩
    rw [h1]
    cases x with
    | pas a b => obtain _ | ⟨⟨⟩, _ | ⟨⟨⟩, _ | ⟨⟨⟩, _ | _⟩⟩⟩ := h2; rfl
    | los a b => obtain _ | ⟨⟨⟩, _ | ⟨⟨⟩, _ | ⟨⟨⟩, _ | _⟩⟩⟩ := h2; rfl
    | rst r => obtain _ | ⟨⟨⟩, _ | ⟨⟨⟩, _ | _⟩⟩ := h2; rfl
    | wri r c => obtain _ | ⟨⟨⟩, _ | ⟨⟨⟩, _ | ⟨⟨⟩, _ | _⟩⟩⟩ := h2; rfl
theorem new_back {G H H1 : Hp} {p q t : Addr} (h : Pm G H p q) (o : Of1 p H H1) (h1 : Pm G H1 p q) (ht : H1 t = none) : H t = none := by
  cases e : H t with
  | none => rfl
  | some u =>
    have np := h1.np ht
    rw [o _ _ np e] at ht
    cases ht
end Wk

set_option Elab.async false
set_option linter.all false
set_option maxRecDepth 100000
set_option maxHeartbeats 2000000
namespace Wk
open PySem PySem.Spec PyProof.Rows L2 Evl
/-! what stays grows by new things only -/
structure Gr (p q : Addr) (G H G' H' : Hp) : Prop where
  ex : Ex G G'
  nw : ∀ b, G b = none → H b ≠ none → G' b = none
  off : Of1 p H H'
  pl : Pm G' H' p q
theorem Gr.refl {p q : Addr} {G H : Hp} (h : Pm G H p q) : Gr p q G H G H := ⟨Ex.refl _, fun _ h _ => h, Of1.refl _ _, h⟩
theorem Gr.trans {p q : Addr} {G H G1 H1 G2 H2 : Hp} (a : Gr p q G H G1 H1) (b : Gr p q G1 H1 G2 H2) : Gr p q G H G2 H2 := by
  refine ⟨a.ex.trans b.ex, fun c hc hh => ?_, a.off.trans b.off, b.pl⟩
  by_cases cp : c = p
  · rw [cp]; exact b.pl.gp
  refine b.nw c (a.nw c hc hh) ?_
  cases hx : H c with
  | none => exact absurd hx hh
  | some o => rw [a.off c o cp hx]; simp
theorem Gr.new {p q t : Addr} {G H : Hp} {o : HO} (h : Pm G H p q) (ht : H t = none) : Gr p q G H (upd G t o) (upd H t o) := by
  refine ⟨Ex.new (fresh_back h.ex ht), fun b hb hh => ?_, Of1.ex (Ex.new ht), h.new ht⟩
  have nb : b ≠ t := fun z => hh (by rw [z]; exact ht)
  rw [upd_ne nb]
  exact hb
theorem Gr.ext {p q : Addr} {G H H' : Hp} (h : Pm G H p q) (e : Ex H H') : Gr p q G H G H' := ⟨Ex.refl _, fun _ h _ => h, Of1.ex e, h.ext e⟩
theorem Gr.draw {p q : Addr} {G H H' : Hp} (h : Pm G H p q) (h' : Pm (Hd1 H p) H' p q) : Gr p q G H G H' := ⟨Ex.refl _, fun _ h _ => h, h'.off, h.back h'⟩
/-! displays -/
def EvDt (p q : Addr) (te : TE) (σ : L2.St) (d : PyData) : Prop := ∀ G H, Pm G H p q → ∀ Q : VK, (∀ G' H' v, Gr p q G H G' H' → Dq G' v d → Q v H') → te σ H Q
def EvDA (p q : Addr) (ta : TA) (σ : L2.St) (ds : List PyData) : Prop := ∀ G H, Pm G H p q → ∀ Q : List V → Hp → Prop, (∀ G' H' vs, Gr p q G H G' H' → DqA G' vs ds → Q vs H') → ta σ H Q
section
variable {p q : Addr} {σ : L2.St} {te tb : TE} {ta : TA} {d : PyData} {ds es : List PyData}
theorem ed_c {v : V} (h : ∀ G, Dq G v d) : EvDt p q (tC v) σ d := fun G H hP Q k => k G H v (Gr.refl hP) (h G)
theorem ed_int {i : Nat} {x : Int} (h : σ[i]? = some (some (.int x))) : EvDt p q (tVar i) σ (.int x) := fun G H hP Q k => ⟨.int x, h, k G H _ (Gr.refl hP) (.int x)⟩
theorem ed_nil : EvDA p q tNil σ [] := fun G H hP Q k => k G H [] (Gr.refl hP) .nil
theorem ed_cons (h : EvDt p q te σ d) (hr : EvDA p q ta σ ds) : EvDA p q (tCons te ta) σ (d :: ds) := fun G H hP Q k =>
  h G H hP _ fun G1 H1 v g1 hv => hr G1 H1 g1.pl _ fun G2 H2 vs g2 hvs => k G2 H2 (v :: vs) (g1.trans g2) (.cons (hv.mono g2.ex) hvs)
theorem ed_tup (h : EvDA p q ta σ ds) (hl : ds.length ≤ 1000) : EvDt p q (tTup ta) σ (.tuple ds) := fun G H hP Q k =>
  h G H hP _ fun G1 H1 vs g1 hvs => ⟨by have := hvs.length; rw [sizeLine_eq]; omega, fun t ht => k (upd G1 t (.tup vs)) _ (.ref t) (g1.trans (Gr.new g1.pl ht)) (.tup upd_same (hvs.mono (Gr.new (o := .tup vs) g1.pl ht).ex))⟩
theorem ed_lst (h : EvDA p q ta σ ds) (hl : ds.length ≤ 1000) : EvDt p q (tLst ta) σ (.list ds) := fun G H hP Q k =>
  h G H hP _ fun G1 H1 vs g1 hvs => ⟨by have := hvs.length; rw [sizeLine_eq]; omega, fun t ht => k (upd G1 t (.lst vs)) _ (.ref t) (g1.trans (Gr.new g1.pl ht)) (.lst upd_same (hvs.mono (Gr.new (o := .lst vs) g1.pl ht).ex))⟩
theorem ed_dict : EvDt p q tDNewK σ (.dict []) := fun G H hP Q k t ht => k (upd G t (.dK [])) _ (.ref t) (Gr.new hP ht) (.dic upd_same)
/-- things + [..] -/
theorem ed_cat (G0 : Hp) {v : V} {i : Nat} (hv : σ[i]? = some (some v)) (h0 : Dq G0 v (.list ds)) (hb : EvDt p q tb σ (.list es)) (hl : ds.length + es.length ≤ 1000) {H : Hp} (hP : Pm G0 H p q) {Q : VK} (k : ∀ G' H' v, Gr p q G0 H G' H' → Dq G' v (.list (ds ++ es)) → Q v H') : tOp rCat (tVar i) tb σ H Q := by
  refine ⟨v, hv, hb G0 H hP _ fun G1 H1 u g1 hu => ?_⟩
  have h1 := h0.mono g1.ex
  cases h1 with
  | lst a1 a2 =>
    cases hu with
    | lst b1 b2 =>
      rename_i aa xs ab ys
      have l1 := a2.length
      have l2 := b2.length
      refine ⟨aa, ab, xs, ys, rfl, rfl, g1.pl.ex _ _ a1, g1.pl.ex _ _ b1, by rw [sizeLine_eq]; omega, fun t ht => ?_⟩
      have gn := Gr.new (o := .lst (xs ++ ys)) g1.pl ht
      exact k _ _ (.ref t) (g1.trans gn) (.lst upd_same ((a2.append b2).mono gn.ex))
end
theorem q_asgD {p q : Addr} {i : Nat} {te : TE} {tz : TS} {D : Ends} {σ : L2.St} {G H : Hp} {d : PyData} (h : EvDt p q te σ d) (hP : Pm G H p q) (k : ∀ G' H' v, Gr p q G H G' H' → Dq G' v d → tz D (σ.set i (some v)) H') : tSeq (tAsg te (gName i)) tz D σ H := h G H hP _ k
theorem q_catD {p q : Addr} {i j : Nat} {tb : TE} {tz : TS} {D : Ends} {σ : L2.St} {H : Hp} {ds es : List PyData} (G0 : Hp) {v : V} (hv : σ[i]? = some (some v)) (h0 : Dq G0 v (.list ds)) (hb : EvDt p q tb σ (.list es)) (hl : ds.length + es.length ≤ 1000) (hP : Pm G0 H p q) (k : ∀ G' H' v, Gr p q G0 H G' H' → Dq G' v (.list (ds ++ es)) → tz D (σ.set j (some v)) H') : tSeq (tAsg (tOp rCat (tVar i) tb) (gName j)) tz D σ H := ed_cat G0 hv h0 hb hl hP k
end Wk

set_option Elab.async false
set_option linter.all false
set_option maxRecDepth 100000
set_option maxHeartbeats 4000000
namespace PySem.SeqAt
open AutoSeq1 (wpAny_loadPart')
open MeetsSeq MeetsSeq2 MeetsSeq3 SeqRoads2
section
variable {prog : Program} {w : World}
/-- != of tuples within one world -/
theorem tuple_neIn (l b : Addr) (items items2 : Array Value) (n n2 : Nat) (dd dd2 : Option Addr) (sl sl2 : Array (Option Value)) (e : Nat → Bool) :
    MeetsIn prog w (Builtin.«tuple.__ne__» ⟨[.ref l, .ref b], []⟩)
      (fun A R s => s.heap.get? l = some { cls := .type "tuple", dict := dd, data := .seq items n, slots := sl } ∧ s.heap.get? b = some { cls := .type "tuple", dict := dd2, data := .seq items2 n2, slots := sl2 } ∧
        (∀ j (h1 : j < items.size) (h2 : j < items2.size), EqIn prog w A.in1 s items[j] items2[j] (e j)) ∧
        R (.ok (.ret (.bool (!((List.range (min items.size items2.size)).all e && items.size == items2.size))))) s) :=
  .of_wp fun A R s h => by
    obtain ⟨hp, g, d, tk, os⟩ := s; obtain ⟨hl, hb, he, h⟩ := h
    have f2 := AutoSeq1.sub_tuple_tuple
    have hZ : (items.toList.zip items2.toList).length = min items.size items2.size := by simp
    wp_walk using wpAny_loadPart' hl, wpAny_loadPart' hb, wpAny_forIn_list _ (fun rest b s' => b.1 = none ∧ s' = ⟨hp, g, d, tk, os⟩ ∧ ∃ i, rest = (items.toList.zip items2.toList).drop i ∧
      R (.ok (.ret (.bool (!(((List.range (min items.size items2.size)).drop i).all e && items.size == items2.size))))) ⟨hp, g, d, tk, os⟩) _
    case turn =>
      rintro ⟨y, x⟩ rest b s' ⟨hb', rfl, i, hz, hR⟩
      have hlt : i < (items.toList.zip items2.toList).length := by
        rcases Nat.lt_or_ge i (items.toList.zip items2.toList).length with h' | h'
        · exact h'
        · rw [List.drop_of_length_le h'] at hz; cases hz
      have hm : i < min items.size items2.size := hZ ▸ hlt
      have h1 : i < items.size := Nat.lt_of_lt_of_le hm (Nat.min_le_left _ _)
      have h2 : i < items2.size := Nat.lt_of_lt_of_le hm (Nat.min_le_right _ _)
      rw [List.drop_eq_getElem_cons hlt] at hz
      injection hz with hyx hrest
      have hy : y = items[i] := by have := congrArg Prod.fst hyx; simpa using this
      have hx : x = items2[i] := by have := congrArg Prod.snd hyx; simpa using this
      subst hy hx
      have hd : (List.range (min items.size items2.size)).drop i = i :: (List.range (min items.size items2.size)).drop (i + 1) := by simp [List.drop_eq_getElem_cons, hm]
      rw [hd, List.all_cons] at hR
      refine wpAny_bind (he i h1 h2 _ _ ?_)
      cases hy : e i with
      | true =>
        rw [hy] at hR
        wp_walk
        exact ⟨rfl, rfl, i + 1, hrest, by simpa using hR⟩
      | false =>
        rw [hy] at hR
        wp_walk
        exact ⟨_, rfl, by simpa using hR⟩
    case fin =>
      rintro ⟨b1, b2⟩ s' ⟨hb', rfl, i, hz, hR⟩
      simp only at hb'
      subst hb'
      have hge : min items.size items2.size ≤ i := by
        rcases Nat.lt_or_ge i (items.toList.zip items2.toList).length with h' | h'
        · rw [List.drop_eq_getElem_cons h'] at hz; cases hz
        · exact hZ ▸ h'
      rw [List.drop_of_length_le (by simpa using hge)] at hR
      wp_walk
      exact ⟨_, rfl, by simpa [Builtin.Tuple.tupleCompareSizes, bne] using hR⟩
    case h =>
      exact ⟨rfl, rfl, 0, rfl, by simpa using h⟩
end
section
variable {prog : Program} {w : World} {A : Around} {s : Shared}
theorem rcIn_tuples_ne {E : Value → Shared → Prop} {l b : Addr} {items items2 : Array Value} {e : Nat → Bool} {Q : Value → Shared → Prop} (hl : s.heap.IsTuple l items) (hb : s.heap.IsTuple b items2) (hu : A.units < cLine)
    (he : ∀ j (h1 : j < items.size) (h2 : j < items2.size), EqIn prog w A.in1 s items[j] items2[j] (e j)) (h : Q (.bool (!((List.range (min items.size items2.size)).all e && items.size == items2.size))) s) :
    wpAny (model prog w) A (richCompare .NotEq (.ref l) (.ref b)) Q E s := by
  obtain ⟨⟨cls, dd, data, sl⟩, ho, hc, n, hd⟩ := id hl
  obtain ⟨⟨cls2, dd2, data2, sl2⟩, ho2, hc2, n2, hd2⟩ := id hb
  simp only at hc hd hc2 hd2
  subst hc hd hc2 hd2
  exact wpAny_richCompare_same_room (T := "tuple") (op := .NotEq) ⟨_, ho, rfl⟩ ⟨_, ho2, rfl⟩ F.slot_tuple_ne (call_meetsIn F.slot_tuple_ne ⟨_, ho, rfl⟩ F.entry_tuple_ne (F.args_tuple_ne_2 _ _) (tuple_neIn l b items items2 n n2 dd dd2 sl sl2 e)
    ⟨ho, ho2, he, show Value.bool (!((List.range (min items.size items2.size)).all e && items.size == items2.size)) ≠ Value.notImplemented ∧ Q (.bool (!((List.range (min items.size items2.size)).all e && items.size == items2.size))) s from ⟨(fun x => nomatch x), h⟩⟩) hu
end
end PySem.SeqAt
namespace Wk
open PySem PySem.Spec PyProof.Rows L2 Evl
/-! entries compared -/
def gtE (x y : Int × Int) : Bool := if x.1 = y.1 then decide (y.2 < x.2) else decide (y.1 < x.1)
def rGtP (K : PySem.W.Frag) : R2 := fun x y H Q => ∃ (a b : Addr) (p q : Int × Int), x = .ref a ∧ y = .ref b ∧ SqT K H a [.int p.1, .int p.2] ∧ SqT K H b [.int q.1, .int q.2] ∧ Q (.bl (gtE p q)) H
theorem op_gtP {X : Cx} {K : PySem.W.Frag} (hK : X.K = K) (hu : X.A.units < cLine) : OpR X (compareOp .Gt) (rGtP K) := by
  subst hK
  intro pins s σ H x y v u Q I rx ry h
  obtain ⟨a, b, p, q', rfl, rfl, ha, hb, q⟩ := h
  cases rx
  cases ry
  obtain ⟨its, r1, p1, _⟩ := I.tuple ha
  obtain ⟨its2, r2, p2, _⟩ := I.tuple hb
  have i1 : IntsAre its [p.1, p.2] := Vals.ints (ns := [p.1, p.2]) r1
  have i2 : IntsAre its2 [q'.1, q'.2] := Vals.ints (ns := [q'.1, q'.2]) r2
  have e1 : its.toArray.size = 2 := by rw [List.size_toArray]; exact i1.length
  have e2 : its2.toArray.size = 2 := by rw [List.size_toArray]; exact i2.length
  have at1 : ∀ j (h1 : j < its.toArray.size), ∃ t, its.toArray[j] = .int ([p.1, p.2].getD j 0) t := fun j h1 => PyProof.Rows.IntsAre.int_at i1 _ _ (by simp at h1; simp [h1])
  have at2 : ∀ j (h1 : j < its2.toArray.size), ∃ t, its2.toArray[j] = .int ([q'.1, q'.2].getD j 0) t := fun j h1 => PyProof.Rows.IntsAre.int_at i2 _ _ (by simp at h1; simp [h1])
  have R := Ob.RcOp.tuples_gt (A := X.A) (s := s) (e := fun j => decide ([p.1, p.2].getD j 0 = [q'.1, q'.2].getD j 0)) (r := fun j => decide ([p.1, p.2].getD j 0 > [q'.1, q'.2].getD j 0)) p1 p2 hu (fun j h1 h2 => by
    obtain ⟨t, et⟩ := at1 j h1
    obtain ⟨t', et'⟩ := at2 j h2
    rw [et, et']
    have z : ([p.1, p.2].getD j 0 == [q'.1, q'.2].getD j 0) = decide ([p.1, p.2].getD j 0 = [q'.1, q'.2].getD j 0) := by
      by_cases q : [p.1, p.2].getD j 0 = [q'.1, q'.2].getD j 0
      · rw [decide_eq_true q]; exact beq_iff_eq.mpr q
      · rw [decide_eq_false q]; exact beq_eq_false_iff_ne.mpr q
    rw [← z]
    exact SeqAt.EqAt.int_int _ _ _ _) (fun j h1 h2 _ => by
    obtain ⟨t, et⟩ := at1 j h1
    obtain ⟨t', et'⟩ := at2 j h2
    rw [et, et']
    exact Ob.RcOp.gt_int _ _ _ _)
  rw [e1, e2] at R
  have ev : Ob.lexAt (fun j => decide ([p.1, p.2].getD j 0 = [q'.1, q'.2].getD j 0)) (fun j => decide ([p.1, p.2].getD j 0 > [q'.1, q'.2].getD j 0)) (decide (2 > 2)) 0 (min 2 2) = gtE p q' := by
    show Ob.lexAt _ _ _ 0 2 = _
    rw [Ob.lexAt_succ, Ob.lexAt_succ, Ob.lexAt_zero]
    show (if decide (p.1 = q'.1) = true then (if decide (p.2 = q'.2) = true then decide (2 > 2) else decide (p.2 > q'.2)) else decide (p.1 > q'.1)) = _
    unfold gtE
    by_cases h1 : p.1 = q'.1
    · by_cases h2 : p.2 = q'.2
      · simp [h1, h2]
      · simp [h1, h2]
    · simp [h1]
  have z : wpAny (model X.prog X.w) X.A (compareOp .Gt (.ref a) (.ref b)) (EP X pins σ Q) X.xe s := R X.prog X.w X.xe (EP X pins σ Q) ⟨.bl (gtE p q'), H, I, congrArg Value.bool ev, q⟩
  exact z
/-! == and != of tuples and dicts, nested -/
inductive EqV (H : Hp) : Nat → V → V → Bool → Prop
  | data {n : Nat} {x y : V} {d e : PyData} : Dq H x d → Dq H y e → d.canLay0 = true → e.canLay0 = true → d.depth ≤ n → EqV H n x y (PyData.eqv d e)
  | same {n : Nat} {a : Addr} : EqV H n (.ref a) (.ref a) true
  | tup {n : Nat} {a b : Addr} {xs ys : List V} (e : Nat → Bool) : a ≠ b → H a = some (.tup xs) → H b = some (.tup ys) → (∀ j x y, xs[j]? = some x → ys[j]? = some y → EqV H n x y (e j)) →
      EqV H (n + 1) (.ref a) (.ref b) ((List.range (min xs.length ys.length)).all e && xs.length == ys.length)
  | dic {n : Nat} {a b : Addr} {ks ls : List (L2.Key × V)} (e : L2.Key → Bool) : a ≠ b → H a = some (.dK ks) → H b = some (.dK ls) → (∀ k v y, (k, v) ∈ ks → valV ls k = some y → EqV H n v y (e k)) →
      EqV H (n + 1) (.ref a) (.ref b) (ks.length == ls.length && ks.all fun p => (valV ls p.1).isSome && e p.1)
theorem kv_mem {ks : List (L2.Key × V)} {vs : List (L2.Key × Value)} (r : KV ks vs) {k : L2.Key} {u : Value} (h : (k, u) ∈ vs) : ∃ v, (k, v) ∈ ks ∧ RelV v u := by
  induction r with
  | nil => cases h
  | @cons p q ps qs h1 t ih =>
    rcases List.mem_cons.mp h with e | e
    · obtain ⟨h2, h3⟩ := h1
      refine ⟨p.2, List.mem_cons.mpr (.inl ?_), ?_⟩
      · rw [show k = p.1 by rw [h2, ← e]]
      · rw [← e] at h3; exact h3
    · obtain ⟨v, a, b⟩ := ih e
      exact ⟨v, List.mem_cons_of_mem _ a, b⟩
theorem kv_all {ks : List (L2.Key × V)} {vs : List (L2.Key × Value)} (r : KV ks vs) (f : L2.Key → Bool) : (vs.all fun p => f p.1) = (ks.all fun p => f p.1) := by
  induction r with
  | nil => rfl
  | @cons p q ps qs h1 t ih =>
    rw [List.all_cons, List.all_cons, ih, h1.1]
section
variable {X : Cx} {pins : List (Addr × Obj)} {σ : L2.St} {H : Hp} {s : Shared}
theorem EqV.tree (I : Inv X pins σ H s) {n : Nat} {x y : V} {b : Bool} (t : EqV H n x y b) : ∀ v u, RelV x v → RelV y u → PySem.W.EqTree X.prog X.w s n v u b := by
  induction t with
  | @data n x y d e hx hy hd he hdep =>
    intro v u rv ru
    obtain ⟨as, ra⟩ := Dp.reads I d x v (Dq.dp (K := X.K) hd hx) rv
    obtain ⟨bs, rb⟩ := Dp.reads I e y u (Dq.dp (K := X.K) he hy) ru
    exact .leaf fun A hu => SeqAt.eqAt_reads d e A s v u as bs ra rb hd he (by have := Nat.min_le_left d.depth e.depth; omega)
  | same =>
    intro v u rv ru
    cases rv
    cases ru
    exact .same
  | @tup n a b xs ys e hne ha hb _ ih =>
    intro v u rv ru
    cases rv
    cases ru
    obtain ⟨its, r1, p1, _⟩ := I.tuple (st_of ha)
    obtain ⟨its2, r2, p2, _⟩ := I.tuple (st_of hb)
    have z := PySem.W.EqTree.tuples (prog := X.prog) (w := X.w) (n := n) (e := e) hne p1 p2 fun j h1 h2 => by
      have h1' : j < xs.length := by rw [r1.length]; simpa using h1
      have h2' : j < ys.length := by rw [r2.length]; simpa using h2
      obtain ⟨v1, e1, q1⟩ := r1.get (List.getElem?_eq_getElem h1')
      obtain ⟨v2, e2, q2⟩ := r2.get (List.getElem?_eq_getElem h2')
      have g1 : its.toArray[j] = v1 := by
        have : its[j]? = some v1 := e1
        obtain ⟨_, w⟩ := List.getElem?_eq_some_iff.mp this
        simpa using w
      have g2 : its2.toArray[j] = v2 := by
        have : its2[j]? = some v2 := e2
        obtain ⟨_, w⟩ := List.getElem?_eq_some_iff.mp this
        simpa using w
      rw [g1, g2]
      exact ih j _ _ (List.getElem?_eq_getElem h1') (List.getElem?_eq_getElem h2') v1 v2 q1 q2
    rw [List.size_toArray, List.size_toArray, ← r1.length, ← r2.length] at z
    exact z
  | @dic n a b ks ls e hne ha hb _ ih =>
    intro v u rv ru
    cases rv
    cases ru
    obtain ⟨_, hsa, va, ra, da⟩ := dk_of I.hok ha
    obtain ⟨_, hsb, vb, rb, db⟩ := dk_of I.hok hb
    have z := PySem.W.EqTree.dicts (prog := X.prog) (w := X.w) (n := n) (e := e) hne hsa hsb da db fun k v1 y1 hm hv => by
      obtain ⟨v2, m2, q2⟩ := kv_mem ra hm
      have ro := rb.val k
      rw [hv] at ro
      cases hl : valV ls k with
      | none => rw [hl] at ro; cases ro
      | some y2 =>
        rw [hl] at ro
        exact ih k v2 y2 m2 hl v1 y1 q2 ro
    have e2 : (va.all fun p => (valueAt vb p.1).isSome && e p.1) = (ks.all fun p => (valV ls p.1).isSome && e p.1) := by
      rw [kv_all ra fun k => (valueAt vb k).isSome && e k]
      congr 1
      funext p
      rw [(rb.val p.1).isSome_eq]
    rw [e2, ← ra.length, ← rb.length] at z
    exact z
def rEqX : R2 := fun x y H Q => ∃ (a b : Addr) (xs ys : List V) (e : Nat → Bool) (n : Nat), x = .ref a ∧ y = .ref b ∧ H a = some (.tup xs) ∧ H b = some (.tup ys) ∧ n ≤ 20 ∧ (∀ j x y, xs[j]? = some x → ys[j]? = some y → EqV H n x y (e j)) ∧ Q (.bl ((List.range (min xs.length ys.length)).all e && xs.length == ys.length)) H
def rNeX : R2 := fun x y H Q => ∃ (a b : Addr) (xs ys : List V) (e : Nat → Bool) (n : Nat), x = .ref a ∧ y = .ref b ∧ H a = some (.tup xs) ∧ H b = some (.tup ys) ∧ n ≤ 20 ∧ (∀ j x y, xs[j]? = some x → ys[j]? = some y → EqV H n x y (e j)) ∧ Q (.bl (!((List.range (min xs.length ys.length)).all e && xs.length == ys.length))) H
theorem at_arr {its : List Value} {xs : List V} (r : Vals xs its) {j : Nat} (h1 : j < its.toArray.size) : ∃ x, xs[j]? = some x ∧ RelV x its.toArray[j] := by
  have h1' : j < xs.length := by rw [r.length]; simpa using h1
  obtain ⟨v1, e1, q1⟩ := r.get (List.getElem?_eq_getElem h1')
  have g1 : its.toArray[j] = v1 := by
    have : its[j]? = some v1 := e1
    obtain ⟨_, w⟩ := List.getElem?_eq_some_iff.mp this
    simpa using w
  rw [g1]
  exact ⟨_, List.getElem?_eq_getElem h1', q1⟩
theorem op_eqX (hu : X.A.units + 64 < cLine) : OpR X (compareOp .Eq) rEqX := by
  intro pins s σ H x y v u Q I rx ry h
  obtain ⟨a, b, xs, ys, e, n, rfl, rfl, ha, hb, hn, he, q⟩ := h
  cases rx
  cases ry
  obtain ⟨its, r1, p1, _⟩ := I.tuple (st_of ha)
  obtain ⟨its2, r2, p2, _⟩ := I.tuple (st_of hb)
  refine PySem.W.eq_tuplesT (n := n) (e := e) p1 p2 (fun j h1 h2 => ?_) (by omega) ⟨.bl _, H, I, rfl, ?_⟩
  · obtain ⟨x1, ex, qx⟩ := at_arr r1 h1
    obtain ⟨y1, ey, qy⟩ := at_arr r2 h2
    exact (he j x1 y1 ex ey).tree I _ _ qx qy
  · rw [List.size_toArray, List.size_toArray, ← r1.length, ← r2.length]
    exact q
theorem op_neX (hu : X.A.units + 64 < cLine) : OpR X (compareOp .NotEq) rNeX := by
  intro pins s σ H x y v u Q I rx ry h
  obtain ⟨a, b, xs, ys, e, n, rfl, rfl, ha, hb, hn, he, q⟩ := h
  cases rx
  cases ry
  obtain ⟨its, r1, p1, _⟩ := I.tuple (st_of ha)
  obtain ⟨its2, r2, p2, _⟩ := I.tuple (st_of hb)
  refine SeqAt.rcIn_tuples_ne (e := e) p1 p2 (by omega) (fun j h1 h2 => ?_) ⟨.bl _, H, I, rfl, ?_⟩
  · obtain ⟨x1, ex, qx⟩ := at_arr r1 h1
    obtain ⟨y1, ey, qy⟩ := at_arr r2 h2
    exact ((he j x1 y1 ex ey).tree I _ _ qx qy).at X.A.in1 (by show X.A.in1.units + n < cLine; simp; omega)
  · rw [List.size_toArray, List.size_toArray, ← r1.length, ← r2.length]
    exact q
end
/-! t * n of a tuple -/
theorem tuple_mul1 (l : Addr) (items : Array Value) (n : Nat) (dd : Option Addr) (sl : Array (Option Value)) (u : Tok) :
    Meets (Builtin.«tuple.__mul__» ⟨[.ref l, .int 1 u], []⟩) (fun _ R s => s.heap.get? l = some { cls := .type "tuple", dict := dd, data := .seq items n, slots := sl } ∧ R (.ok (.ret (Value.ref l))) s) :=
  .of_wp fun prog w A R s h => by
    obtain ⟨hp, g, d, tk, os⟩ := s
    obtain ⟨hl, h⟩ := h
    have f1 := AutoSeq1.idx_int
    wp_walk using wpAny_loadPart' hl
    exact ⟨_, rfl, h⟩
end Wk

set_option Elab.async false
set_option linter.all false
set_option maxRecDepth 100000
set_option maxHeartbeats 2000000
namespace Wk
open PySem PySem.Spec PyProof.Rows L2 Evl
/-! dicts whose keys are whole numbers, made by a comprehension -/
def pf (g : Int → V) (ks : List Int) : List (L2.Key × V) := ks.foldl (fun a k => putK a (.inl k) (g k)) []
theorem pf_snoc (g : Int → V) (ks : List Int) (k : Int) : pf g (ks ++ [k]) = putK (pf g ks) (.inl k) (g k) := by
  unfold pf
  rw [List.foldl_append]
  rfl
theorem putK_old {kvs : List (L2.Key × V)} {k : L2.Key} {v : V} (hm : k ∈ kvs.map (·.1)) : (putK kvs k v).map (·.1) = kvs.map (·.1) := by
  unfold putK
  have h : (kvs.any fun kv => decide (kv.1 = k)) = true := by
    obtain ⟨p, hp, e⟩ := List.mem_map.mp hm
    exact List.any_eq_true.mpr ⟨p, hp, decide_eq_true e⟩
  rw [if_pos h, List.map_map]
  refine List.map_congr_left fun p _ => ?_
  show (if p.1 = k then (p.1, v) else p).1 = p.1
  split <;> rfl
theorem putK_new {kvs : List (L2.Key × V)} {k : L2.Key} {v : V} (h : k ∉ kvs.map (·.1)) : putK kvs k v = kvs ++ [(k, v)] := by
  unfold putK
  have h' : ¬ (kvs.any fun kv => decide (kv.1 = k)) = true := fun z => by
    obtain ⟨p, hp, e⟩ := List.any_eq_true.mp z
    exact h (List.mem_map.mpr ⟨p, hp, of_decide_eq_true e⟩)
  rw [if_neg h']
/-- the keys of a dict are whole numbers that differ -/
def NK (kvs : List (L2.Key × V)) (ks : List Int) : Prop := kvs.map (·.1) = ks.map Sum.inl ∧ ks.Nodup
theorem NK.put {kvs : List (L2.Key × V)} {ks : List Int} (h : NK kvs ks) (k : Int) (v : V) : NK (putK kvs (.inl k) v) (if k ∈ ks then ks else ks ++ [k]) := by
  have hm : (Sum.inl k : L2.Key) ∈ kvs.map (·.1) ↔ k ∈ ks := by
    rw [h.1, List.mem_map]
    constructor
    · rintro ⟨x, hx, e⟩
      injection e with e
      rw [← e]; exact hx
    · exact fun hk => ⟨k, hk, rfl⟩
  unfold NK
  by_cases hk : k ∈ ks
  · rw [if_pos hk, putK_old (hm.mpr hk)]
    exact h
  · rw [if_neg hk, putK_new (fun z => hk (hm.mp z))]
    refine ⟨?_, nd_snoc h.2 hk⟩
    rw [List.map_append, List.map_append, h.1]
    rfl
theorem valV_pf (g : Int → V) (k : Int) : ∀ n (ks : List Int), ks.length = n → valV (pf g ks) (.inl k) = if k ∈ ks then some (g k) else none
  | 0, ks, h => by
    rw [List.length_eq_zero_iff.mp h]
    rfl
  | n + 1, ks, h => by
    obtain ⟨l, x, rfl⟩ : ∃ l x, ks = l ++ [x] := ⟨ks.dropLast, ks.getLast (by intro z; rw [z] at h; cases h), (List.dropLast_concat_getLast _).symm⟩
    have ih := valV_pf g k n l (by simpa using h)
    rw [pf_snoc, valV_put, ih]
    by_cases e : k = x
    · rw [if_pos (by rw [e]), if_pos (by rw [e]; simp), e]
    · rw [if_neg (fun z => e (by injection z))]
      by_cases hl : k ∈ l
      · rw [if_pos hl, if_pos (List.mem_append_left _ hl)]
      · rw [if_neg hl, if_neg (fun z => (List.mem_append.mp z).elim hl fun y => e (List.mem_singleton.mp y))]
theorem nk_pf (g : Int → V) : ∀ n (ks : List Int), ks.length = n → ∃ js, NK (pf g ks) js ∧ (∀ k, k ∈ js ↔ k ∈ ks) ∧ js.length ≤ n
  | 0, ks, h => by
    rw [List.length_eq_zero_iff.mp h]
    exact ⟨[], ⟨rfl, List.nodup_nil⟩, fun k => Iff.rfl, Nat.le_refl _⟩
  | n + 1, ks, h => by
    obtain ⟨l, x, rfl⟩ : ∃ l x, ks = l ++ [x] := ⟨ks.dropLast, ks.getLast (by intro z; rw [z] at h; cases h), (List.dropLast_concat_getLast _).symm⟩
    obtain ⟨js, h1, h2, h3⟩ := nk_pf g n l (by simpa using h)
    have z := h1.put x (g x)
    rw [← pf_snoc] at z
    refine ⟨_, z, fun k => ?_, ?_⟩
    · by_cases hx : x ∈ js
      · rw [if_pos hx, h2, List.mem_append, List.mem_singleton]
        exact ⟨fun h => .inl h, fun h => h.elim id fun e => by rw [e]; exact (h2 x).mp hx⟩
      · rw [if_neg hx, List.mem_append, List.mem_append, h2]
    · split
      · omega
      · rw [List.length_append]; simp; omega
theorem pf_nodup (g : Int → V) : ∀ n (ks : List Int), ks.length = n → ks.Nodup → pf g ks = ks.map fun k => (Sum.inl k, g k)
  | 0, ks, h, _ => by
    rw [List.length_eq_zero_iff.mp h]
    rfl
  | n + 1, ks, h, nd => by
    obtain ⟨l, x, rfl⟩ : ∃ l x, ks = l ++ [x] := ⟨ks.dropLast, ks.getLast (by intro z; rw [z] at h; cases h), (List.dropLast_concat_getLast _).symm⟩
    have hx : x ∉ l := fun z => by
      have := (List.nodup_append.mp nd).2.2 x z x (by simp)
      exact this rfl
    have ih := pf_nodup g n l (by simpa using h) (List.nodup_append.mp nd).1
    rw [pf_snoc, ih, putK_new, List.map_append]
    · rfl
    · rw [List.map_map, List.mem_map]
      rintro ⟨y, hy, e⟩
      have e : y = x := by injection e
      exact hx (e ▸ hy)
theorem filter_take {ks : List Int} {f : Int → Bool} {i : Nat} {k : Int} (h : ks[i]? = some k) : (ks.take (i + 1)).filter f = (ks.take i).filter f ++ (if f k = true then [k] else []) := by
  rw [take_snoc h, List.filter_append]
  congr 1
  by_cases z : f k = true
  · rw [if_pos z]; simp [z]
  · rw [if_neg z]; simp [z]
def Yk (ks : List Int) : Nat → Hp → V → Hp → Prop := fun i H x H' => H' = H ∧ ∃ k, ks[i]? = some k ∧ x = .int k
/-- {k: v for k in .. if ..} -/
theorem dc_it {J : It} {ks : List Int} {Gd : Hp → Prop} {j : Nat} {vs : List Nat} {σ : L2.St} {H : Hp} {D : Addr} {Qd : Hp → Prop} {tt : TT} {tv : TE} (f : Int → Bool) (g : Int → V) (w : Walk J ks.length Gd (Yk ks)) (hD : H D = none) (hn : ks.length ≤ 1000)
    (hG : ∀ H', Ex H H' → Gd H') (hw : ∀ x, wipe ((wipe σ vs).set j (some x)) vs = wipe σ vs) (hj : j < σ.length)
    (ht : ∀ k ∈ ks, ∀ H', Ex H H' → EvT tt ((wipe σ vs).set j (some (.int k))) H' (f k)) (hv : ∀ k ∈ ks, f k = true → ∀ H', Ex H H' → Ev tv ((wipe σ vs).set j (some (.int k))) H' (g k))
    (hq : ∀ H', Ex H H' → H' D = some (.dK (pf g (ks.filter f))) → Qd H') :
    ∃ W : Nat → Nat → Hp → Prop, (∃ m, W 0 m (upd H D (.dK []))) ∧ ∀ i m H, W i m H →
      (J.stop i H ∧ Qd H) ∨ (J.go i H ∧ ∃ Nx : Hp → Prop, (∀ H', Nx H' → ∃ m', m' < m ∧ W (i + 1) m' H') ∧ ∀ x H', J.yld i H x H' → gName j x (wipe σ vs) H' fun σ2 H2 => wipe σ2 vs = wipe σ vs ∧ tt σ2 H2 fun b H3 =>
        if b = true then tVar j σ2 H3 fun y H4 => tv σ2 H4 fun z H5 => ∃ kvs k, y = kV k ∧ H5 D = some (.dK kvs) ∧ kvs.length < sizeLine ∧ Nx (upd H5 D (.dK (putK kvs k z))) else Nx H3) := by
  have Pn : ∀ i H', (i ≤ ks.length ∧ Ex H H' ∧ H' D = some (.dK (pf g ((ks.take i).filter f)))) → Gd H' := fun i H' p => hG H' p.2.1
  refine ⟨fun i m H' => m = ks.length - i ∧ i ≤ ks.length ∧ Ex H H' ∧ H' D = some (.dK (pf g ((ks.take i).filter f))), ⟨ks.length, by simp, Nat.zero_le _, Ex.new hD, by rw [List.take_zero]; exact upd_same⟩, ?_⟩
  rintro i m H1 ⟨rfl, hi, e1, d1⟩
  by_cases lt : i < ks.length
  · refine .inr ⟨w.goes i H1 lt (hG H1 e1), fun H' => Ex H H' ∧ H' D = some (.dK (pf g ((ks.take (i + 1)).filter f))), fun H' p => ⟨ks.length - (i + 1), by omega, rfl, lt, p⟩, fun x H' y => ?_⟩
    obtain ⟨rfl, k, hk, rfl⟩ := w.yields i H1 x H' lt (hG H1 e1) y
    have hkm := List.mem_of_getElem? hk
    refine ⟨hw _, ?_⟩
    refine ht k hkm H' e1 H' (Ex.refl _) _ fun H3 e3 => ?_
    rw [filter_take hk]
    cases hf : f k with
    | false =>
      simp only [Bool.false_eq_true, if_false, List.append_nil]
      exact ⟨e1.trans e3, e3 _ _ d1⟩
    | true =>
      simp only [if_true]
      refine ⟨.int k, ?_, hv k hkm hf H' e1 H3 e3 _ fun H5 e5 => ⟨_, .inl k, rfl, e5 _ _ (e3 _ _ d1), ?_, Ex.mut ((e1.trans e3).trans e5) hD, ?_⟩⟩
      · rw [List.getElem?_set_self]
        rw [wipe_length]; exact hj
      · obtain ⟨js, n1, _, n3⟩ := nk_pf g _ ((ks.take i).filter f) rfl
        have l1 : (pf g ((ks.take i).filter f)).length = js.length := by
          have := congrArg List.length n1.1
          simpa using this
        have l2 := List.length_filter_le f (ks.take i)
        have l3 : (ks.take i).length ≤ ks.length := by rw [List.length_take]; omega
        rw [l1, sizeLine_eq]
        omega
      · rw [upd_same, pf_snoc]
  · have e : i = ks.length := by omega
    subst e
    rw [List.take_length] at d1
    exact .inl ⟨w.stops H1 (hG H1 e1), hq H1 e1 d1⟩
theorem walk_ints {K : PySem.W.Frag} {a : Addr} {ks : List Int} : Walk (Itl K a) ks.length (fun H => SqL K H a (ks.map V.int)) (Yk ks) := by
  have w := walk_list (K := K) (a := a) (xs := ks.map V.int)
  rw [List.length_map] at w
  refine w.mono (fun H h => h) fun i H x H' hi _ y => ⟨y.1, ?_⟩
  have h2 := y.2
  rw [List.getElem?_map] at h2
  cases hk : ks[i]? with
  | none => rw [hk] at h2; cases h2
  | some k => rw [hk] at h2; exact ⟨k, rfl, (Option.some.inj h2).symm⟩
theorem walk_keysI {d : Addr} {o : Obj} {kvs : List (L2.Key × V)} {ks : List Int} (h : kvs.map (·.1) = ks.map Sum.inl) : Walk (Itk d o kvs) ks.length (fun H => H d = some (.frz o (.dK kvs))) (Yk ks) := by
  have hl : kvs.length = ks.length := by
    have := congrArg List.length h
    simpa using this
  have w := walk_keys (d := d) (o := o) (kvs := kvs)
  rw [hl] at w
  refine w.mono (fun H h => h) fun i H x H' hi _ y => ⟨y.1, ?_⟩
  obtain ⟨k, v, h1, h2⟩ := y.2
  have h3 : (kvs.map (·.1))[i]? = some k := by rw [List.getElem?_map, h1]; rfl
  rw [h, List.getElem?_map] at h3
  cases hk : ks[i]? with
  | none => rw [hk] at h3; cases h3
  | some z =>
    rw [hk] at h3
    have e : Sum.inl z = k := Option.some.inj h3
    refine ⟨z, rfl, ?_⟩
    rw [h2, ← e]
    rfl
/-- the same of a dict's keys: it is locked -/
theorem dc_keys {kvs : List (L2.Key × V)} {ks : List Int} {d : Addr} {n j : Nat} {vs : List Nat} {σ : L2.St} {H : Hp} {tt : TT} {tv : TE} {Q : VK} (f : Int → Bool) (g : Int → V) (hσ : σ[n]? = some (some (.ref d))) (hd : H d = some (.dK kvs)) (hk : kvs.map (·.1) = ks.map Sum.inl) (hn : ks.length ≤ 1000)
    (hw : ∀ x, wipe ((wipe σ vs).set j (some x)) vs = wipe σ vs) (hj : j < σ.length)
    (ht : ∀ k ∈ ks, ∀ H', (∀ b u, H b = some u → Rd H' b u) → (∀ b u, b ≠ d → H b = some u → H' b = some u) → EvT tt ((wipe σ vs).set j (some (.int k))) H' (f k))
    (hv : ∀ k ∈ ks, f k = true → ∀ H', (∀ b u, H b = some u → Rd H' b u) → (∀ b u, b ≠ d → H b = some u → H' b = some u) → Ev tv ((wipe σ vs).set j (some (.int k))) H' (g k))
    (hq : ∀ H' D, Ex H H' → H D = none → H' D = some (.dK (pf g (ks.filter f))) → Q (.ref D) H') : tLockE (tDc (iKeys (tVar n)) (gName j) tt (tVar j) tv vs) σ H Q := by
  refine ⟨d, .dK kvs, hd, trivial, fun od => ?_⟩
  refine ⟨.ref d, hσ, d, od, rfl, .inl ⟨kvs, upd_same, fun D hD => ?_⟩⟩
  have nDd : D ≠ d := fun z => by rw [z, upd_same] at hD; cases hD
  have hD' : H D = none := by rw [upd_ne nDd] at hD; exact hD
  have r1 : ∀ H', Ex (upd H d (.frz od (.dK kvs))) H' → ∀ b u, b ≠ d → H b = some u → H' b = some u := fun H' e b u nb hb => e _ _ (by rw [upd_ne nb]; exact hb)
  have r2 : ∀ H', Ex (upd H d (.frz od (.dK kvs))) H' → ∀ b u, H b = some u → Rd H' b u := fun H' e b u hb => by
    by_cases z : b = d
    · rw [z, hd] at hb
      cases hb
      exact .inr ⟨od, by rw [z]; exact e _ _ upd_same⟩
    · exact .inl (r1 H' e b u z hb)
  refine dc_it (H := upd H d (.frz od (.dK kvs))) f g (walk_keysI (o := od) hk) hD hn (fun H' e => e _ _ upd_same) hw hj (fun k hk H' e => ht k hk H' (r2 H' e) (r1 H' e)) (fun k hk hf H' e => hv k hk hf H' (r2 H' e) (r1 H' e)) fun H' e hD2 => ⟨e _ _ upd_same, ?_⟩
  refine hq _ D (fun b u hb => ?_) hD' (by rw [upd_ne nDd]; exact hD2)
  by_cases z : b = d
  · rw [z, hd] at hb
    rw [z, upd_same]
    exact hb
  · rw [upd_ne z]
    exact r1 H' e b u z hb
section
variable {σ : L2.St} {H : Hp} {ta tb tc : TE}
theorem ev_dget {a : Addr} {k : Int} {v : V} {kvs : List (L2.Key × V)} (ha : Ev ta σ H (.ref a)) (hk : Ev tb σ H (.int k)) (hr : Rd H a (.dK kvs)) (hv : valV kvs (.inl k) = some v) : Ev (tDGet ta tb) σ H v := fun H1 e Q q =>
  ha H1 e _ fun H2 e2 => hk H2 (e.trans e2) _ fun H3 e3 => ⟨a, v, rfl, .inl ⟨kvs, .inl k, hr.elim (fun h => .inl (((e.trans e2).trans e3) _ _ h)) (fun ⟨o, h⟩ => .inr ⟨o, ((e.trans e2).trans e3) _ _ h⟩), rfl, hv.symm⟩, q H3 (e2.trans e3)⟩
theorem rd_up {H H' : Hp} {a : Addr} {u : HO} (e : Ex H H') (h : Rd H a u) : Rd H' a u := h.elim (fun h => .inl (e _ _ h)) fun ⟨o, h⟩ => .inr ⟨o, e _ _ h⟩
theorem ev_dget1 {a : Addr} {k : Int} {v : Option V} {kvs : List (L2.Key × V)} (ha : Ev ta σ H (.ref a)) (hk : Ev tb σ H (.int k)) (hr : Rd H a (.dK kvs)) (hv : valV kvs (.inl k) = v) : Ev (tDGet1 ta tb) σ H (v.getD .non) := fun H1 e Q q =>
  ha H1 e _ fun H2 e2 => ⟨a, rfl, .inl ⟨kvs, rd_up (e.trans e2) hr⟩, hk H2 (e.trans e2) _ fun H3 e3 => ⟨v, .inl ⟨kvs, .inl k, rd_up ((e.trans e2).trans e3) hr, rfl, hv.symm⟩, q H3 (e2.trans e3)⟩⟩
theorem ev_dget2 {a : Addr} {k : Int} {v : Option V} {z : V} {kvs : List (L2.Key × V)} (ha : Ev ta σ H (.ref a)) (hk : Ev tb σ H (.int k)) (hz : Ev tc σ H z) (hr : Rd H a (.dK kvs)) (hv : valV kvs (.inl k) = v) : Ev (tDGet2 ta tb tc) σ H (v.getD z) := fun H1 e Q q =>
  ha H1 e _ fun H2 e2 => ⟨a, rfl, .inl ⟨kvs, rd_up (e.trans e2) hr⟩, hk H2 (e.trans e2) _ fun H3 e3 => hz H3 ((e.trans e2).trans e3) _ fun H4 e4 => ⟨v, .inl ⟨kvs, .inl k, rd_up (((e.trans e2).trans e3).trans e4) hr, rfl, hv.symm⟩, q H4 ((e2.trans e3).trans e4)⟩⟩
theorem ev_dnot {a : Addr} {k : Int} {kvs : List (L2.Key × V)} (hk : Ev tb σ H (.int k)) (ha : Ev ta σ H (.ref a)) (hr : Rd H a (.dK kvs)) : Ev (tDNotIn tb ta) σ H (.bl (!(valV kvs (.inl k)).isSome)) := fun H1 e Q q =>
  hk H1 e _ fun H2 e2 => ha H2 (e.trans e2) _ fun H3 e3 => ⟨a, _, rfl, .inl ⟨kvs, .inl k, rd_up ((e.trans e2).trans e3) hr, rfl, rfl⟩, q H3 (e2.trans e3)⟩
theorem ev_din {a : Addr} {k : Int} {kvs : List (L2.Key × V)} (hk : Ev tb σ H (.int k)) (ha : Ev ta σ H (.ref a)) (hr : Rd H a (.dK kvs)) : Ev (tDIn tb ta) σ H (.bl (valV kvs (.inl k)).isSome) := fun H1 e Q q =>
  hk H1 e _ fun H2 e2 => ha H2 (e.trans e2) _ fun H3 e3 => ⟨a, _, rfl, .inl ⟨kvs, .inl k, rd_up ((e.trans e2).trans e3) hr, rfl, rfl⟩, q H3 (e2.trans e3)⟩
end
end Wk

set_option Elab.async false
set_option linter.all false
set_option maxRecDepth 100000
set_option maxHeartbeats 2000000
namespace L2
open PySem PySem.Spec PyProof.Rows
section
variable {X : Cx}
/-- y = {k: v for ..}, y a local of a def -/
theorem ps_setDc {i : Nat} {y : Str} {py : Pos} {kx vx tg iter : Expr} {ifs : List Expr} {scope : Scope} {own : List (Str × Nat)} {pos spos : Pos} {wi : TI} {g : TG} {tt : TT} {tk tv : TE} (hc : X.calm = true) (hN : X.N.Nodup) (hy : X.N[i]? = some y) (hyl : X.env.scope.names.lookup y = some .local)
    (hsw : swapsWith (.DictComp kx vx [⟨tg, iter, ifs, 0⟩] scope pos) (some (.Name y py)) spos.line X.env = pure true) (hi : PI X tg iter wi) (ok : BlkOk X.N X.env.scope scope own)
    (hg : ∀ (s : Shared) (H : Hp) (C : Addr) (cl : List (Str × Addr)) (fp : List Addr), PG (X.blk s H scope (compEnvC scope cl C X.env) fp) tg g) (ht : ∀ (s : Shared) (H : Hp) (C : Addr) (cl : List (Str × Addr)) (fp : List Addr), PTs (X.blk s H scope (compEnvC scope cl C X.env) fp) ifs tt)
    (hk : ∀ (s : Shared) (H : Hp) (C : Addr) (cl : List (Str × Addr)) (fp : List Addr), PE (X.blk s H scope (compEnvC scope cl C X.env) fp) kx tk)
    (he : ∀ (s : Shared) (H : Hp) (C : Addr) (cl : List (Str × Addr)) (fp : List Addr), PE (X.blk s H scope (compEnvC scope cl C X.env) fp) vx tv) (hs : ∀ x, foldedSetIterable iter X.env x = pure x := by intro _; rfl) :
    PS X (.Assign [.Name y py] (.DictComp kx vx [⟨tg, iter, ifs, 0⟩] scope pos) spos) (tAsg (tDc wi g tt tk tv (own.map (·.2))) (gName i)) := by
  refine ⟨fun pins s σ H D I h => ?_⟩
  rw [exec_Assign_Name_used _ _ _ _ hsw]
  refine wpAny_bind (wpAny_standAt (wpAny_bind ?_))
  show wpAny _ X.A (do let _ ← comprehension (.DictComp kx vx [⟨tg, iter, ifs, 0⟩] scope pos) scope X.env (firstIterPos [⟨tg, iter, ifs, 0⟩] pos) newDict false (eval iter X.env) (some (assign (.Name y py) X.env))) _ _ s
  have h : tDc wi g tt tk tv (own.map (·.2)) σ H (fun x H1 => gName i x σ H1 D.nx) := h
  refine wpAny_bind (thn (dc_core (Qf := fun _ s' => SP X pins D .next s') hc hN I hi ok hg ht hk he hs h fun L C s' m H' I' q hn f => ?_) fun _ s' hq => wpAny_pure (wpAny_pure hq))
  show wpAny _ _ (assign (.Name y py) X.env (.ref L)) _ _ _
  refine wpAny_assign_Name (store_ok2 (v := V.ref L) I' hN hy (.inl hyl) rfl (fun s2 I2 ⟨a, sb, ha⟩ => ?_) (.inr hyl))
  obtain ⟨f0, f1, f2, f3, f4, f5⟩ := f
  have haC : C ≠ a := by
    rcases ha with z | z
    · rw [z]; exact f1
    · exact fun e => f4 y a z e.symm
  refine ⟨m, hn.sameBut sb haC, fun h3 sb3 => ?_⟩
  exact ⟨_, H', I2.turned (t' := s2.toks) (fun b o hb e => (sb3.2 b hb).trans e) f0 f1 f3 f4 f5, q⟩
theorem sw_trueD {kx vx : Expr} {gs : List Comprehension} {scope : Scope} {pos py : Pos} {y : Str} {l : Nat} {env : Env} (hk : env.scope.kind = .function) (hy : env.scope.names.lookup y = some .local) (hl : (py.line == pos.line) = true)
    (ha : (scope.names.any fun (n, k) => n == y && (k == .local || k == .cell)) = false) : swapsWith (.DictComp kx vx gs scope pos) (some (.Name y py)) l env = pure true := by
  have ky : env.kindOf y = some .local := hy
  have hb : env.blockKind = .function := by unfold Env.blockKind; rw [hk]; rfl
  unfold swapsWith
  simp only [hb, ky, ha, Expr.pos, hl]
  rfl
end
end L2
namespace Wk
open PySem PySem.Spec PyProof.Rows L2 Evl
/-- the same as a statement: it is locked -/
theorem q_dcKeys {kvs : List (L2.Key × V)} {ks : List Int} {d : Addr} {n j i : Nat} {vs : List Nat} {σ : L2.St} {H : Hp} {tt : TT} {tv : TE} {tz : TS} {E : Ends} (f : Int → Bool) (g : Int → V) (hσ : σ[n]? = some (some (.ref d))) (hd : H d = some (.dK kvs)) (hk : kvs.map (·.1) = ks.map Sum.inl) (hn : ks.length ≤ 1000)
    (hw : ∀ x, wipe ((wipe σ vs).set j (some x)) vs = wipe σ vs) (hj : j < σ.length)
    (ht : ∀ k ∈ ks, ∀ H', (∀ b u, H b = some u → Rd H' b u) → (∀ b u, b ≠ d → H b = some u → H' b = some u) → EvT tt ((wipe σ vs).set j (some (.int k))) H' (f k))
    (hv : ∀ k ∈ ks, f k = true → ∀ H', (∀ b u, H b = some u → Rd H' b u) → (∀ b u, b ≠ d → H b = some u → H' b = some u) → Ev tv ((wipe σ vs).set j (some (.int k))) H' (g k))
    (hq : ∀ H' D, Ex H H' → H D = none → H' D = some (.dK (pf g (ks.filter f))) → tz E (σ.set i (some (.ref D))) H') : tSeq (tLock (tAsg (tDc (iKeys (tVar n)) (gName j) tt (tVar j) tv vs) (gName i))) tz E σ H := by
  have z := dc_keys (Q := fun v H' => tz E (σ.set i (some v)) H') f g hσ hd hk hn hw hj ht hv hq
  obtain ⟨d', u, h1, h2, h3⟩ := z
  exact ⟨d', u, h1, h2, fun od => h3 od⟩
end Wk

set_option Elab.async false
set_option linter.all false
set_option maxRecDepth 100000
set_option maxHeartbeats 2000000
namespace Wk
open PySem PySem.Spec PyProof.Rows L2 Evl
/-! what stays grows: by what is new, and by tuples -/
structure Gz (G H G' H' : Hp) : Prop where
  ex : Ex G G'
  hx : Ex H H'
  sub : Ex G' H'
  nw : ∀ b u, G b = none → H b = some u → (∀ xs, u ≠ .tup xs) → G' b = none
theorem Gz.refl {G H : Hp} (h : Ex G H) : Gz G H G H := ⟨Ex.refl _, Ex.refl _, h, fun _ _ h _ _ => h⟩
theorem Gz.trans {G H G1 H1 G2 H2 : Hp} (a : Gz G H G1 H1) (b : Gz G1 H1 G2 H2) : Gz G H G2 H2 :=
  ⟨a.ex.trans b.ex, a.hx.trans b.hx, b.sub, fun c u hc hh ht => b.nw c u (a.nw c u hc hh ht) (a.hx _ _ hh) ht⟩
theorem Gz.ext {G H H' : Hp} (h : Ex G H) (e : Ex H H') : Gz G H G H' := ⟨Ex.refl _, e, h.trans e, fun _ _ h _ _ => h⟩
theorem Gz.new {G H : Hp} {t : Addr} {o : HO} (h : Ex G H) (ht : H t = none) : Gz G H (upd G t o) (upd H t o) := by
  refine ⟨Ex.new (fresh_back h ht), Ex.new ht, fun b u hb => ?_, fun b u hb hh _ => ?_⟩
  · by_cases c : b = t
    · rw [c, upd_same] at hb ⊢; exact hb
    · rw [upd_ne c] at hb ⊢; exact h _ _ hb
  · rw [upd_ne (fun z => by rw [z, ht] at hh; cases hh)]; exact hb
theorem Gz.tup {G H : Hp} {t : Addr} {xs : List V} (h : Ex G H) (ht : H t = some (.tup xs)) : Gz G H (upd G t (.tup xs)) H := by
  refine ⟨fun b u hb => ?_, Ex.refl _, fun b u hb => ?_, fun b u hb hh hn => ?_⟩
  · by_cases c : b = t
    · have := h _ _ hb
      rw [c, ht] at this
      rw [c, upd_same]; exact this
    · rw [upd_ne c]; exact hb
  · by_cases c : b = t
    · rw [c, upd_same] at hb; rw [c, ht]; exact hb
    · rw [upd_ne c] at hb; exact h _ _ hb
  · have c : b ≠ t := fun z => by
      rw [z, ht] at hh
      cases hh
      exact hn _ rfl
    rw [upd_ne c]; exact hb
/-- what is new, laid after more has come -/
theorem Gz.put {G H H' : Hp} {t : Addr} {o : HO} (h : Ex G H) (ht : H t = none) (e : Ex H H') (ho : H' t = some o) : Gz G H (upd G t o) H' := by
  refine ⟨Ex.new (fresh_back h ht), e, fun b u hb => ?_, fun b u hb hh _ => ?_⟩
  · by_cases c : b = t
    · rw [c, upd_same] at hb; rw [c, ho]; exact hb
    · rw [upd_ne c] at hb; exact e _ _ (h _ _ hb)
  · rw [upd_ne (fun z => by rw [z, ht] at hh; cases hh)]; exact hb
/-! books -/
abbrev Ent := Nat × Nat
abbrev Bk := Nat → Option Ent
def entV (e : Ent) : List V := [.int (e.1 : Int), .int (e.2 : Int)]
/-- a dict of a router's entries -/
structure BkD (G : Hp) (kvs : List (L2.Key × V)) (ks : List Int) (n : Nat) (bk : Bk) : Prop where
  nk : NK kvs ks
  rg : ∀ k ∈ ks, 0 ≤ k ∧ k < (n : Int)
  at_ : ∀ k : Nat, (valV kvs (.inl (k : Int)) = none ∧ bk k = none) ∨ ∃ t e, valV kvs (.inl (k : Int)) = some (.ref t) ∧ bk k = some e ∧ G t = some (.tup (entV e))
def BkAt (G : Hp) (a : Addr) (n : Nat) (bk : Bk) : Prop := ∃ kvs ks, G a = some (.dK kvs) ∧ BkD G kvs ks n bk
theorem BkD.mono {G G' : Hp} (e : Ex G G') {kvs : List (L2.Key × V)} {ks : List Int} {n : Nat} {bk : Bk} (h : BkD G kvs ks n bk) : BkD G' kvs ks n bk :=
  ⟨h.nk, h.rg, fun k => (h.at_ k).imp id fun ⟨t, e', a, b, c⟩ => ⟨t, e', a, b, e _ _ c⟩⟩
theorem BkAt.mono {G G' : Hp} (e : Ex G G') {a : Addr} {n : Nat} {bk : Bk} (h : BkAt G a n bk) : BkAt G' a n bk := by
  obtain ⟨kvs, ks, h1, h2⟩ := h
  exact ⟨kvs, ks, e _ _ h1, h2.mono e⟩
theorem NK.mem {kvs : List (L2.Key × V)} {ks : List Int} (h : NK kvs ks) (k : Int) : k ∈ ks ↔ ∃ v, valV kvs (.inl k) = some v := by
  constructor
  · intro hk
    cases hv : valV kvs (.inl k) with
    | some v => exact ⟨v, rfl⟩
    | none => exact absurd (by rw [h.1]; exact List.mem_map.mpr ⟨k, hk, rfl⟩) (valV_not hv)
  · rintro ⟨v, hv⟩
    have := valV_in hv
    rw [h.1] at this
    obtain ⟨x, hx, e⟩ := List.mem_map.mp this
    injection e with e
    rw [← e]; exact hx
theorem BkD.mem {G : Hp} {kvs : List (L2.Key × V)} {ks : List Int} {n : Nat} {bk : Bk} (h : BkD G kvs ks n bk) (k : Nat) : (k : Int) ∈ ks ↔ ∃ e, bk k = some e := by
  rw [h.nk.mem]
  rcases h.at_ k with ⟨a, b⟩ | ⟨t, e, a, b, _⟩
  · rw [a, b]; simp
  · rw [a, b]; simp
theorem BkD.len {G : Hp} {kvs : List (L2.Key × V)} {ks : List Int} {n : Nat} {bk : Bk} (h : BkD G kvs ks n bk) : ks.length ≤ n := by
  have z := nd_le ks ((List.range n).map fun (i : Nat) => (i : Int)) h.nk.2 fun k hk => by
    have := h.rg k hk
    exact List.mem_map.mpr ⟨k.toNat, List.mem_range.mpr (by omega), by omega⟩
  simpa using z
theorem BkD.vlen {G : Hp} {kvs : List (L2.Key × V)} {ks : List Int} {n : Nat} {bk : Bk} (h : BkD G kvs ks n bk) : kvs.length ≤ n := by
  have := congrArg List.length h.nk.1
  rw [List.length_map, List.length_map] at this
  rw [this]; exact h.len
theorem BkD.get {G : Hp} {kvs : List (L2.Key × V)} {ks : List Int} {n : Nat} {bk : Bk} (h : BkD G kvs ks n bk) {k : Nat} {e : Ent} (he : bk k = some e) : ∃ t, valV kvs (.inl (k : Int)) = some (.ref t) ∧ G t = some (.tup (entV e)) := by
  rcases h.at_ k with ⟨a, b⟩ | ⟨t, e', a, b, c⟩
  · rw [b] at he; cases he
  · rw [b] at he; cases he; exact ⟨t, a, c⟩
theorem BkD.no {G : Hp} {kvs : List (L2.Key × V)} {ks : List Int} {n : Nat} {bk : Bk} (h : BkD G kvs ks n bk) {k : Nat} (he : bk k = none) : valV kvs (.inl (k : Int)) = none := by
  rcases h.at_ k with ⟨a, b⟩ | ⟨t, e', a, b, c⟩
  · exact a
  · rw [b] at he; cases he
theorem BkD.lt {G : Hp} {kvs : List (L2.Key × V)} {ks : List Int} {n : Nat} {bk : Bk} (h : BkD G kvs ks n bk) {k : Nat} {e : Ent} (he : bk k = some e) : k < n := by
  have := h.rg _ ((h.mem k).mpr ⟨e, he⟩)
  omega
theorem BkD.nil (G : Hp) (n : Nat) : BkD G [] [] n fun _ => none := ⟨⟨rfl, List.nodup_nil⟩, fun k hk => (by cases hk), fun k => .inl ⟨rfl, rfl⟩⟩
def setB (bk : Bk) (r : Nat) (e : Ent) : Bk := fun k => if k = r then some e else bk k
theorem BkD.put {G : Hp} {kvs : List (L2.Key × V)} {ks : List Int} {n r : Nat} {bk : Bk} {t : Addr} {e : Ent} (h : BkD G kvs ks n bk) (hr : r < n) (ht : G t = some (.tup (entV e))) : BkD G (putK kvs (.inl (r : Int)) (.ref t)) (if (r : Int) ∈ ks then ks else ks ++ [(r : Int)]) n (setB bk r e) := by
  refine ⟨h.nk.put _ _, fun k hk => ?_, fun k => ?_⟩
  · split at hk
    · exact h.rg k hk
    · rcases List.mem_append.mp hk with z | z
      · exact h.rg k z
      · rw [List.mem_singleton.mp z]; omega
  · rw [valV_put]
    unfold setB
    by_cases c : k = r
    · rw [if_pos (by rw [c]), if_pos c]
      exact .inr ⟨t, e, rfl, rfl, ht⟩
    · rw [if_neg (fun z => c (by injection z with z; omega)), if_neg c]
      exact h.at_ k
def gtN (x y : Ent) : Bool := gtE ((x.1 : Int), (x.2 : Int)) ((y.1 : Int), (y.2 : Int))
/-- which of the given entries are greater -/
def newer (own given : Bk) (k : Nat) : Bool :=
  match given k with
  | none => false
  | some g => match own k with
    | none => true
    | some e => gtN g e
def mergeB (own given : Bk) : Bk := fun k => if newer own given k = true then given k else own k
section
variable {σ : L2.St} {H : Hp} {ta tb te : TE}
theorem ev_gt {K : PySem.W.Frag} {a b : Addr} {x y : Ent} (h1 : Ev ta σ H (.ref a)) (h2 : Ev tb σ H (.ref b)) (ha : H a = some (.tup (entV x))) (hb : H b = some (.tup (entV y))) : Ev (tOp (rGtP K) ta tb) σ H (.bl (gtN x y)) := fun H1 e Q q =>
  h1 H1 e _ fun H2 e2 => h2 H2 (e.trans e2) _ fun H3 e3 => ⟨a, b, ((x.1 : Int), (x.2 : Int)), ((y.1 : Int), (y.2 : Int)), rfl, rfl, st_of (((e.trans e2).trans e3) _ _ ha), st_of (((e.trans e2).trans e3) _ _ hb), q H3 (e2.trans e3)⟩
theorem ev_isN {x : V} (h : Ev te σ H x) : EvT (tB (tIsN te)) σ H (decide (x = .non)) := fun H1 e Q q => h H1 e _ fun H2 e2 => ⟨_, rfl, q H2 e2⟩
theorem et_B' {b : Bool} (h : Ev te σ H (.bl b)) : EvT (tB te) σ H b := et_B h
end
theorem set_cut {xs : List V} {i : Nat} {v : V} (h : i < xs.length) : cutV xs none (some (i : Int)) ++ [v] ++ cutV xs (some ((i : Int) + 1)) none = xs.set i v := by
  rw [cut_to xs i (by omega), show ((i : Int) + 1) = ((i + 1 : Nat) : Int) by omega, cut_from xs (i + 1) (by omega), List.set_eq_take_append_cons_drop, if_pos h, List.append_assoc]
  rfl
section
variable {P : Program} {w : World} {K : PySem.W.Frag} {mg : Str → Option Value} {base : Heap} {f : Addr} {fd : FuncData}
/-! replaced -/
def spRepl : Sp := fun vs H Q _ => ∃ (a : Addr) (i : Nat) (v : V) (xs : List V), vs = [.ref a, .int (i : Int), v] ∧ H a = some (.tup xs) ∧ i < xs.length ∧ xs.length ≤ 1000 ∧ ∀ H' t, Ex H H' → H' t = some (.tup (xs.set i v)) → Q (.ref t) H'
abbrev sRepl : Stmt := top 17
abbrev nRepl : List Str := ["row", "place", "item"]
theorem scRepl : FnScope nRepl nRepl (defScope sRepl) := ⟨rfl, rfl, rfl, by decide +kernel, rfl, by decide +kernel, by decide +kernel⟩
theorem ok_repl (F : FnP K "replaced" sRepl f fd) : FnOk P w K mg base CX0 1 f fd nRepl spRepl := by
  refine F.ok scRepl (fun vs H Q E h => ?_) (fun cdv A outer s H vs Q E hr h => ?_)
  · obtain ⟨a, i, v, xs, rfl, _⟩ := h
    rfl
  · obtain ⟨a, i, v, xs, rfl, ha, hi, hx, k⟩ := h
    refine ⟨_, pss_one (ps_ret (pe_op op_catA (pe_op op_catA (pe_slice sl_tupA (pv 0) po_none (po_some (pv 1))) (pe_tup (pa_cons (pv 2) pa_nil))) (pe_slice sl_tupA (pv 0) (po_some (pe_op op_add (pv 1) pe_int)) po_none))), ?_⟩
    have l1 : (cutV xs none (some (i : Int))).length ≤ 1000 := by rw [cut_to xs i (by omega), List.length_take]; omega
    have l2 : (cutV xs (some ((i : Int) + 1)) none).length ≤ 1000 := by rw [show ((i : Int) + 1) = ((i + 1 : Nat) : Int) by omega, cut_from xs (i + 1) (by omega), List.length_drop]; omega
    have v0 : Ev (tVar 0) (start nRepl [V.ref a, V.int (i : Int), v]) H (.ref a) := ev_var rfl
    have ad : Ev (tOp (rI0 fun i j => .int (i + j)) (tVar 1) (tC (.int 1))) (start nRepl [V.ref a, V.int (i : Int), v]) H (.int ((i : Int) + 1)) := ev_op (ev_var rfl) ev_c rv_I0
    have e1 := es_cat (K := K) (es_cat (K := K) (es_sl (K := K) (lo := none) (hi := some (i : Int)) v0 eo_none (eo_some (te := tVar 1) (ev_var rfl)) ha) (es_tup (xs := [v]) (ea_cons (ta := tVar 2) (ev_var rfl) ea_nil) (by show 1 ≤ 100000; decide)) (by show _ + 1 ≤ _; omega))
      (es_sl (K := K) (lo := some ((i : Int) + 1)) (hi := none) v0 (eo_some ad) eo_none ha) (by rw [List.length_append]; show _ + 1 + _ ≤ _; omega)
    rw [set_cut hi] at e1
    exact e1 H (Ex.refl _) _ fun t H' e h => k H' t e h
/-! number_after -/
abbrev spNum : Sp := spP fun H vs z => ∃ v, vs = [v] ∧ ((v = .non ∧ z = .int 1) ∨ ∃ t e, v = .ref t ∧ H t = some (.tup (entV e)) ∧ z = .int ((e.1 : Int) + 1))
abbrev sNum : Stmt := top 26
theorem scNum : FnScope ["entry"] ["entry"] (defScope sNum) := ⟨rfl, rfl, rfl, by decide +kernel, rfl, by decide +kernel, by decide +kernel⟩
theorem ok_num (F : FnP K "number_after" sNum f fd) : FnOk P w K mg base CX0 1 f fd ["entry"] spNum := by
  refine F.ok scNum (fun vs H Q E h => ?_) (fun cdv A outer s H vs Q E hr h => ?_)
  · obtain ⟨z, ⟨v, rfl, _⟩, _⟩ := h
    rfl
  · obtain ⟨z, ⟨v, rfl, hz⟩, k⟩ := h
    refine ⟨_, pss_one (ps_ret (pe_ifExp (pt_cmp (pc_isN (pv 0))) pe_int (pe_op op_add (pe_ix ix_tup (pv 0) pe_int (fun _ _ => rfl)) pe_int))), ?_⟩
    refine s_ret (v := z) (ev_if (ev_isN (ev_var rfl)) (fun h => ?_) (fun h => ?_)) k
    · have h := of_decide_eq_true h
      rcases hz with ⟨_, rfl⟩ | ⟨t, e, rfl, _⟩
      · exact ev_c
      · cases h
    · have h := of_decide_eq_false h
      rcases hz with ⟨rfl, _⟩ | ⟨t, e, rfl, ht, rfl⟩
      · exact absurd rfl h
      · exact ev_op (ev_op (ev_var rfl) ev_c (rv_ixT (i := 0) (st_of ht) rfl)) ev_c rv_I0
/-! with_entry -/
def spWE : Sp := fun vs H Q _ => ∃ (G : Hp) (a t : Addr) (n r : Nat) (bk : Bk) (e : Ent), vs = [.ref a, .int (r : Int), .ref t] ∧ Ex G H ∧ BkAt G a n bk ∧ r < n ∧ n ≤ 8 ∧ H t = some (.tup (entV e)) ∧
  ∀ G' H' b, Gz G H G' H' → BkAt G' b n (setB bk r e) → Q (.ref b) H'
abbrev sWE : Stmt := top 27
abbrev nWE : List Str := ["book", "router", "entry", "changed", "key"]
theorem scWE : FnScope nWE ["book", "router", "entry"] (defScope sWE) := ⟨rfl, rfl, rfl, by decide +kernel, rfl, by decide +kernel, by decide +kernel⟩
theorem pf_self {G : Hp} {kvs : List (L2.Key × V)} {ks : List Int} {n : Nat} {bk : Bk} (h : BkD G kvs ks n bk) : ∃ js, BkD G (pf (fun k => (valV kvs (.inl k)).getD .non) (ks.filter fun _ => true)) js n bk := by
  have ef : ks.filter (fun _ => true) = ks := List.filter_eq_self.mpr fun _ _ => rfl
  rw [ef]
  obtain ⟨js, h1, h2, _⟩ := nk_pf (fun k => (valV kvs (.inl k)).getD .non) _ ks rfl
  refine ⟨js, h1, fun k hk => h.rg k ((h2 k).mp hk), fun k => ?_⟩
  rw [valV_pf _ _ _ ks rfl]
  by_cases c : (k : Int) ∈ ks
  · rw [if_pos c]
    obtain ⟨e, he⟩ := (h.mem k).mp c
    obtain ⟨t, h3, h4⟩ := h.get he
    rw [h3]
    exact .inr ⟨t, e, rfl, he, h4⟩
  · rw [if_neg c]
    refine .inl ⟨rfl, ?_⟩
    cases hb : bk k with
    | none => rfl
    | some e => exact absurd ((h.mem k).mpr ⟨e, hb⟩) c
theorem ok_we (F : FnP K "with_entry" sWE f fd) : FnOk P w K mg base CX0 1 f fd ["book", "router", "entry"] spWE := by
  refine F.ok scWE (fun vs H Q E h => ?_) (fun cdv A outer s H vs Q E hr h => ?_)
  · obtain ⟨G, a, t, n, r, bk, e, rfl, _⟩ := h
    rfl
  · obtain ⟨G, a, t, n, r, bk, e, rfl, eG, ⟨kvs, ks, ha, hb⟩, hr', hn, ht, k⟩ := h
    have hu : (A.deeper (envOfC "with_entry" (defScope sWE) s.heap.objs.size f cdv)).units + 1 < cLine := by have := hr.un; omega
    refine ⟨_, pss_cons (ps_lock (ps_setDc (i := 3) (own := [("key", 4)]) (g := gName 4) (tt := tYes) (tk := tVar 4) (tv := tDGet (tVar 0) (tVar 4)) rfl scWE.nd rfl rfl (sw_trueD rfl rfl rfl (by decide +kernel)) (pi_keys (pv 0)) (blkOk_by (N := nWE) (sc := defScope sWE) (by decide +kernel))
        (fun _ _ _ _ _ => pg_name (i := 4) scWE.nd rfl (Or.inl rfl)) (fun _ _ _ _ _ => pts_nil) (fun _ _ _ _ _ => pv 4) (fun _ _ _ _ _ => pe_dget hu (pv 0) (pv 4) (fun _ _ => rfl))))
      (pss_cons (ps_asg (pv 2) (pg_sub (pv 3) (pv 1) (set_dict hu)))
      (pss_one (ps_ret (pv 3)))), ?_⟩
    have hHa := eG _ _ ha
    have hl := hb.len
    refine q_dcKeys (ks := ks) (d := a) (n := 0) (fun _ => true) (fun k => (valV kvs (.inl k)).getD .non) rfl hHa hb.nk.1 (by omega) (fun x => rfl) (by show 4 < 5; decide) (fun k _ H' _ _ => et_yes) (fun k hk _ H' h1 _ => ?_) fun H1 D e1 nD hD => ?_
    · obtain ⟨v, hv⟩ := (hb.nk.mem k).mp hk
      rw [hv]
      exact ev_dget (kvs := kvs) (ev_var rfl) (ev_var rfl) (h1 _ _ hHa) hv
    · obtain ⟨js, hd⟩ := pf_self hb
      generalize pf (fun k => (valV kvs (.inl k)).getD .non) (ks.filter fun _ => true) = kv2 at *
      refine g_name ?_
      dsimp only
      refine ⟨.ref t, rfl, .ref D, rfl, .int (r : Int), rfl, D, _, rfl, .inl ⟨kv2, .inl (r : Int), hD, rfl, ?_, rfl⟩, .ref D, rfl, ?_⟩
      · have := hd.vlen
        rw [sizeLine_eq]; omega
      · have ht1 := e1 _ _ ht
        have gz1 := Gz.tup eG ht
        have nDt : D ≠ t := fun z => by rw [z, ht] at nD; cases nD
        have gz2 := Gz.put (o := .dK (putK kv2 (.inl (r : Int)) (.ref t))) gz1.sub nD (H' := upd H1 D (.dK (putK kv2 (.inl (r : Int)) (.ref t)))) (fun b u hb' => by
          rw [upd_ne (fun z => by rw [z, nD] at hb'; cases hb')]; exact e1 _ _ hb') upd_same
        have z := ((hd.mono gz1.ex).mono gz2.ex).put hr' (gz2.ex _ _ upd_same)
        exact k _ _ D (gz1.trans gz2) ⟨_, _, upd_same, z⟩
end
end Wk

set_option Elab.async false
set_option linter.all false
set_option maxRecDepth 100000
set_option maxHeartbeats 2000000
namespace Wk
open PySem PySem.Spec PyProof.Rows L2 Evl
theorem Gz.set {G H G1 H1 : Hp} {t : Addr} {o : HO} (a : Gz G H G1 H1) (ht : H t = none) (g : G1 t = none) : Gz G H (upd G1 t o) (upd H1 t o) := by
  refine ⟨a.ex.trans (Ex.new g), Ex.mut a.hx ht, fun b u hb => ?_, fun b u h1 h2 h3 => ?_⟩
  · by_cases c : b = t
    · rw [c, upd_same] at hb ⊢; exact hb
    · rw [upd_ne c] at hb ⊢; exact a.sub _ _ hb
  · rw [upd_ne (fun z => by rw [z, ht] at h2; cases h2)]
    exact a.nw b u h1 h2 h3
theorem keysV {kvs : List (L2.Key × V)} {ks : List Int} (h : NK kvs ks) : (kvs.map fun kv => kV kv.1) = ks.map V.int := by
  have e : (kvs.map fun kv => kV kv.1) = (kvs.map (·.1)).map kV := by rw [List.map_map]; rfl
  rw [e, h.1, List.map_map]
  rfl
theorem filter_yes {ks : List Int} : ks.filter (fun _ => true) = ks := List.filter_eq_self.mpr fun _ _ => rfl
def greaterB (own given : Bk) : Bk := fun k => if newer own given k = true then given k else none
def bumpB (g : Bk) (r : Nat) (co : Option Nat) : Bk := match g r, co with
  | some e, some c => setB g r (e.1 + 1, c)
  | _, _ => g
/-- the own entries, and over them the greater ones that came; the router's own comes back greater by one -/
def mergeX (own given : Bk) (r : Nat) (co : Option Nat) : Bk := fun k => match bumpB (greaterB own given) r co k with
  | some e => some e
  | none => own k
def oV : Option Nat → V
  | none => .non
  | some c => .int (c : Int)
theorem greater_bkd {G : Hp} {kvg : List (L2.Key × V)} {ksg : List Int} {n : Nat} {own given : Bk} (hg : BkD G kvg ksg n given) :
    ∃ js, BkD G (pf (fun k => (valV kvg (.inl k)).getD .non) (ksg.filter fun k => newer own given k.toNat)) js n (greaterB own given) := by
  obtain ⟨js, n1, n2, _⟩ := nk_pf (fun k => (valV kvg (.inl k)).getD .non) _ (ksg.filter fun k => newer own given k.toNat) rfl
  refine ⟨js, n1, fun k hk => hg.rg k (List.mem_filter.mp ((n2 k).mp hk)).1, fun k => ?_⟩
  rw [valV_pf _ _ _ (ksg.filter fun k => newer own given k.toNat) rfl]
  unfold greaterB
  by_cases hn : newer own given k = true
  · rw [if_pos hn]
    have hgk : ∃ g, given k = some g := by
      unfold newer at hn
      cases hgk : given k with
      | none => rw [hgk] at hn; cases hn
      | some g => exact ⟨g, rfl⟩
    obtain ⟨g, hgk⟩ := hgk
    rw [if_pos (List.mem_filter.mpr ⟨(hg.mem k).mpr ⟨g, hgk⟩, by rw [Int.toNat_natCast]; exact hn⟩)]
    obtain ⟨t, h4, h5⟩ := hg.get hgk
    rw [h4]
    exact .inr ⟨t, g, rfl, hgk, h5⟩
  · rw [if_neg hn, if_neg]
    · exact .inl ⟨rfl, rfl⟩
    · intro z
      have := (List.mem_filter.mp z).2
      rw [Int.toNat_natCast] at this
      exact hn this
theorem over_bkd {G : Hp} {kvo kv3 : List (L2.Key × V)} {kso js3 : List Int} {n : Nat} {own b3 : Bk} (ho : BkD G kvo kso n own) (h3 : BkD G kv3 js3 n b3) :
    ∃ js, BkD G (pf (fun k => (valV kv3 (.inl k)).getD ((valV kvo (.inl k)).getD .non)) ((kso ++ js3).filter fun _ => true)) js n (fun k => match b3 k with | some e => some e | none => own k) := by
  rw [filter_yes]
  obtain ⟨js, n1, n2, _⟩ := nk_pf (fun k => (valV kv3 (.inl k)).getD ((valV kvo (.inl k)).getD .non)) _ (kso ++ js3) rfl
  refine ⟨js, n1, fun k hk => ?_, fun k => ?_⟩
  · rcases List.mem_append.mp ((n2 k).mp hk) with z | z
    · exact ho.rg k z
    · exact h3.rg k z
  · rw [valV_pf _ _ _ (kso ++ js3) rfl]
    cases hb : b3 k with
    | some e =>
      obtain ⟨t, a1, a2⟩ := h3.get hb
      rw [if_pos (List.mem_append_right _ ((h3.mem k).mpr ⟨e, hb⟩)), a1]
      exact .inr ⟨t, e, rfl, rfl, a2⟩
    | none =>
      have a1 := h3.no hb
      rw [a1]
      cases hok : own k with
      | none =>
        rw [if_neg]
        · exact .inl ⟨rfl, rfl⟩
        · intro z
          rcases List.mem_append.mp z with z | z
          · obtain ⟨e, he⟩ := (ho.mem k).mp z
            rw [hok] at he; cases he
          · obtain ⟨e, he⟩ := (h3.mem k).mp z
            rw [hb] at he; cases he
      | some e =>
        rw [if_pos (List.mem_append_left _ ((ho.mem k).mpr ⟨e, hok⟩))]
        obtain ⟨t, h4, h5⟩ := ho.get hok
        rw [h4]
        exact .inr ⟨t, e, rfl, rfl, h5⟩
section
variable {P : Program} {w : World} {K : PySem.W.Frag} {mg : Str → Option Value} {base : Heap} {f : Addr} {fd : FuncData}
/-! with_greater -/
def spWG : Sp := fun vs H Q _ => ∃ (G : Hp) (a b : Addr) (n r : Nat) (own given : Bk) (co : Option Nat), vs = [.ref a, .ref b, .int (r : Int), oV co] ∧ Ex G H ∧ BkAt G a n own ∧ BkAt G b n given ∧ n ≤ 8 ∧ r < n ∧ (newer own given r = true → ∃ c, co = some c) ∧
  ∀ G' H' b, Gz G H G' H' → BkAt G' b n (mergeX own given r co) → Q (.ref b) H'
abbrev sWG : Stmt := top 28
abbrev nWG : List Str := ["own", "given", "router", "content", "greater", "key"]
theorem scWG : FnScope nWG ["own", "given", "router", "content"] (defScope sWG) := ⟨rfl, rfl, rfl, by decide +kernel, rfl, by decide +kernel, by decide +kernel⟩
theorem ok_wg (B : Bl mg) (CN : Cal P w K mg base "number_after" ["entry"] 1 spNum) (F : FnP K "with_greater" sWG f fd) : FnOk P w K mg base CX0 2 f fd ["own", "given", "router", "content"] spWG := by
  refine F.ok scWG (fun vs H Q E h => ?_) (fun cdv A outer s H vs Q E hr h => ?_)
  · obtain ⟨G, a, b, n, r, own, given, co, rfl, _⟩ := h
    rfl
  · obtain ⟨G, a, b, n, r, own, given, co, rfl, eG, ⟨kvo, kso, ha, ho⟩, ⟨kvg, ksg, hb, hg⟩, hn, hrn, hnw, k⟩ := h
    have hu : (A.deeper (envOfC "with_greater" (defScope sWG) s.heap.objs.size f cdv)).units + 1 < cLine := by have := hr.un; omega
    have hu0 : (A.deeper (envOfC "with_greater" (defScope sWG) s.heap.objs.size f cdv)).units < cLine := by omega
    refine ⟨_, pss_cons (ps_set (i := 4) scWG.nd rfl (Or.inr rfl) (pe_lock (pe_dc (own := [("key", 5)]) (g := gName 5) (tt := tOr (tB (tDNotIn (tVar 5) (tVar 0))) (tTest (tOp (rGtP K) (tDGet (tVar 1) (tVar 5)) (tDGet (tVar 0) (tVar 5))))) (tk := tVar 5) (tv := tDGet (tVar 1) (tVar 5)) rfl scWG.nd (pi_keys (pv 1)) (blkOk_by (N := nWG) (sc := defScope sWG) (by decide +kernel))
        (fun _ _ _ _ _ => pg_name (i := 5) scWG.nd rfl (Or.inl rfl)) (fun _ _ _ _ _ => pts_one (PW.pt (pw_or (pt_cmp (pc_dnotin hu (pv 5) (pv 0))) (pw_or1 (pt_cmpR (op_gtP (K := K) rfl hu0) (pe_dget hu (pv 1) (pv 5) (fun _ _ => rfl)) (pe_dget hu (pv 0) (pv 5) (fun _ _ => rfl)) rfl))))) (fun _ _ _ _ _ => pv 5) (fun _ _ _ _ _ => pe_dget hu (pv 1) (pv 5) (fun _ _ => rfl)))))
      (pss_cut (ps_if (pt_cmp (pc_din hu (pv 2) (pv 4))) (pss_one (ps_asg (pe_tup (pa_cons (pe_cal CN hr (by rfl) (pa_cons (pe_dget hu (pv 4) (pv 2) (fun _ _ => rfl)) pa_nil)) (pa_cons (pv 3) pa_nil))) (pg_sub (pv 4) (pv 2) (set_dict hu)))) pss_nil)
      (pss_one (ps_ret (pe_dc (own := [("key", 5)]) (g := gName 5) (tt := tYes) (tk := tVar 5) (tv := tDGet2 (tVar 4) (tVar 5) (tDGet1 (tVar 0) (tVar 5))) rfl scWG.nd (pi_list (pe_op op_cat (pe_callTy (call_listD rfl) (by rfl) B.list PyProof.Rows.boot_list (pa_cons (pv 0) pa_nil)) (pe_callTy (call_listD rfl) (by rfl) B.list PyProof.Rows.boot_list (pa_cons (pv 4) pa_nil)))) (blkOk_by (N := nWG) (sc := defScope sWG) (by decide +kernel))
        (fun _ _ _ _ _ => pg_name (i := 5) scWG.nd rfl (Or.inl rfl)) (fun _ _ _ _ _ => pts_nil) (fun _ _ _ _ _ => pv 5) (fun _ _ _ _ _ => pe_dget2 hu (pv 4) (pv 5) (pe_dget1 hu (pv 0) (pv 5) ⟨rfl, rfl, rfl, rfl⟩) ⟨rfl, rfl, rfl, rfl⟩))))), ?_⟩
    have hHa := eG _ _ ha
    have hHb := eG _ _ hb
    have hlo := ho.len
    have hlg := hg.len
    have ent : ∀ {k : Int} {ks : List Int} {kvs : List (L2.Key × V)} {bk : Bk}, BkD G kvs ks n bk → k ∈ ks → ∃ m : Nat, k = (m : Int) ∧ ∃ e t, bk m = some e ∧ valV kvs (.inl k) = some (.ref t) ∧ G t = some (.tup (entV e)) := fun {k ks kvs bk} hd hk => by
      have := hd.rg k hk
      obtain ⟨m, rfl⟩ : ∃ m : Nat, k = (m : Int) := ⟨k.toNat, by omega⟩
      obtain ⟨e, he⟩ := (hd.mem m).mp hk
      obtain ⟨t, h1, h2⟩ := hd.get he
      exact ⟨m, rfl, e, t, he, h1, h2⟩
    refine dc_keys (ks := ksg) (d := b) (n := 1) (fun k => newer own given k.toNat) (fun k => (valV kvg (.inl k)).getD .non) rfl hHb hg.nk.1 (by omega) (fun x => rfl) (by show 5 < 6; decide) (fun k hk H' h1 h2 => ?_) (fun k hk _ H' h1 _ => ?_) fun H1 D e1 nD hD => ?_
    · obtain ⟨m, rfl, g, tg, e1, e2, e3⟩ := ent hg hk
      have q1 := et_B' (ev_dnot (σ := (wipe (start nWG [V.ref a, V.ref b, V.int (r : Int), oV co]) [5]).set 5 (some (.int (m : Int)))) (H := H') (ta := tVar 0) (tb := tVar 5) (k := (m : Int)) (ev_var rfl) (ev_var rfl) (h1 _ _ hHa))
      rw [Int.toNat_natCast]
      unfold newer
      rw [e1]
      rcases ho.at_ m with ⟨a1, a2⟩ | ⟨t, e, a1, a2, a3⟩
      · rw [a1] at q1
        have z := et_or (b := true) q1 (u := tTest (tOp (rGtP K) (tDGet (tVar 1) (tVar 5)) (tDGet (tVar 0) (tVar 5)))) (fun z => by cases z)
        rw [a2]
        exact z
      · rw [a1] at q1
        have nt : ∀ {t e}, G t = some (.tup (entV e)) → H' t = some (.tup (entV e)) := fun {t e} ht => h2 _ _ (fun z => by have := eG _ _ ht; rw [z, hHb] at this; cases this) (eG _ _ ht)
        have z := et_or q1 (u := tTest (tOp (rGtP K) (tDGet (tVar 1) (tVar 5)) (tDGet (tVar 0) (tVar 5)))) (fun _ => et_test (ev_gt (ev_dget (ev_var rfl) (ev_var rfl) (h1 _ _ hHb) e2) (ev_dget (ev_var rfl) (ev_var rfl) (h1 _ _ hHa) a1) (nt e3) (nt a3)))
        rw [a2]
        exact z
    · obtain ⟨m, rfl, g, tg, e1, e2, e3⟩ := ent hg hk
      rw [e2]
      exact ev_dget (kvs := kvg) (ev_var rfl) (ev_var rfl) (h1 _ _ hHb) e2
    · obtain ⟨js3, h3⟩ := greater_bkd (own := own) hg
      generalize pf (fun k => (valV kvg (.inl k)).getD .non) (ksg.filter fun k => newer own given k.toNat) = kv3 at *
      refine g_name ?_
      dsimp only
      change tCut _ _ _ [some (.ref a), some (.ref b), some (.int (r : Int)), some (oV co), some (.ref D), none] H1
      have q1 := et_B' (ev_din (σ := [some (.ref a), some (.ref b), some (.int (r : Int)), some (oV co), some (.ref D), none]) (H := H1) (ta := tVar 4) (tb := tVar 2) (k := (r : Int)) (ev_var rfl) (ev_var rfl) (.inl hD))
      have nDG := fresh_back eG nD
      refine q_cut (M := fun σ' H' => σ' = [some (.ref a), some (.ref b), some (.int (r : Int)), some (oV co), some (.ref D), none] ∧ ∃ G3 kv3 js3, Gz G H G3 H' ∧ H' D = some (.dK kv3) ∧ BkD G3 kv3 js3 n (bumpB (greaterB own given) r co)) ?_ ?_
      · refine s_when q1 (fun hb2 H2 e2 => ?_) (fun hb2 H2 e2 => ?_)
        · have hge : ∃ g, greaterB own given r = some g := by
            rcases h3.at_ r with ⟨a1, _⟩ | ⟨t, e, _, a2, _⟩
            · rw [a1] at hb2; cases hb2
            · exact ⟨e, a2⟩
          obtain ⟨g, hg2⟩ := hge
          have hnr : newer own given r = true := by
            unfold greaterB at hg2
            split at hg2
            · assumption
            · cases hg2
          obtain ⟨c, rfl⟩ := hnw hnr
          obtain ⟨t, h4, h5⟩ := h3.get hg2
          have e02 := e1.trans e2
          have vn : Ev (tCall spNum [] E0 (tCons (tDGet (tVar 4) (tVar 2)) tNil)) [some (.ref a), some (.ref b), some (.int (r : Int)), some (oV (some c)), some (.ref D), none] H2 (.int ((g.1 + 1 : Nat) : Int)) :=
            ev_call (ea_cons (ev_dget (kvs := kv3) (ev_var rfl) (ev_var rfl) (.inl (e2 _ _ hD)) h4) ea_nil) (spP_v fun H3 e3 => ⟨_, rfl, .inr ⟨t, g, rfl, (e02.trans e3) _ _ (eG _ _ h5), by show V.int ((g.1 + 1 : Nat) : Int) = _; congr 1⟩⟩)
          refine (es_tup (xs := entV (g.1 + 1, c)) (ea_cons vn (ea_cons (ev_var (i := 3) rfl) ea_nil)) (by show 2 ≤ 100000; decide)) H2 (Ex.refl _) _ fun te H3 e3 hte => ?_
          have hD3 := e3 _ _ (e2 _ _ hD)
          have hl3 := h3.vlen
          refine ⟨.ref D, rfl, .int (r : Int), rfl, D, _, rfl, .inl ⟨kv3, .inl (r : Int), hD3, rfl, by rw [sizeLine_eq]; omega, rfl⟩, rfl, ?_⟩
          have gz := (Gz.ext eG (e02.trans e3)).trans (Gz.tup (eG.trans (e02.trans e3)) hte)
          have nDt : D ≠ te := fun z => by rw [z, hte] at hD3; cases hD3
          have z := (h3.mono gz.ex).put hrn upd_same
          have e : bumpB (greaterB own given) r (some c) = setB (greaterB own given) r (g.1 + 1, c) := by
            unfold bumpB
            rw [hg2]
          rw [← e] at z
          exact ⟨_, putK kv3 (.inl (r : Int)) (.ref te), _, ⟨gz.ex, Ex.mut gz.hx nD, Ex.mut gz.sub (by rw [upd_ne nDt]; exact nDG), gz.nw⟩, upd_same, z⟩
        · have hno : greaterB own given r = none := by
            rcases h3.at_ r with ⟨_, a1⟩ | ⟨t, e, a2, _, _⟩
            · exact a1
            · rw [a2] at hb2; cases hb2
          refine ⟨rfl, G, kv3, js3, Gz.ext eG (e1.trans e2), e2 _ _ hD, ?_⟩
          have e : bumpB (greaterB own given) r co = greaterB own given := by
            unfold bumpB
            rw [hno]
          rw [e]
          exact h3
      rintro σ' H2 ⟨rfl, G3, kv3, js3, gz3, hD2, h3⟩
      obtain ⟨js, hm⟩ := over_bkd (ho.mono gz3.ex) h3
      have n1 := h3.nk
      have n3 := h3.len
      have hlo := ho.len
      have hHa2 := gz3.hx _ _ hHa
      refine ⟨.ref a, rfl, a, kvo, rfl, .inl hHa2, fun l1 hl1 => ?_⟩
      have ex1 := Ex.new (o := .lst (kvo.map fun kv => kV kv.1)) hl1
      refine ⟨.ref D, rfl, D, kv3, rfl, .inl (ex1 _ _ hD2), fun l2 hl2 => ?_⟩
      have ex2 := Ex.new (o := .lst (kv3.map fun kv => kV kv.1)) hl2
      refine ⟨l1, l2, _, _, rfl, rfl, ex2 _ _ upd_same, upd_same, ?_, fun L hL => ?_⟩
      · rw [keysV ho.nk, keysV n1, List.length_map, List.length_map, sizeLine_eq]
        omega
      have ex3 := Ex.new (o := .lst ((kvo.map fun kv => kV kv.1) ++ kv3.map fun kv => kV kv.1)) hL
      have hLL : (upd (upd (upd H2 l1 (.lst (kvo.map fun kv => kV kv.1))) l2 (.lst (kv3.map fun kv => kV kv.1))) L (.lst ((kvo.map fun kv => kV kv.1) ++ kv3.map fun kv => kV kv.1))) L = some (.lst ((kso ++ js3).map V.int)) := by
        rw [upd_same, keysV ho.nk, keysV n1, List.map_append]
      have e23 := (ex1.trans ex2).trans ex3
      generalize upd (upd (upd H2 l1 (.lst (kvo.map fun kv => kV kv.1))) l2 (.lst (kv3.map fun kv => kV kv.1))) L (.lst ((kvo.map fun kv => kV kv.1) ++ kv3.map fun kv => kV kv.1)) = H3 at *
      refine ⟨L, rfl, ⟨_, sq_of hLL⟩, fun D4 hD4 => ?_⟩
      refine dc_it (H := H3) (ks := kso ++ js3) (fun _ => true) (fun k => (valV kv3 (.inl k)).getD ((valV kvo (.inl k)).getD .non)) walk_ints hD4 (by rw [List.length_append]; omega) (fun H' e => sq_of (e _ _ hLL)) (fun x => rfl) (by show 5 < 6; decide) (fun k hk H' e => et_yes) (fun k hk _ H' e => ?_) fun H' e hD5 => ?_
      · exact ev_dget2 (kvs := kv3) (ev_var rfl) (ev_var rfl) (ev_dget1 (kvs := kvo) (ev_var rfl) (ev_var rfl) (.inl (e _ _ (e23 _ _ hHa2))) rfl) (.inl (e _ _ (e23 _ _ hD2))) rfl
      · have gz := Gz.put gz3.sub (fresh_back e23 hD4) (e23.trans e) hD5
        exact k _ _ D4 (gz3.trans gz) ⟨_, _, upd_same, hm.mono gz.ex⟩
/-! first_book -/
def firstB (r : Nat) (co : Option Nat) : Bk := fun k => if k = r then co.map fun c => (1, c) else none
def spFB : Sp := fun vs H Q _ => ∃ (G : Hp) (n r : Nat) (co : Option Nat), vs = [.int (r : Int), oV co] ∧ Ex G H ∧ r < n ∧ ∀ G' H' b, Gz G H G' H' → BkAt G' b n (firstB r co) → Q (.ref b) H'
abbrev sFB : Stmt := top 29
theorem scFB : FnScope ["router", "content"] ["router", "content"] (defScope sFB) := ⟨rfl, rfl, rfl, by decide +kernel, rfl, by decide +kernel, by decide +kernel⟩
theorem ok_fb (CN : Cal P w K mg base "number_after" ["entry"] 1 spNum) (F : FnP K "first_book" sFB f fd) : FnOk P w K mg base CX0 2 f fd ["router", "content"] spFB := by
  refine F.ok scFB (fun vs H Q E h => ?_) (fun cdv A outer s H vs Q E hr h => ?_)
  · obtain ⟨G, n, r, co, rfl, _⟩ := h
    rfl
  · obtain ⟨G, n, r, co, rfl, eG, hrn, k⟩ := h
    refine ⟨_, pss_one (ps_ret (pe_ifExp (pt_cmp (pc_isN (pv 1))) pe_dnewK (pe_disp (pps_cons (pv 0) (pe_tup (pa_cons (pe_cal CN hr (by rfl) (pa_cons pe_non pa_nil)) (pa_cons (pv 1) pa_nil))) pps_nil) rfl rfl (by simp) (by decide)))), ?_⟩
    unfold tRet tIf
    dsimp only
    refine (ev_isN (te := tVar 1) (σ := [some (.int (r : Int)), some (oV co)]) (x := oV co) (ev_var rfl)) H (Ex.refl _) _ fun H1 e1 => ?_
    have eG1 := eG.trans e1
    cases co with
    | none =>
      rw [decide_eq_true (show oV none = V.non from rfl)]
      simp only [if_true]
      intro D hD
      have gz := (Gz.ext eG e1).trans (Gz.new (o := .dK []) eG1 hD)
      refine k _ _ D gz ⟨[], [], upd_same, ?_⟩
      have z := BkD.nil (upd G D (.dK [])) n
      have e : firstB r none = fun _ => none := by
        funext k
        unfold firstB
        split <;> rfl
      rw [e]
      exact z
    | some c =>
      rw [decide_eq_false (show ¬ oV (some c) = V.non from fun z => by cases z)]
      simp only [Bool.false_eq_true, if_false]
      intro D hD
      have gD := fresh_back eG1 hD
      refine ⟨.int (r : Int), rfl, ?_⟩
      have vn : Ev (tCall spNum [] E0 (tCons (tC .non) tNil)) [some (.int (r : Int)), some (oV (some c))] (upd H1 D (.dK [])) (.int ((1 : Nat) : Int)) := ev_call (ea_cons ev_c ea_nil) (spP_v fun H3 e3 => ⟨_, rfl, .inl ⟨rfl, rfl⟩⟩)
      have eN := Ex.new (o := .dK []) hD
      refine (es_tup (xs := entV (1, c)) (ea_cons vn (ea_cons (ev_var (i := 1) rfl) ea_nil)) (by show 2 ≤ 100000; decide)) _ (Ex.refl _) _ fun te H3 e3 hte => ?_
      have hD3 : H3 D = some (.dK []) := e3 _ _ upd_same
      refine ⟨hD3, [(.inl (r : Int), .ref te)], rfl, by show 1 ≤ 15; decide, ?_⟩
      have nDt : D ≠ te := fun z => by rw [z, hte] at hD3; cases hD3
      have gz1 := (Gz.ext eG (e1.trans (eN.trans e3))).trans (Gz.tup (eG.trans (e1.trans (eN.trans e3))) hte)
      have gD1 : (upd G te (.tup (entV (1, c)))) D = none := by rw [upd_ne nDt]; exact fresh_back eG (fresh_back e1 hD)
      have gz2 := gz1.set (o := .dK (mergeK [] [(.inl (r : Int), .ref te)])) (fresh_back e1 hD) gD1
      have z := (BkD.nil (upd (upd G te (.tup (entV (1, c)))) D (.dK (mergeK [] [(.inl (r : Int), .ref te)]))) n).put hrn (t := te) (e := (1, c)) (by rw [upd_ne (Ne.symm nDt)]; exact upd_same)
      have e : firstB r (some c) = setB (fun _ => none) r (1, c) := by
        funext k
        unfold firstB setB
        split <;> rfl
      rw [← e] at z
      exact k _ _ D gz2 ⟨_, _, upd_same, z⟩
end
end Wk

set_option Elab.async false
set_option linter.all false
set_option maxRecDepth 100000
set_option maxHeartbeats 2000000
namespace Wk
open PySem PySem.Spec PyProof.Rows L2 Evl
def Deed.word : Deed → Str
  | .pas _ _ => "pass"
  | .los _ _ => "lose"
  | .rst _ => "restart"
  | .wri _ _ => "write"
def Deed.one : Deed → Nat
  | .pas a _ => a
  | .los a _ => a
  | .rst r => r
  | .wri r _ => r
theorem Deed.at0 (x : Deed) : atI x.vs 0 = some (.str x.word) := by cases x <;> exact atI_nat (j := 0) rfl
theorem Deed.at1 (x : Deed) : atI x.vs 1 = some (.int (x.one : Int)) := by cases x <;> exact atI_nat (j := 1) rfl
def isWri : Deed → Bool
  | .wri _ _ => true
  | _ => false
def isPas : Deed → Bool
  | .pas _ _ => true
  | _ => false
theorem word_wri (x : Deed) : decide (V.str x.word = V.str "write") = isWri x := by
  cases x with
  | pas a b => exact show decide (V.str "pass" = V.str "write") = false by decide +kernel
  | los a b => exact show decide (V.str "lose" = V.str "write") = false by decide +kernel
  | rst r => exact show decide (V.str "restart" = V.str "write") = false by decide +kernel
  | wri r c => exact show decide (V.str "write" = V.str "write") = true by decide +kernel
theorem word_pas (x : Deed) : decide (V.str x.word = V.str "pass") = isPas x := by
  cases x with
  | pas a b => exact show decide (V.str "pass" = V.str "pass") = true by decide +kernel
  | los a b => exact show decide (V.str "lose" = V.str "pass") = false by decide +kernel
  | rst r => exact show decide (V.str "restart" = V.str "pass") = false by decide +kernel
  | wri r c => exact show decide (V.str "write" = V.str "pass") = false by decide +kernel

theorem g_two {i j : Nat} {x y : V} {σ : L2.St} {H : Hp} {k : L2.St → Hp → Prop} (h : k ((σ.set i (some x)).set j (some y)) H) : gCons (gName i) (gCons (gName j) gNil) [x, y] σ H k := ⟨_, _, rfl, ⟨_, _, rfl, ⟨rfl, h⟩⟩⟩
/-- two targets -/
theorem grow_lc2 {K : PySem.W.Frag} {J : It} {n : Nat} {Gd : Hp → Prop} {Y : Nat → V → Hp → Prop} {j1 j2 : Nat} {vs : List Nat} {σ : L2.St} {H : Hp} {D : Addr} {Qd : Hp → Prop} {te : TE} (u v : Nat → V)
    (w : Walk J n Gd (fun i H' x H'' => H'' = H' ∧ ∃ a, x = .ref a ∧ H a = some (.tup [u i, v i]))) (hY : GoodY Y) (hD : H D = none) (hn : n ≤ 40000) (hG : ∀ H', Ex H H' → Gd H') (hw : ∀ x y, wipe (((wipe σ vs).set j1 (some x)).set j2 (some y)) vs = wipe σ vs)
    (he : ∀ i H', Ex H H' → i < n → EvY te (((wipe σ vs).set j1 (some (u i))).set j2 (some (v i))) H' (Y i))
    (hq : ∀ us H', Ex H H' → H' D = some (.lst us) → Grown Y H' (upTo (fun _ => true) n) us → Qd H') :
    ∃ W : Nat → Nat → Hp → Prop, (∃ m, W 0 m (upd H D (.lst []))) ∧ ∀ i m H, W i m H →
      (J.stop i H ∧ Qd H) ∨ (J.go i H ∧ ∃ Nx : Hp → Prop, (∀ H', Nx H' → ∃ m', m' < m ∧ W (i + 1) m' H') ∧ ∀ x H', J.yld i H x H' → gTup K 2 (gCons (gName j1) (gCons (gName j2) gNil)) x (wipe σ vs) H' fun σ2 H2 => wipe σ2 vs = wipe σ vs ∧ tYes σ2 H2 fun b H3 =>
        if b = true then te σ2 H3 fun y H4 => ∃ acc, H4 D = some (.lst acc) ∧ acc.length < sizeLine ∧ Nx (upd H4 D (.lst (acc ++ [y]))) else Nx H3) := by
  refine lc_it w (Gw Y H (fun _ => true) D) ⟨hD, Ex.new hD, [], upd_same, rfl⟩ (fun i H' _ p => hG H' p.2.1) (fun i x H' H2 hi p y => ?_) (fun H' p => ?_)
  · obtain ⟨rfl, a, rfl, ha⟩ := y
    exact ⟨a, _, rfl, st_of (p.2.1 _ _ ha), rfl, g_two ⟨hw _ _, gw_turn hY p (by omega) et_yes (fun _ => he i _ p.2.1 hi)⟩⟩
  · obtain ⟨_, e, us, d, g⟩ := p
    exact hq us H' e d (g.up hY.up (off_in D H'))
section
variable {K : PySem.W.Frag} {σ : L2.St} {H : Hp} {t : TT} {te tl ta tb : TE}
theorem el_lcS {xs : List V} {j : Nat} {vs : List Nat} (f : Nat → Bool) (v : Nat → V) (h : EvS tl σ H xs) (hz : xs.length ≤ 40000) (hw : ∀ x, wipe ((wipe σ vs).set j (some x)) vs = wipe σ vs)
    (ht : ∀ (i : Nat) (x : V) H1, Ex H H1 → xs[i]? = some x → EvT t ((wipe σ vs).set j (some x)) H1 (f i)) (he : ∀ (i : Nat) (x : V) H1, Ex H H1 → xs[i]? = some x → f i = true → Ev te ((wipe σ vs).set j (some x)) H1 (v i)) :
    EvL (tLc (iTup K tl) (gName j) t te vs) σ H (given xs.length f v) := fun H0 e Q q => h H0 e _ fun p H1 e1 hp => by
  have z := el_lcT (K := K) (σ := σ) (H := H1) (t := t) (te := te) (j := j) (vs := vs) (tl := tC (.ref p)) f v ev_c (st_of hp) hz hw (fun i x H2 e2 hx => ht i x H2 ((e.trans e1).trans e2) hx) (fun i x H2 e2 hx hf => he i x H2 ((e.trans e1).trans e2) hx hf)
  exact z H1 (Ex.refl _) Q fun l H2 hl e2 h2 => q l H2 (fresh_back e1 hl) (e1.trans e2) h2
theorem ev_all_yes {n : Nat} {tl : TE} (h : EvL tl σ H (given n (fun _ => true) fun _ => .bl true)) : Ev (tCB (rAll K) (tCons tl tNil)) σ H (.bl true) := by
  have e : given n (fun _ => true) (fun _ => V.bl true) = (List.replicate n true).map V.bl := by
    rw [given_all]
    apply List.ext_getElem
    · simp
    · intro i h1 h2
      simp
  rw [e] at h
  have z := ev_allL (K := K) h
  rw [show (List.replicate n true).all id = true by simp] at z
  exact z
theorem ev_isi2 {v : V} {d : PyData} {n m : String} {b c : Bool} (h : Ev ta σ H v) (hd : Dq H v d) (h1 : kitB (tyN d) n = some b) (h2 : kitB (tyN d) m = some c) :
    Ev (tCB (rIsiT K) (tCons ta (tCons (tTup (tCons (tC (.ty n)) (tCons (tC (.ty m)) tNil))) tNil))) σ H (.bl (b || c)) := fun H1 e Q q =>
  h H1 e _ fun H2 e2 => ⟨by show 2 ≤ sizeLine; decide, fun p hp => ⟨v, p, [.ty n, .ty m], .type (tyN d), [.type n, .type m], b || c, rfl, upd_same, .cons (.ty n) (.cons (.ty m) .nil), (hd.mono ((e.trans e2).trans (Ex.new hp))).ty,
    kitAny_cons (kit_ty h1) (fun hb => kitAny_cons (kit_ty h2) (fun hc => by rw [hb, hc]; exact kitAny_nil) (fun hc => by rw [hc]; simp)) (fun hb => by rw [hb]; rfl), q _ (e2.trans (Ex.new hp))⟩⟩
theorem ev_inDw {x : Wy} {a : Addr} {us : List V} {ws : List Wy} (ha : EvS ta σ H (x.map V.int)) (hb : Ev tb σ H (.ref a)) (hl : H a = some (.lst us)) (hus : DqA H us (ws.map wd)) : Ev (tOp (rInD K) ta tb) σ H (.bl (decide (x ∈ ws))) := fun H1 e Q q =>
  ha H1 e _ fun p H2 e2 hp => hb H2 (e.trans e2) _ fun H3 e3 => by
    have e03 := (e.trans e2).trans e3
    refine ⟨wd x, ws.map wd, Dq.dp ?_ (wd_of (e3 _ _ hp)), Dq.dp ?_ (.lst (e03 _ _ hl) (hus.mono e03)), shaped_ints x, shaped_wds ws, ?_⟩
    · simp [wd, PyData.canLay0, lay_ints]
    · simp [PyData.canLay0, lay_wds]
    · rw [any_wd]
      exact q H3 (e2.trans e3)
end
theorem k_ll : kitB "list" "list" = some true := by decide +kernel
theorem k_lt : kitB "list" "tuple" = some false := by decide +kernel
theorem k_ss : kitB "str" "str" = some true := by decide +kernel
section
variable {P : Program} {w : World} {K : PySem.W.Frag} {mg : Str → Option Value} {base : Heap} {f : Addr} {fd : FuncData}
/-! is_row of a list -/
abbrev spIsRow : Sp := spP fun H vs z => ∃ (v : V) (ds : List PyData), vs = [v] ∧ Dq H v (.list ds) ∧ z = .bl true
abbrev sIsRow : Stmt := top 10
theorem scIsRow : FnScope ["thing"] ["thing"] (defScope sIsRow) := ⟨rfl, rfl, rfl, by decide +kernel, rfl, by decide +kernel, by decide +kernel⟩
theorem ok_isRow (B : Bl mg) (F : FnP K "is_row" sIsRow f fd) : FnOk P w K mg base CX0 1 f fd ["thing"] spIsRow := by
  refine F.ok scIsRow (fun vs H Q E h => ?_) (fun cdv A outer s H vs Q E hr h => ?_)
  · obtain ⟨z, ⟨v, d, rfl, _⟩, _⟩ := h
    rfl
  · obtain ⟨z, ⟨v, d, rfl, hv, rfl⟩, k⟩ := h
    exact ⟨_, pss_one (ps_ret (pe_callB call_isiT (by rfl) B.isi boot_isinstance (pa_cons (pv 0) (pa_cons (pe_tup (pa_cons (pe_bltn (v := .ty "list") (by rfl) B.list PyProof.Rows.boot_list rfl) (pa_cons (pe_bltn (v := .ty "tuple") (by rfl) B.tuple PyProof.Rows.boot_tuple rfl) pa_nil))) pa_nil)))),
      s_ret (ev_isi2 (ev_var rfl) hv k_ll k_lt) k⟩
/-! is_tuple_of -/
abbrev spTupOf : Sp := spP fun H vs z => ∃ (m : Int) (a : Addr) (ds : List PyData), vs = [.int m, .ref a] ∧ Dq H (.ref a) (.tuple ds) ∧ z = .bl (decide (V.int (ds.length : Int) = V.int m))
abbrev sTupOf : Stmt := top 11
theorem scTupOf : FnScope ["many", "thing"] ["many", "thing"] (defScope sTupOf) := ⟨rfl, rfl, rfl, by decide +kernel, rfl, by decide +kernel, by decide +kernel⟩
theorem ok_tupOf (B : Bl mg) (F : FnP K "is_tuple_of" sTupOf f fd) : FnOk P w K mg base CX0 1 f fd ["many", "thing"] spTupOf := by
  refine F.ok scTupOf (fun vs H Q E h => ?_) (fun cdv A outer s H vs Q E hr h => ?_)
  · obtain ⟨z, ⟨m, v, ds, rfl, _⟩, _⟩ := h
    rfl
  · obtain ⟨z, ⟨m, a, ds, rfl, hv, rfl⟩, k⟩ := h
    refine ⟨_, pss_one (ps_ret (pe_and (pe_callB call_isi (by rfl) B.isi boot_isinstance (pa_cons (pv 1) (pa_cons (pe_bltn (v := .ty "tuple") (by rfl) B.tuple PyProof.Rows.boot_tuple rfl) pa_nil)))
      (pe_one (pe_cmpR op_eq (pe_callB call_len_seq (by rfl) B.len PySem.boot_len (pa_cons (pv 1) pa_nil)) (pv 0) (nomark _))))), ?_⟩
    have v1 : Ev (tVar 1) (start ["many", "thing"] [.int m, .ref a]) H (.ref a) := ev_var rfl
    have v0 : Ev (tVar 0) (start ["many", "thing"] [.int m, .ref a]) H (.int m) := ev_var rfl
    cases hv with
    | @tup _ xs _ h1 h2 =>
      rw [← h2.length] at k
      have z := ev_andV (a := true) (ev_isi (K := K) v1 (.tup h1 h2) (show kitB "tuple" "tuple" = some true by decide +kernel)) fun _ => ev_op (r := rEq) (ev_lenT (K := K) v1 (st_of h1)) v0 (rv_eq rfl)
      exact s_ret z k
/-! is_router_pair -/
abbrev spRPair : Sp := spP fun H vs z => ∃ (n : Nat) (a : Addr) (p : Wy), vs = [.int (n : Int), .ref a] ∧ H a = some (.tup (p.map V.int)) ∧ PrOk n p ∧ z = .bl true
abbrev sRPair : Stmt := top 15
theorem scRPair : FnScope ["size", "thing"] ["size", "thing"] (defScope sRPair) := ⟨rfl, rfl, rfl, by decide +kernel, rfl, by decide +kernel, by decide +kernel⟩
theorem isR_yes {n : Nat} {u : Nat} (h : u < n) : isR (n : Int) (.int (u : Int)) = true := by
  unfold isR isI valI
  rw [decide_eq_true (show (0 : Int) ≤ u by omega), decide_eq_true (show (u : Int) ≤ (n : Int) - 1 by omega)]
  rfl
theorem ok_rPair (CT : Cal P w K mg base "is_tuple_of" ["many", "thing"] 1 spTupOf) (CR : Cal P w K mg base "is_router" ["size", "thing"] 3 spRouter) (F : FnP K "is_router_pair" sRPair f fd) : FnOk P w K mg base CX0 4 f fd ["size", "thing"] spRPair := by
  refine F.ok scRPair (fun vs H Q E h => ?_) (fun cdv A outer s H vs Q E hr h => ?_)
  · obtain ⟨z, ⟨n, v, ds, rfl, _⟩, _⟩ := h
    rfl
  · obtain ⟨z, ⟨n, a, p, rfl, ha, ⟨u, v, rfl, hu, hv, _⟩, rfl⟩, k⟩ := h
    refine ⟨_, pss_one (ps_ret (pe_and (pe_cal CT hr (by rfl) (pa_cons pe_int (pa_cons (pv 1) pa_nil))) (pe_and (pe_cal CR hr (by rfl) (pa_cons (pv 0) (pa_cons (pe_ix ix_tup (pv 1) pe_int (fun _ _ => rfl)) pa_nil)))
      (pe_one (pe_cal CR hr (by rfl) (pa_cons (pv 0) (pa_cons (pe_ix ix_tup (pv 1) pe_int (fun _ _ => rfl)) pa_nil))))))), ?_⟩
    have v1 : Ev (tVar 1) (start ["size", "thing"] [.int (n : Int), .ref a]) H (.ref a) := ev_var rfl
    have v0 : Ev (tVar 0) (start ["size", "thing"] [.int (n : Int), .ref a]) H (.int (n : Int)) := ev_var rfl
    have c1 : Ev (tCall spTupOf [] E0 (tCons (tC (.int 2)) (tCons (tVar 1) tNil))) (start ["size", "thing"] [.int (n : Int), .ref a]) H (.bl true) := ev_call (ea_cons ev_c (ea_cons v1 ea_nil)) (spP_v fun H1 e => ⟨2, a, [.int (u : Int), .int (v : Int)], rfl, .tup (e _ _ ha) (DqA.ints [(u : Int), (v : Int)]), rfl⟩)
    have c2 : Ev (tCall spRouter [] E0 (tCons (tVar 0) (tCons (tOp (rIxT K) (tVar 1) (tC (.int 0))) tNil))) (start ["size", "thing"] [.int (n : Int), .ref a]) H (.bl true) := ev_call (ea_cons v0 (ea_cons (ev_op v1 ev_c (rv_ixT (i := 0) (st_of ha) rfl)) ea_nil)) (spP_v fun H1 e => ⟨(n : Int), _, .int (u : Int), rfl, .int _, by rw [isR_yes hu]⟩)
    have c3 : Ev (tCall spRouter [] E0 (tCons (tVar 0) (tCons (tOp (rIxT K) (tVar 1) (tC (.int 1))) tNil))) (start ["size", "thing"] [.int (n : Int), .ref a]) H (.bl true) := ev_call (ea_cons v0 (ea_cons (ev_op v1 ev_c (rv_ixT (i := 1) (st_of ha) rfl)) ea_nil)) (spP_v fun H1 e => ⟨(n : Int), _, .int (v : Int), rfl, .int _, by rw [isR_yes hv]⟩)
    exact s_ret (ev_andV c1 fun _ => ev_andV c2 fun _ => c3) k
/-! is_row_of_unlike_pairs -/
abbrev spUnl : Sp := spP fun H vs z => ∃ (n : Nat) (l : Addr) (us : List V) (prs : List Wy), vs = [.int (n : Int), .ref l] ∧ H l = some (.lst us) ∧ DqA H us (prs.map wd) ∧ (∀ p ∈ prs, PrOk n p) ∧ prs.length ≤ 1000 ∧ z = .bl true
abbrev sUnl : Stmt := top 16
abbrev nUnl : List Str := ["size", "thing", "pair"]
theorem scUnl : FnScope nUnl ["size", "thing"] (defScope sUnl) := ⟨rfl, rfl, rfl, by decide +kernel, rfl, by decide +kernel, by decide +kernel⟩
theorem ok_unl (B : Bl mg) (CI : Cal P w K mg base "is_row" ["thing"] 1 spIsRow) (CP : Cal P w K mg base "is_router_pair" ["size", "thing"] 4 spRPair) (F : FnP K "is_row_of_unlike_pairs" sUnl f fd) : FnOk P w K mg base CX0 5 f fd ["size", "thing"] spUnl := by
  refine F.ok scUnl (fun vs H Q E h => ?_) (fun cdv A outer s H vs Q E hr h => ?_)
  · obtain ⟨z, ⟨n, v, ds, us, rfl, _⟩, _⟩ := h
    rfl
  · obtain ⟨z, ⟨n, l, us, prs, rfl, hl, hus, hok, hpl, rfl⟩, k⟩ := h
    refine ⟨_, pss_one (ps_ret (pe_and (pe_cal CI hr (by rfl) (pa_cons (pv 1) pa_nil)) (pe_one (pe_callB (cr_all rfl) (by rfl) B.all boot_all (pa_cons
      (pe_lc (own := [("pair", 2)]) (g := gName 2) (tt := tYes) (te := tAndV (tCall spRPair [] E0 (tCons (tVar 0) (tCons (tVar 2) tNil))) (tOp rNe (tOp (rIxT K) (tVar 2) (tC (.int 0))) (tOp (rIxT K) (tVar 2) (tC (.int 1))))) rfl scUnl.nd (pi_list (pv 1)) (blkOk_by (N := nUnl) (sc := defScope sUnl) (by decide +kernel))
        (fun _ _ _ _ _ => pg_name (i := 2) scUnl.nd rfl (Or.inl rfl)) (fun _ _ _ _ _ => pts_nil) (fun _ _ _ _ _ => pe_and (pe_cal CP hr (by rfl) (pa_cons (pv 0) (pa_cons (pv 2) pa_nil))) (pe_one (pe_cmpR op_ne (pe_ix ix_tup (pv 2) pe_int (fun _ _ => rfl)) (pe_ix ix_tup (pv 2) pe_int (fun _ _ => rfl)) rfl)))) pa_nil))))), ?_⟩
    have hul := hus.length
    rw [List.length_map] at hul
    have c1 : Ev (tCall spIsRow [] E0 (tCons (tVar 1) tNil)) (start nUnl [.int (n : Int), .ref l]) H (.bl true) := ev_call (ea_cons (ev_var rfl) ea_nil) (spP_v fun H1 e => ⟨_, prs.map wd, rfl, .lst (e _ _ hl) (hus.mono e), rfl⟩)
    refine s_ret (ev_andV c1 fun _ => ev_all_yes (n := us.length) (el_lcL (K := K) (fun _ => true) (fun _ => .bl true) (ev_var rfl) (sq_of hl) (by omega) (fun x => rfl) (fun _ _ _ _ _ => et_yes) fun i x H1 e hx _ => ?_)) k
    obtain ⟨p, h1, h2⟩ := DqA.wds_inv hus hx
    obtain ⟨a, rfl, ha⟩ := wd_ref h2
    have hp := hok p (List.mem_of_getElem? h1)
    have hp2 := hp
    obtain ⟨u, v, rfl, hu, hv, hne⟩ := hp
    have ha1 := e _ _ ha
    have q2 : Ev (tVar 2) ((wipe (start nUnl [.int (n : Int), .ref l]) [2]).set 2 (some (.ref a))) H1 (.ref a) := ev_var rfl
    have z1 : Ev (tCall spRPair [] E0 (tCons (tVar 0) (tCons (tVar 2) tNil))) ((wipe (start nUnl [.int (n : Int), .ref l]) [2]).set 2 (some (.ref a))) H1 (.bl true) := ev_call (ea_cons (ev_var rfl) (ea_cons q2 ea_nil)) (spP_v fun H2 e2 => ⟨n, a, _, rfl, e2 _ _ ha1, hp2, rfl⟩)
    have z2 := ev_op (r := rNe) (ev_op q2 ev_c (rv_ixT (K := K) (i := 0) (v := .int (u : Int)) (st_of ha1) rfl)) (ev_op q2 ev_c (rv_ixT (K := K) (i := 1) (v := .int (v : Int)) (st_of ha1) rfl)) (rv_ne rfl)
    have hd : (!decide (V.int (u : Int) = V.int (v : Int))) = true := by
      rw [decide_eq_false]
      · rfl
      · intro z
        injection z with z
        omega
    rw [hd] at z2
    exact ev_andV z1 fun _ => z2
/-! is_size, refuse_wrong_flood -/
abbrev spSize : Sp := spP fun H vs z => ∃ (a : Int) (v : V) (d : PyData), vs = [.int a, v] ∧ Dq H v d ∧ z = .bl (isI d && (decide (a ≤ valI d) && decide (valI d ≤ 8)))
abbrev sSize : Stmt := top 14
theorem scSize : FnScope ["least", "thing"] ["least", "thing"] (defScope sSize) := ⟨rfl, rfl, rfl, by decide +kernel, rfl, by decide +kernel, by decide +kernel⟩
theorem ok_size {t8 : Tok} (hM : mg "MOST_ROUTERS" = some (.int 8 t8)) (C : Cal P w K mg base "is_between" ["least", "most", "thing"] 2 spBetween) (F : FnP K "is_size" sSize f fd) : FnOk P w K mg base CX0 3 f fd ["least", "thing"] spSize := by
  refine F.ok scSize (fun vs H Q E h => ?_) (fun cdv A outer s H vs Q E hr h => ?_)
  · obtain ⟨z, ⟨n, v, d, rfl, _⟩, _⟩ := h
    rfl
  · obtain ⟨z, ⟨n, v, d, rfl, hd, rfl⟩, k⟩ := h
    refine ⟨_, pss_one (ps_ret (pe_cal C hr (by rfl) (pa_cons (pv 0) (pa_cons (pe_glob (v := .int 8) (by rfl) hM ⟨_, rfl⟩) (pa_cons (pv 1) pa_nil))))), ?_⟩
    exact s_ret (ev_call (ea_cons (ev_var rfl) (ea_cons ev_c (ea_cons (ev_var rfl) ea_nil))) (spP_v fun H1 e => ⟨n, 8, v, d, rfl, hd.mono e, rfl⟩)) k
abbrev spRWF : Sp := spP fun H vs z => ∃ (n : Nat) (l : Addr) (us : List V) (prs : List Wy), vs = [.int (n : Int), .ref l] ∧ 1 ≤ n ∧ n ≤ 8 ∧ H l = some (.lst us) ∧ DqA H us (prs.map wd) ∧ (∀ p ∈ prs, PrOk n p) ∧ prs.length ≤ 1000 ∧ z = .non
abbrev sRWF : Stmt := top 22
theorem scRWF : FnScope ["size", "links"] ["size", "links"] (defScope sRWF) := ⟨rfl, rfl, rfl, by decide +kernel, rfl, by decide +kernel, by decide +kernel⟩
theorem ok_rwf {t1 : Tok} (hM : mg "LEAST_SIZE" = some (.int 1 t1)) (CS : Cal P w K mg base "is_size" ["least", "thing"] 3 spSize) (CU : Cal P w K mg base "is_row_of_unlike_pairs" ["size", "thing"] 5 spUnl) (F : FnP K "refuse_wrong_flood" sRWF f fd) : FnOk P w K mg base CX0 6 f fd ["size", "links"] spRWF := by
  refine F.ok scRWF (fun vs H Q E h => ?_) (fun cdv A outer s H vs Q E hr h => ?_)
  · obtain ⟨z, ⟨n, v, ds, us, rfl, _⟩, _⟩ := h
    rfl
  · obtain ⟨z, ⟨n, l, us, prs, rfl, hn1, hn8, hl, hus, hok, hpl, rfl⟩, k⟩ := h
    refine ⟨_, pss_cons (ps_if (pt_not (pt_val (pe_cal CS hr (by rfl) (pa_cons (pe_glob (v := .int 1) (by rfl) hM ⟨_, rfl⟩) (pa_cons (pv 0) pa_nil))))) (pss_one ps_never) pss_nil)
      (pss_one (ps_if (pt_not (pt_val (pe_cal CU hr (by rfl) (pa_cons (pv 0) (pa_cons (pv 1) pa_nil))))) (pss_one ps_never) pss_nil)), ?_⟩
    have b1 : (isI (.int (n : Int)) && (decide ((1 : Int) ≤ valI (.int (n : Int))) && decide (valI (.int (n : Int)) ≤ 8))) = true := by
      show (true && (decide ((1 : Int) ≤ (n : Int)) && decide ((n : Int) ≤ 8))) = true
      rw [decide_eq_true (show (1 : Int) ≤ n by omega), decide_eq_true (show (n : Int) ≤ 8 by omega)]
      rfl
    have c1 : Ev (tCall spSize [] E0 (tCons (tC (.int 1)) (tCons (tVar 0) tNil))) (start ["size", "links"] [.int (n : Int), .ref l]) H (.bl true) := ev_call (ea_cons ev_c (ea_cons (ev_var rfl) ea_nil)) (spP_v fun H1 e => ⟨1, _, .int (n : Int), rfl, .int _, by rw [b1]⟩)
    refine q_when (b := !true) (et_not (et_B c1)) (fun z => by cases z) fun _ H1 e1 => ?_
    have c2 : Ev (tCall spUnl [] E0 (tCons (tVar 0) (tCons (tVar 1) tNil))) (start ["size", "links"] [.int (n : Int), .ref l]) H1 (.bl true) := ev_call (ea_cons (ev_var rfl) (ea_cons (ev_var rfl) ea_nil)) (spP_v fun H2 e => ⟨n, l, us, prs, rfl, (e1.trans e) _ _ hl, hus.mono (e1.trans e), hok, hpl, rfl⟩)
    refine s_when (b := !true) (et_not (et_B c2)) (fun z => by cases z) fun _ H2 e2 => k H2 (e1.trans e2)
/-! both_ways -/
abbrev sBoth : Stmt := top 23
abbrev nBoth : List Str := ["links", "a", "b"]
theorem scBoth : FnScope nBoth ["links"] (defScope sBoth) := ⟨rfl, rfl, rfl, by decide +kernel, rfl, by decide +kernel, by decide +kernel⟩
theorem ok_both (B : Bl mg) (hs : mg "sorted" = none) (F : FnP K "both_ways" sBoth f fd) : FnOk P w K mg base CX0 1 f fd ["links"] spPairs := by
  refine F.ok scBoth (fun vs H Q E h => ?_) (fun cdv A outer s H vs Q E hr h => ?_)
  · obtain ⟨l, us, prs, rfl, _⟩ := h
    rfl
  · obtain ⟨l, us, prs, rfl, hl, hus, hok, hpl, k⟩ := h
    have hu : (A.deeper (envOfC "both_ways" (defScope sBoth) s.heap.objs.size f cdv)).units + 64 < cLine := by have := hr.un; omega
    refine ⟨_, pss_one (ps_ret (pe_callB (cr_sortedT rfl) (by rfl) hs boot_sorted (pa_cons (pe_callTy (cr_setOfT rfl hu) (by rfl) B.set PyProof.Rows.boot_set (pa_cons (pe_op op_cat (pe_callTy (call_listK2 (K := K) rfl) (by rfl) B.list PyProof.Rows.boot_list (pa_cons (pv 0) pa_nil))
      (pe_lc (own := [("a", 1), ("b", 2)]) (g := gTup K 2 (gCons (gName 1) (gCons (gName 2) gNil))) (tt := tYes) (te := tTup (tCons (tVar 2) (tCons (tVar 1) tNil))) rfl scBoth.nd
        (pi_list (pv 0)) (blkOk_by (N := nBoth) (sc := defScope sBoth) (by decide +kernel)) (fun _ _ _ _ _ => pg_tup rfl (pgs_cons (pg_name (i := 1) scBoth.nd rfl (Or.inl rfl)) (pgs_cons (pg_name (i := 2) scBoth.nd rfl (Or.inl rfl)) pgs_nil)))
        (fun _ _ _ _ _ => pts_nil)
        (fun _ _ _ _ _ => pe_tup (pa_cons (pv 2) (pa_cons (pv 1) pa_nil))))) pa_nil)) pa_nil))), ?_⟩
    have hul := hus.length
    rw [List.length_map] at hul
    have hbd := PrOk.bd (n := 8) (by omega) (both_ok hok)
    refine ret_cb (cb1 ?_)
    refine ⟨.ref l, rfl, l, us, rfl, .inl (sq_of hl), fun l1 hl1 => ?_⟩
    have ex1 := Ex.new (o := .lst us) hl1
    have h11 : (upd H l1 (.lst us)) l1 = some (.lst us) := upd_same
    generalize upd H l1 (.lst us) = H1 at *
    have two : ∀ {i : Nat} {x : V}, us[i]? = some x → ∃ a, x = .ref a ∧ H1 a = some (.tup [.int ((prs.getD i []).getD 0 0), .int ((prs.getD i []).getD 1 0)]) := by
      intro i x hx
      obtain ⟨w, h1, h2⟩ := DqA.wds_inv hus hx
      obtain ⟨a, rfl, ha⟩ := wd_ref h2
      obtain ⟨u, v, rfl, _⟩ := hok w (List.mem_of_getElem? h1)
      refine ⟨a, rfl, ?_⟩
      rw [List.getD_eq_getElem?_getD (l := prs), h1]
      exact ex1 _ _ ha
    refine ⟨.ref l, rfl, l, rfl, ⟨us, sq_of (ex1 _ _ hl)⟩, fun D hD => ?_⟩
    refine grow_lc2 (K := K) (fun i => .int ((prs.getD i []).getD 0 0)) (fun i => .int ((prs.getD i []).getD 1 0)) ((walk_list (K := K) (a := l) (xs := us)).mono (fun H h => h) fun i H' x H'' hi _ y => ⟨y.1, two y.2⟩) (tupY_good fun i => (swW (prs.getD i [])).map V.int) hD (by omega)
      (fun H' e => sq_of (e _ _ (ex1 _ _ hl))) (fun x y => rfl) (fun i H' e hi => ?_) (fun us2 H2 e2 hd g => ?_)
    · intro H3 e3 Q3 q
      exact ⟨_, rfl, _, rfl, by show 2 ≤ sizeLine; decide, fun p hp => q _ _ (Ex.new hp) ⟨p, rfl, upd_same⟩⟩
    · obtain ⟨ks2, k1, k2, k3⟩ := grown_ks g
      subst k1
      rw [upTo_all, hul, range_sw] at k2
      have e2' := ex1.trans e2
      obtain ⟨ks1, j1, j2, j3⟩ := wds_ks (hus.mono e2')
      have l1' : ks1.length = prs.length := by rw [← j2, List.length_map]
      have l2 : ks2.length = prs.length := by
        have := congrArg List.length k2
        simpa using this
      refine ⟨l1, D, us, _, rfl, rfl, e2 _ _ h11, hd, by rw [List.length_map, sizeLine_eq]; omega, fun t ht => ?_⟩
      have et := Ex.new (o := .lst (us ++ ks2.map fun p => V.ref p.1)) ht
      have htt : (upd H2 t (.lst (us ++ ks2.map fun p => V.ref p.1))) t = some (.lst ((ks1 ++ ks2).map fun p => V.ref p.1)) := by
        rw [upd_same, List.map_append, ← j1]
      generalize upd H2 t (.lst (us ++ ks2.map fun p => V.ref p.1)) = H3 at *
      have hm3 : ∀ p ∈ ks1 ++ ks2, H3 p.1 = some (.tup (p.2.map V.int)) := fun p hp => by
        rcases List.mem_append.mp hp with z | z
        · exact et _ _ (j3 p z)
        · exact et _ _ (k3 p z)
      have hmem : ∀ p, p ∈ (ks1 ++ ks2).map (·.2) ↔ p ∈ prs ++ prs.map swW := by
        intro p
        rw [List.map_append, j2, k2]
      refine ⟨t, ks1 ++ ks2, rfl, sq_of htt, fun p hp => st_of (hm3 p hp), by rw [List.length_append]; omega, fun a L ha h1 h2 => ?_⟩
      have ea := Ex.new (o := SetTO P w a L) ha
      refine ⟨a, L, 2, 64, rfl, upd_same, fun p hp => st_of (ea _ _ (hm3 p (h1 p hp))), by decide, fun p hp => ?_, fun L' p pm nd l64 pw hp => ?_⟩
      · obtain ⟨u, v', hu', hv', ep⟩ := hbd p.2 ((hmem _).mp (List.mem_map.mpr ⟨p, h1 p hp, rfl⟩))
        rw [ep]
        refine ⟨rfl, fun m hm => ?_⟩
        rcases List.mem_cons.mp hm with z | z
        · omega
        · rcases List.mem_cons.mp z with z | z
          · omega
          · cases z
      · have eM : L'.map (·.2) = joinW prs := by
          refine asc_unique hbd (fun q => ?_) nd (List.pairwise_map.mpr pw)
          rw [← hmem]
          constructor
          · intro hq
            obtain ⟨r, hr', rfl⟩ := List.mem_map.mp hq
            exact List.mem_map.mpr ⟨r, h1 r (pm.mem_iff.mp hr'), rfl⟩
          · intro hq
            obtain ⟨r, hr', rfl⟩ := List.mem_map.mp hq
            obtain ⟨r2, hr2, e⟩ := List.mem_map.mp (h2 r hr')
            exact List.mem_map.mpr ⟨r2, pm.mem_iff.mpr hr2, e⟩
        have ep := Ex.new (o := .lst (L'.map fun q => V.ref q.1)) hp
        refine k _ p _ ((e2'.trans et).trans (ea.trans ep)) (fresh_back ((e2'.trans et).trans ea) hp) upd_same ?_
        rw [← eM]
        exact ks_wds fun q hq => ep _ _ (ea _ _ (hm3 q (h1 q (pm.mem_iff.mp hq))))
/-! is_flood_deed -/
theorem Deed.len (x : Deed) : (x.vs.length = 3 ∨ x.vs.length = 2) ∧ x.vs.length ≠ 0 := by cases x <;> simp [Deed.vs]
theorem Deed.ints (x : Deed) {i : Nat} {v : V} (h : (x.vs.drop 1)[i]? = some v) : ∃ n : Int, v = .int n := by
  cases x with
  | rst r =>
    match i, h with
    | 0, h => exact ⟨_, (Option.some.inj h).symm⟩
  | pas a b =>
    match i, h with
    | 0, h => exact ⟨_, (Option.some.inj h).symm⟩
    | 1, h => exact ⟨_, (Option.some.inj h).symm⟩
  | los a b =>
    match i, h with
    | 0, h => exact ⟨_, (Option.some.inj h).symm⟩
    | 1, h => exact ⟨_, (Option.some.inj h).symm⟩
  | wri a b =>
    match i, h with
    | 0, h => exact ⟨_, (Option.some.inj h).symm⟩
    | 1, h => exact ⟨_, (Option.some.inj h).symm⟩
def isRst : Deed → Bool
  | .rst _ => true
  | _ => false
theorem word_rst (x : Deed) : decide (V.str x.word = V.str "restart") = isRst x := by
  cases x with
  | pas a b => exact show decide (V.str "pass" = V.str "restart") = false by decide +kernel
  | los a b => exact show decide (V.str "lose" = V.str "restart") = false by decide +kernel
  | rst r => exact show decide (V.str "restart" = V.str "restart") = true by decide +kernel
  | wri r c => exact show decide (V.str "write" = V.str "restart") = false by decide +kernel
end
end Wk

set_option Elab.async false
set_option linter.all false
set_option maxRecDepth 100000
set_option maxHeartbeats 4000000
namespace Wk
open PySem PySem.Spec PyProof.Rows L2 Evl
/-! states -/
def cV (n : Nat) (cs : Nat → Option Nat) : List V := (List.range n).map fun r => oV (cs r)
theorem cV_at {n : Nat} {cs : Nat → Option Nat} {r : Nat} (h : r < n) : (cV n cs)[r]? = some (oV (cs r)) := by
  unfold cV
  rw [List.getElem?_map, List.getElem?_range h]
  rfl
theorem cV_len (n : Nat) (cs : Nat → Option Nat) : (cV n cs).length = n := by unfold cV; simp
theorem cV_set {n : Nat} {cs : Nat → Option Nat} {r c : Nat} : (cV n cs).set r (.int (c : Int)) = cV n fun k => if k = r then some c else cs k := by
  apply List.ext_getElem?
  intro i
  by_cases hi : i < n
  · rw [cV_at hi, List.getElem?_set]
    by_cases e : r = i
    · rw [if_pos e, if_pos e.symm, if_pos (by rw [cV_len]; omega)]
      rfl
    · rw [if_neg e, if_neg (fun z => e z.symm), cV_at hi]
  · rw [List.getElem?_eq_none (by rw [List.length_set, cV_len]; omega), List.getElem?_eq_none (by rw [cV_len]; omega)]
structure BsAt (G : Hp) (bs : List V) (n : Nat) (B : Nat → Bk) : Prop where
  len : bs.length = n
  at_ : ∀ k, k < n → ∃ a, bs[k]? = some (.ref a) ∧ BkAt G a n (B k)
theorem BsAt.mono {G G' : Hp} (e : Ex G G') {bs : List V} {n : Nat} {B : Nat → Bk} (h : BsAt G bs n B) : BsAt G' bs n B := ⟨h.len, fun k hk => by
  obtain ⟨a, h1, h2⟩ := h.at_ k hk
  exact ⟨a, h1, h2.mono e⟩⟩
theorem BsAt.set {G : Hp} {bs : List V} {n r : Nat} {D : Addr} {B : Nat → Bk} {b' : Bk} (h : BsAt G bs n B) (hD : BkAt G D n b') : BsAt G (bs.set r (.ref D)) n fun k => if k = r then b' else B k := by
  refine ⟨by rw [List.length_set]; exact h.len, fun k hk => ?_⟩
  have hl := h.len
  rw [List.getElem?_set]
  by_cases e : r = k
  · rw [if_pos e, if_pos (by omega)]
    refine ⟨D, rfl, ?_⟩
    rw [if_pos e.symm]
    exact hD
  · rw [if_neg e, if_neg (fun z => e z.symm)]
    exact h.at_ k hk
def StAt (G : Hp) (st : Addr) (n : Nat) (B : Nat → Bk) (cs : Nat → Option Nat) : Prop := ∃ tb tc bs, G st = some (.tup [.ref tb, .ref tc]) ∧ G tb = some (.tup bs) ∧ G tc = some (.tup (cV n cs)) ∧ BsAt G bs n B
theorem StAt.mono {G G' : Hp} (e : Ex G G') {st : Addr} {n : Nat} {B : Nat → Bk} {cs : Nat → Option Nat} (h : StAt G st n B cs) : StAt G' st n B cs := by
  obtain ⟨tb, tc, bs, h1, h2, h3, h4⟩ := h
  exact ⟨tb, tc, bs, e _ _ h1, e _ _ h2, e _ _ h3, h4.mono e⟩
def numN : Option Ent → Nat
  | none => 1
  | some e => e.1 + 1
def stepB (B : Nat → Bk) (cs : Nat → Option Nat) : Deed → Nat → Bk
  | .wri r c => fun k => if k = r then setB (B r) r (numN (B r r), c) else B k
  | .pas a b => fun k => if k = b then mergeX (B b) (B a) b (cs b) else B k
  | .rst r => fun k => if k = r then firstB r (cs r) else B k
  | .los _ _ => B
def stepC (cs : Nat → Option Nat) : Deed → Nat → Option Nat
  | .wri r c => fun k => if k = r then some c else cs k
  | _ => cs
/-- a deed that may be done -/
def Deed.may (n : Nat) (B : Nat → Bk) (cs : Nat → Option Nat) : Deed → Prop
  | .pas a b => a < n ∧ b < n ∧ (newer (B b) (B a) b = true → ∃ c, cs b = some c)
  | .los a b => True
  | .rst r => r < n
  | .wri r _ => r < n
section
variable {P : Program} {w : World} {K : PySem.W.Frag} {mg : Str → Option Value} {base : Heap} {f : Addr} {fd : FuncData}
/-! behind -/
def spBeh : Sp := fun vs H Q _ => ∃ (G : Hp) (st t : Addr) (n : Nat) (B : Nat → Bk) (cs : Nat → Option Nat) (x : Deed), vs = [.ref st, .ref t] ∧ Ex G H ∧ StAt G st n B cs ∧ n ≤ 8 ∧ H t = some (.tup x.vs) ∧ x.may n B cs ∧
  ∀ G' H' st', Gz G H G' H' → StAt G' st' n (stepB B cs x) (stepC cs x) → Q (.ref st') H'
abbrev sBeh : Stmt := top 25
abbrev nBeh : List Str := ["state", "deed", "books", "contents", "word", "router", "book", "to"]
theorem scBeh : FnScope nBeh ["state", "deed"] (defScope sBeh) := ⟨rfl, rfl, rfl, by decide +kernel, rfl, by decide +kernel, by decide +kernel⟩
theorem ok_beh (CR : Cal P w K mg base "replaced" nRepl 1 spRepl) (CN : Cal P w K mg base "number_after" ["entry"] 1 spNum) (CE : Cal P w K mg base "with_entry" ["book", "router", "entry"] 1 spWE) (CG : Cal P w K mg base "with_greater" ["own", "given", "router", "content"] 2 spWG) (CF : Cal P w K mg base "first_book" ["router", "content"] 2 spFB)
    (F : FnP K "behind" sBeh f fd) : FnOk P w K mg base CX0 3 f fd ["state", "deed"] spBeh := by
  refine F.ok scBeh (fun vs H Q E h => ?_) (fun cdv A outer s H vs Q E hr h => ?_)
  · obtain ⟨G, st, t, n, B, cs, x, rfl, _⟩ := h
    rfl
  · obtain ⟨G, st, t, n, B, cs, x, rfl, eG, ⟨tb, tc, bs, g1, g2, g3, hB⟩, hn, ht, hx, k⟩ := h
    have hu : (A.deeper (envOfC "behind" (defScope sBeh) s.heap.objs.size f cdv)).units + 1 < cLine := by have := hr.un; omega
    refine ⟨_, pss_cons (ps_asg (pv 0) (pg_tup rfl (pgs_cons (pg_name (i := 2) scBeh.nd rfl (Or.inl rfl)) (pgs_cons (pg_name (i := 3) scBeh.nd rfl (Or.inl rfl)) pgs_nil))))
      (pss_cons (ps_asg (pe_slice sl_tupA (pv 1) po_none (po_some pe_int)) (pg_tup rfl (pgs_cons (pg_name (i := 4) scBeh.nd rfl (Or.inl rfl)) (pgs_cons (pg_name (i := 5) scBeh.nd rfl (Or.inl rfl)) pgs_nil))))
      (pss_cons (ps_if (pt_cmpR op_eq (pv 4) pe_str (nomark _))
        (pss_cons (ps_set (i := 6) scBeh.nd rfl (Or.inl rfl) (pe_cal CE hr (by rfl) (pa_cons (pe_ix ix_tup (pv 2) (pv 5) (fun _ _ => rfl)) (pa_cons (pv 5) (pa_cons (pe_tup (pa_cons (pe_cal CN hr (by rfl) (pa_cons (pe_dget1 hu (pe_ix ix_tup (pv 2) (pv 5) (fun _ _ => rfl)) (pv 5) ⟨rfl, rfl, rfl, rfl⟩) pa_nil)) (pa_cons (pe_ix ix_tup (pv 1) pe_int (fun _ _ => rfl)) pa_nil))) pa_nil)))))
        (pss_one (ps_ret (pe_tup (pa_cons (pe_cal CR hr (by rfl) (pa_cons (pv 2) (pa_cons (pv 5) (pa_cons (pv 6) pa_nil)))) (pa_cons (pe_cal CR hr (by rfl) (pa_cons (pv 3) (pa_cons (pv 5) (pa_cons (pe_ix ix_tup (pv 1) pe_int (fun _ _ => rfl)) pa_nil)))) pa_nil)))))) pss_nil)
      (pss_cons (ps_if (pt_cmpR op_eq (pv 4) pe_str (nomark _))
        (pss_cons (ps_set (i := 7) scBeh.nd rfl (Or.inl rfl) (pe_ix ix_tup (pv 1) pe_int (fun _ _ => rfl)))
        (pss_one (ps_ret (pe_tup (pa_cons (pe_cal CR hr (by rfl) (pa_cons (pv 2) (pa_cons (pv 7) (pa_cons (pe_cal CG hr (by rfl) (pa_cons (pe_ix ix_tup (pv 2) (pv 7) (fun _ _ => rfl)) (pa_cons (pe_ix ix_tup (pv 2) (pv 5) (fun _ _ => rfl)) (pa_cons (pv 7) (pa_cons (pe_ix ix_tup (pv 3) (pv 7) (fun _ _ => rfl)) pa_nil))))) pa_nil)))) (pa_cons (pv 3) pa_nil)))))) pss_nil)
      (pss_cons (ps_if (pt_cmpR op_eq (pv 4) pe_str (nomark _)) (pss_one (ps_ret (pe_tup (pa_cons (pe_cal CR hr (by rfl) (pa_cons (pv 2) (pa_cons (pv 5) (pa_cons (pe_cal CF hr (by rfl) (pa_cons (pv 5) (pa_cons (pe_ix ix_tup (pv 3) (pv 5) (fun _ _ => rfl)) pa_nil))) pa_nil)))) (pa_cons (pv 3) pa_nil))))) pss_nil)
      (pss_one (ps_ret (pv 0))))))), ?_⟩
    refine ⟨.ref st, rfl, st, _, rfl, st_of (eG _ _ g1), rfl, g_two ?_⟩
    dsimp only
    change tSeq _ _ _ [some (.ref st), some (.ref t), some (.ref tb), some (.ref tc), none, none, none, none] H
    have sl : EvS (tSl (rSlA K) (tVar 1) tNoPart (tPart (tC (.int 2)))) [some (.ref st), some (.ref t), some (.ref tb), some (.ref tc), none, none, none, none] H [.str x.word, .int (x.one : Int)] := by
      have z := es_sl (K := K) (te := tVar 1) (σ := [some (.ref st), some (.ref t), some (.ref tb), some (.ref tc), none, none, none, none]) (H := H) (lo := none) (hi := some ((2 : Nat) : Int)) (ev_var rfl) eo_none (eo_some ev_c) ht
      rw [cut_to _ 2 (by have := x.len; omega)] at z
      have e : x.vs.take 2 = [.str x.word, .int (x.one : Int)] := by cases x <;> rfl
      rw [e] at z
      exact z
    refine sl H (Ex.refl _) _ fun t2 H1 e1 ht2 => ?_
    refine ⟨t2, _, rfl, st_of ht2, rfl, g_two ?_⟩
    dsimp only
    change tSeq _ _ _ [some (.ref st), some (.ref t), some (.ref tb), some (.ref tc), some (.str x.word), some (.int (x.one : Int)), none, none] H1
    have ht1 := e1 _ _ ht
    have eG1 := eG.trans e1
    have gz1 := Gz.ext eG e1
    have hbl := hB.len
    have tw : EvT (tTest (tOp rEq (tVar 4) (tC (.str "write")))) [some (.ref st), some (.ref t), some (.ref tb), some (.ref tc), some (.str x.word), some (.int (x.one : Int)), none, none] H1 (isWri x) := by
      rw [← word_wri]
      exact et_test (ev_op (ev_var rfl) ev_c (rv_eq (y := .str "write") rfl))
    refine q_when tw (fun hb H2 e2 => ?_) (fun hb H2 e2 => ?_)
    · cases x with
      | pas a b => cases hb
      | los a b => cases hb
      | rst r => cases hb
      | wri r c =>
        have hr' : r < n := hx
        have gz2 := gz1.trans (Gz.ext eG1 e2)
        have eG2 := gz2.sub
        have ht2 := e2 _ _ ht1
        obtain ⟨a, hba, hbk⟩ := hB.at_ r hr'
        have vb : ∀ {H' : Hp} {o6 : Option V}, Ex G H' → Ev (tOp (rIxT K) (tVar 2) (tVar 5)) [some (.ref st), some (.ref t), some (.ref tb), some (.ref tc), some (.str "write"), some (.int (r : Int)), o6, none] H' (.ref a) := fun e => ev_op (ev_var rfl) (ev_var (i := 5) (v := .int (r : Int)) rfl) (rv_ixT (st_of (e _ _ g2)) (atI_nat hba))
        have vc : ∀ {H' : Hp} {o6 : Option V}, H' t = some (.tup (Deed.wri r c).vs) → Ev (tOp (rIxT K) (tVar 1) (tC (.int 2))) [some (.ref st), some (.ref t), some (.ref tb), some (.ref tc), some (.str "write"), some (.int (r : Int)), o6, none] H' (.int (c : Int)) := fun e => ev_op (ev_var rfl) ev_c (rv_ixT (st_of e) (atI_nat (j := 2) rfl))
        have vn : Ev (tCall spNum [] E0 (tCons (tDGet1 (tOp (rIxT K) (tVar 2) (tVar 5)) (tVar 5)) tNil)) [some (.ref st), some (.ref t), some (.ref tb), some (.ref tc), some (.str "write"), some (.int (r : Int)), none, none] H2 (.int ((numN (B r r) : Nat) : Int)) := by
          obtain ⟨kvs, ks, h1, h2⟩ := hbk
          refine ev_call (ea_cons (ev_dget1 (kvs := kvs) (vb eG2) (ev_var (i := 5) (v := .int (r : Int)) rfl) (.inl (eG2 _ _ h1)) rfl) ea_nil) (spP_v fun H3 e3 => ⟨_, rfl, ?_⟩)
          rcases h2.at_ r with ⟨a1, a2⟩ | ⟨t, e, a1, a2, a3⟩
          · rw [a1, a2]
            exact .inl ⟨rfl, rfl⟩
          · rw [a1, a2]
            exact .inr ⟨t, e, rfl, e3 _ _ (eG2 _ _ a3), by show V.int ((e.1 + 1 : Nat) : Int) = _; congr 1⟩
        refine (vb eG2) H2 (Ex.refl _) _ fun H3 e3 => ?_
        refine ⟨.int (r : Int), rfl, ?_⟩
        refine (es_tup (xs := entV (numN (B r r), c)) (ea_cons (vn) (ea_cons (vc ht2) ea_nil)) (by show 2 ≤ 100000; decide)) H3 e3 _ fun te H4 e4 hte => ?_
        have gz4 := gz2.trans (Gz.ext eG2 (e3.trans e4))
        refine ⟨G, a, te, n, r, B r, _, rfl, gz4.sub, hbk, hr', hn, hte, fun G5 H5 D gz5 hD => ?_⟩
        refine g_name ?_
        dsimp only
        have gz6 := gz4.trans gz5
        have ht5 := gz5.hx _ _ ((e3.trans e4) _ _ ht2)
        refine ⟨.ref tb, rfl, .int (r : Int), rfl, .ref D, rfl, ?_⟩
        refine ⟨tb, r, .ref D, bs, rfl, gz6.sub _ _ (gz6.ex _ _ g2), by omega, by omega, fun H6 t6 e6 h6 => ?_⟩
        have gz7 := gz6.trans ((Gz.ext gz6.sub e6).trans (Gz.tup (Ex.trans gz6.sub e6) h6))
        refine ⟨.ref tc, rfl, .int (r : Int), rfl, ?_⟩
        refine (vc (o6 := some (.ref D)) (e6 _ _ ht5)) H6 (Ex.refl _) _ fun H7 e7 => ?_
        have gz8 := gz7.trans (Gz.ext gz7.sub e7)
        refine ⟨tc, r, .int (c : Int), cV n cs, rfl, gz8.sub _ _ (gz8.ex _ _ g3), by rw [cV_len]; exact hr', by rw [cV_len]; omega, fun H9 t9 e9 h9 => ?_⟩
        rw [cV_set] at h9
        have gz10 := gz8.trans ((Gz.ext gz8.sub e9).trans (Gz.tup (Ex.trans gz8.sub e9) h9))
        refine ⟨by show 2 ≤ sizeLine; decide, fun st' hst => ?_⟩
        have gz11 := Gz.new (o := .tup [.ref t6, .ref t9]) gz10.sub hst
        refine k _ _ st' (gz10.trans gz11) ⟨t6, t9, bs.set r (.ref D), upd_same, ?_, ?_, ?_⟩
        · refine gz11.ex _ _ ?_
          exact ((Gz.ext gz8.sub e9).trans (Gz.tup (Ex.trans gz8.sub e9) h9)).ex _ _ ((Gz.ext gz7.sub e7).ex _ _ upd_same)
        · exact gz11.ex _ _ upd_same
        · refine BsAt.mono (G := G5) ?_ ((hB.mono gz6.ex).set hD)
          exact (((Gz.ext gz6.sub e6).trans (Gz.tup (Ex.trans gz6.sub e6) h6)).ex.trans (Gz.ext gz7.sub e7).ex).trans (((Gz.ext gz8.sub e9).trans (Gz.tup (Ex.trans gz8.sub e9) h9)).ex.trans gz11.ex)
    have ht2 := e2 _ _ ht1
    have gz2 := gz1.trans (Gz.ext eG1 e2)
    have eG2 := gz2.sub
    have tp : EvT (tTest (tOp rEq (tVar 4) (tC (.str "pass")))) [some (.ref st), some (.ref t), some (.ref tb), some (.ref tc), some (.str x.word), some (.int (x.one : Int)), none, none] H2 (isPas x) := by
      rw [← word_pas]
      exact et_test (ev_op (ev_var rfl) ev_c (rv_eq (y := .str "pass") rfl))
    refine q_when tp (fun hb2 H3 e3 => ?_) (fun hb2 H3 e3 => ?_)
    · cases x with
      | los a b => cases hb2
      | rst r => cases hb2
      | wri r c => cases hb2
      | pas a b =>
        obtain ⟨ha, hb', hnw⟩ := hx
        have ht3 := e3 _ _ ht2
        have gz3 := gz2.trans (Gz.ext eG2 e3)
        have eG3 := gz3.sub
        obtain ⟨a1, hba, hbka⟩ := hB.at_ a ha
        obtain ⟨a2, hbb, hbkb⟩ := hB.at_ b hb'
        refine ⟨.ref t, rfl, t, _, 2, .int (b : Int), rfl, rfl, st_of ht3, atI_nat (j := 2) rfl, ?_⟩
        refine g_name ?_
        dsimp only
        change tRet _ _ [some (.ref st), some (.ref t), some (.ref tb), some (.ref tc), some (.str "pass"), some (.int (a : Int)), none, some (.int (b : Int))] H3
        have sB : SqT K H3 tb bs := st_of (eG3 _ _ g2)
        refine ⟨.ref tb, rfl, .int (b : Int), rfl, .ref tb, rfl, .int (b : Int), rfl, tb, bs, (b : Int), .ref a2, rfl, rfl, sB, atI_nat hbb, .ref tb, rfl, .int (a : Int), rfl, tb, bs, (a : Int), .ref a1, rfl, rfl, sB, atI_nat hba, .int (b : Int), rfl, .ref tc, rfl, .int (b : Int), rfl, tc, cV n cs, (b : Int), oV (cs b), rfl, rfl, st_of (eG3 _ _ g3), atI_nat (cV_at hb'), ?_⟩
        refine ⟨G, a2, a1, n, b, B b, B a, cs b, rfl, eG3, hbkb, hbka, hn, hb', hnw, fun G5 H5 D gz5 hD => ?_⟩
        have gz6 := gz3.trans gz5
        refine ⟨tb, b, .ref D, bs, rfl, gz6.sub _ _ (gz5.ex _ _ g2), by omega, by omega, fun H6 t6 e6 h6 => ?_⟩
        have gza := (Gz.ext gz6.sub e6).trans (Gz.tup (Ex.trans gz6.sub e6) h6)
        have gz7 := gz6.trans gza
        refine ⟨.ref tc, rfl, by show 2 ≤ sizeLine; decide, fun st' hst => ?_⟩
        have gz11 := Gz.new (o := .tup [.ref t6, .ref tc]) gz7.sub hst
        exact k _ _ st' (gz7.trans gz11) ⟨t6, tc, bs.set b (.ref D), upd_same, gz11.ex _ _ upd_same, gz11.ex _ _ (gz7.ex _ _ g3), BsAt.mono (gza.ex.trans gz11.ex) ((hB.mono gz5.ex).set hD)⟩
    have tr : EvT (tTest (tOp rEq (tVar 4) (tC (.str "restart")))) [some (.ref st), some (.ref t), some (.ref tb), some (.ref tc), some (.str x.word), some (.int (x.one : Int)), none, none] H3 (isRst x) := by
      rw [← word_rst]
      exact et_test (ev_op (ev_var rfl) ev_c (rv_eq (y := .str "restart") rfl))
    refine q_when tr (fun hb3 H4 e4 => ?_) (fun hb3 H4 e4 => ?_)
    · cases x with
      | pas a b => cases hb3
      | los a b => cases hb3
      | wri r c => cases hb3
      | rst r =>
        have hr' : r < n := hx
        have gz4 := gz2.trans (Gz.ext eG2 (e3.trans e4))
        have eG4 := gz4.sub
        have sB : SqT K H4 tb bs := st_of (eG4 _ _ g2)
        refine ⟨.ref tb, rfl, .int (r : Int), rfl, .int (r : Int), rfl, .ref tc, rfl, .int (r : Int), rfl, tc, cV n cs, (r : Int), oV (cs r), rfl, rfl, st_of (eG4 _ _ g3), atI_nat (cV_at hr'), ?_⟩
        refine ⟨G, n, r, cs r, rfl, eG4, hr', fun G5 H5 D gz5 hD => ?_⟩
        have gz6 := gz4.trans gz5
        refine ⟨tb, r, .ref D, bs, rfl, gz6.sub _ _ (gz5.ex _ _ g2), by omega, by omega, fun H6 t6 e6 h6 => ?_⟩
        have gza := (Gz.ext gz6.sub e6).trans (Gz.tup (Ex.trans gz6.sub e6) h6)
        have gz7 := gz6.trans gza
        refine ⟨.ref tc, rfl, by show 2 ≤ sizeLine; decide, fun st' hst => ?_⟩
        have gz11 := Gz.new (o := .tup [.ref t6, .ref tc]) gz7.sub hst
        exact k _ _ st' (gz7.trans gz11) ⟨t6, tc, bs.set r (.ref D), upd_same, gz11.ex _ _ upd_same, gz11.ex _ _ (gz7.ex _ _ g3), BsAt.mono (gza.ex.trans gz11.ex) ((hB.mono gz5.ex).set hD)⟩
    · cases x with
      | pas a b => cases hb2
      | wri r c => cases hb
      | rst r => cases hb3
      | los a b =>
        exact ⟨.ref st, rfl, k G H4 st (gz2.trans (Gz.ext eG2 (e3.trans e4))) ⟨tb, tc, bs, g1, g2, g3, hB⟩⟩
end
end Wk

set_option Elab.async false
set_option linter.all false
set_option maxRecDepth 100000
set_option maxHeartbeats 4000000
namespace L2
open PySem PySem.Spec PyProof.Rows
def rRepU (K : PySem.W.Frag) : R2 := fun x y H Q => ∃ l k xs, x = .ref l ∧ y = .int k ∧ SqT K H l xs ∧ xs ≠ [] ∧ 1 ≤ k ∧ k ≤ 1000 ∧ xs.length ≤ 1000 ∧ (k = 1 → Q (.ref l) H) ∧ (2 ≤ k → ∀ p, H p = none → Q (.ref p) (upd H p (.tup (List.replicate k.toNat xs).flatten)))
theorem op_repU {X : Cx} {K : PySem.W.Frag} (hK : X.K = K) : OpR X (binaryOp .Mult) (rRepU K) := by
  subst hK
  intro pins s σ H x y v u Q I rx ry h
  obtain ⟨l, k, xs, rfl, rfl, hT, hne, h1, h2, hz, q1, q⟩ := h
  by_cases hk : 2 ≤ k
  · exact op_repT pins s σ H (.ref l) (.int k) v u Q I rx ry ⟨l, k, xs, rfl, rfl, hT, hne, hk, h2, hz, q hk⟩
  · have e : k = 1 := by omega
    subst e
    cases rx
    obtain ⟨t, rfl⟩ := ry
    obtain ⟨its, r, ⟨⟨cls, dd, data, sl⟩, ho, hc, n, hd⟩, hs⟩ := I.tuple hT
    simp only at hc hd
    subst hc hd
    exact wpAny_binaryOp_repeat_ref (T := "tuple") (U := "int") (by decide) ⟨_, ho, rfl⟩ (fun s' => typeIs_int s' 1 t) noFill_tuple_mul F.fills_int_mul F.slot_int_rmul repeat_tuple F.slot_int_index.lookup
      (call_meets F.slot_int_rmul (typeIs_int s 1 t) F.entry_int_rmul (F.args_int_rmul_2 _ _) (int_rmul_tuple 1 t l its.toArray n dd sl)
        ⟨ho, rfl, ⟨_, ho, rfl⟩, call_meets F.slot_tuple_mul ⟨_, ho, rfl⟩ F.entry_tuple_mul (F.args_tuple_mul_2 _ _) (Wk.tuple_mul1 l its.toArray n dd sl t) ⟨ho, ⟨.ref l, H, I, rfl, q1 rfl⟩⟩⟩)
end L2
namespace Wk
open PySem PySem.Spec PyProof.Rows L2 Evl
/-! two states compared -/
theorem nk_val : ∀ {kvs : List (L2.Key × V)}, (kvs.map (·.1)).Nodup → ∀ {k : L2.Key} {v : V}, (k, v) ∈ kvs → valV kvs k = some v
  | [], _, k, v, h => by cases h
  | p :: r, nd, k, v, h => by
    rw [List.map_cons, List.nodup_cons] at nd
    rcases List.mem_cons.mp h with e | e
    · rw [← e]
      exact valV_pos rfl
    · rw [valV_neg (fun z => nd.1 (by rw [z]; exact List.mem_map.mpr ⟨_, e, rfl⟩))]
      exact nk_val nd.2 e
theorem NK.nd {kvs : List (L2.Key × V)} {ks : List Int} (h : NK kvs ks) : (kvs.map (·.1)).Nodup := by
  rw [h.1]
  exact List.Pairwise.map _ (fun a b hab e => hab (by injection e)) h.2
theorem eqv_ent {H : Hp} {a b : Addr} {x y : Ent} (ha : H a = some (.tup (entV x))) (hb : H b = some (.tup (entV y))) : EqV H 1 (.ref a) (.ref b) (PyData.eqv (wd [(x.1 : Int), (x.2 : Int)]) (wd [(y.1 : Int), (y.2 : Int)])) := by
  refine .data (wd_of ha) (wd_of hb) ?_ ?_ ?_
  · simp [wd, PyData.canLay0, PyData.canLayAll0]
  · simp [wd, PyData.canLay0, PyData.canLayAll0]
  · simp [wd, PyData.depth, PyData.depthAll]
theorem BkAt.uniq {H : Hp} {a : Addr} {n : Nat} {x y : Bk} (h : BkAt H a n x) (g : BkAt H a n y) : x = y := by
  obtain ⟨kvs, ks, h1, h2⟩ := h
  obtain ⟨lvs, ls, h3, h4⟩ := g
  rw [h1] at h3
  cases h3
  funext k
  rcases h2.at_ k with ⟨a1, a2⟩ | ⟨t, e, a1, a2, a3⟩
  · rcases h4.at_ k with ⟨_, b2⟩ | ⟨t', e', b1, _, _⟩
    · rw [a2, b2]
    · rw [a1] at b1; cases b1
  · rcases h4.at_ k with ⟨b1, _⟩ | ⟨t', e', b1, b2, b3⟩
    · rw [a1] at b1; cases b1
    · rw [a1] at b1
      cases b1
      rw [a3] at b3
      have z : entV e = entV e' := by injection b3 with b3; injection b3
      unfold entV at z
      injection z with z1 z2
      injection z2 with z2 _
      injection z1 with z1
      injection z2 with z2
      rw [a2, b2]
      congr 1
      exact Prod.ext (by omega) (by omega)
theorem nd_back {l D : List Int} (hl : l.Nodup) (hD : D.Nodup) (h : ∀ x ∈ l, x ∈ D) (hn : l.length = D.length) : ∀ x ∈ D, x ∈ l := fun x hx => by
  apply Classical.byContradiction
  intro hc
  have z := nd_le (x :: l) D (List.nodup_cons.mpr ⟨hc, hl⟩) fun y hy => by
    rcases List.mem_cons.mp hy with e | e
    · rw [e]; exact hx
    · exact h y e
  rw [List.length_cons] at z
  omega
open Classical in
theorem eqv_book {H : Hp} {n : Nat} {a b : Addr} {x y : Bk} (ha : BkAt H a n x) (hb : BkAt H b n y) : EqV H 2 (.ref a) (.ref b) (decide (x = y)) := by
  by_cases e : a = b
  · subst e
    rw [decide_eq_true (ha.uniq hb)]
    exact .same
  obtain ⟨kvs, ks, h1, h2⟩ := ha
  obtain ⟨lvs, ls, h3, h4⟩ := hb
  have hkl : kvs.length = ks.length := by
    have := congrArg List.length h2.nk.1
    simpa using this
  have hll : lvs.length = ls.length := by
    have := congrArg List.length h4.nk.1
    simpa using this
  have key : ∀ {k : L2.Key} {v : V}, (k, v) ∈ kvs → ∃ m : Nat, k = .inl (m : Int) ∧ (m : Int) ∈ ks := fun {k v} hm => by
    have hk : k ∈ kvs.map (·.1) := List.mem_map.mpr ⟨_, hm, rfl⟩
    rw [h2.nk.1] at hk
    obtain ⟨z, hz, rfl⟩ := List.mem_map.mp hk
    exact ⟨z.toNat, by rw [Int.toNat_of_nonneg (h2.rg z hz).1], by rw [Int.toNat_of_nonneg (h2.rg z hz).1]; exact hz⟩
  have main := EqV.dic (H := H) (n := 1) (a := a) (b := b) (ks := kvs) (ls := lvs) (fun k => match k with | .inl z => decide (x z.toNat = y z.toNat) | .inr _ => true) e h1 h3 fun k v y' hm hv => by
    obtain ⟨m, rfl, hmk⟩ := key hm
    have hv1 := nk_val h2.nk.nd hm
    rcases h2.at_ m with ⟨a1, _⟩ | ⟨t, e1, a1, a2, a3⟩
    · rw [hv1] at a1; cases a1
    rcases h4.at_ m with ⟨b1, _⟩ | ⟨t', e2, b1, b2, b3⟩
    · rw [hv] at b1; cases b1
    rw [hv1] at a1
    rw [hv] at b1
    cases a1
    cases b1
    have z := eqv_ent a3 b3
    rw [eqv_wd] at z
    show EqV H 1 (.ref t) (.ref t') (decide (x ((m : Int)).toNat = y ((m : Int)).toNat))
    rw [Int.toNat_natCast, a2, b2]
    have e : decide ([(e1.1 : Int), (e1.2 : Int)] = [(e2.1 : Int), (e2.2 : Int)]) = decide (some e1 = some e2) := by
      rw [decide_eq_decide]
      constructor
      · intro h
        injection h with h1 h2
        injection h2 with h2 _
        congr 1
        exact Prod.ext (by omega) (by omega)
      · intro h
        injection h with h
        rw [h]
    rw [← e]
    exact z
  have val : (kvs.length == lvs.length && kvs.all fun p => (valV lvs p.1).isSome && (match p.1 with | .inl z => decide (x z.toNat = y z.toNat) | .inr _ => true)) = decide (x = y) := by
    by_cases hxy : x = y
    · rw [decide_eq_true hxy]
      subst hxy
      have m1 : ∀ z ∈ ks, z ∈ ls := fun z hz => by
        obtain ⟨m, rfl⟩ : ∃ m : Nat, z = (m : Int) := ⟨z.toNat, by have := h2.rg z hz; omega⟩
        exact (h4.mem m).mpr ((h2.mem m).mp hz)
      have m2 : ∀ z ∈ ls, z ∈ ks := fun z hz => by
        obtain ⟨m, rfl⟩ : ∃ m : Nat, z = (m : Int) := ⟨z.toNat, by have := h4.rg z hz; omega⟩
        exact (h2.mem m).mpr ((h4.mem m).mp hz)
      have l1 := nd_le ks ls h2.nk.2 m1
      have l2 := nd_le ls ks h4.nk.2 m2
      rw [Bool.and_eq_true]
      refine ⟨by rw [beq_iff_eq]; omega, List.all_eq_true.mpr fun p hp => ?_⟩
      obtain ⟨m, hpk, hmk⟩ := key (k := p.1) (v := p.2) hp
      rw [hpk]
      obtain ⟨v, hv⟩ := (h4.nk.mem (m : Int)).mp (m1 _ hmk)
      rw [hv]
      simp
    · rw [decide_eq_false hxy]
      cases hr : (kvs.length == lvs.length && kvs.all fun p => (valV lvs p.1).isSome && (match p.1 with | .inl z => decide (x z.toNat = y z.toNat) | .inr _ => true)) with
      | false => rfl
      | true =>
        exfalso
        apply hxy
        obtain ⟨r1, r2⟩ := Bool.and_eq_true_iff.mp hr
        have r1 : kvs.length = lvs.length := beq_iff_eq.mp r1
        have r2 := List.all_eq_true.mp r2
        have at1 : ∀ m : Nat, (m : Int) ∈ ks → (m : Int) ∈ ls ∧ x m = y m := fun m hm => by
          obtain ⟨v, hv⟩ := (h2.nk.mem (m : Int)).mp hm
          have hmem : ∃ p ∈ kvs, p.1 = .inl (m : Int) := by
            have := valV_in hv
            obtain ⟨p, hp, e⟩ := List.mem_map.mp this
            exact ⟨p, hp, e⟩
          obtain ⟨p, hp, hpe⟩ := hmem
          have z := r2 p hp
          rw [hpe] at z
          obtain ⟨z1, z2⟩ := Bool.and_eq_true_iff.mp z
          obtain ⟨v', hv'⟩ := Option.isSome_iff_exists.mp z1
          have z2 := of_decide_eq_true z2
          rw [Int.toNat_natCast] at z2
          exact ⟨(h4.nk.mem _).mpr ⟨v', hv'⟩, z2⟩
        have sub : ∀ z ∈ ks, z ∈ ls := fun z hz => by
          obtain ⟨m, rfl⟩ : ∃ m : Nat, z = (m : Int) := ⟨z.toNat, by have := h2.rg z hz; omega⟩
          exact (at1 m hz).1
        have back := nd_back h2.nk.2 h4.nk.2 sub (by omega)
        funext k
        cases hx : x k with
        | some e1 =>
          rw [← hx]
          exact (at1 k ((h2.mem k).mpr ⟨e1, hx⟩)).2
        | none =>
          cases hy : y k with
          | none => rfl
          | some e2 =>
            obtain ⟨e1, h⟩ := (h2.mem k).mp (back _ ((h4.mem k).mpr ⟨e2, hy⟩))
            rw [hx] at h
            cases h
  rw [val] at main
  exact main
def oD : Option Nat → PyData
  | none => .none
  | some c => .int (c : Int)
theorem dq_oV (H : Hp) : ∀ o : Option Nat, Dq H (oV o) (oD o)
  | none => .non
  | some c => .int _
theorem dqa_cV (H : Hp) (cs : Nat → Option Nat) : ∀ l : List Nat, DqA H (l.map fun r => oV (cs r)) (l.map fun r => oD (cs r))
  | [] => .nil
  | r :: l => .cons (dq_oV H _) (dqa_cV H cs l)
theorem lay_oD (cs : Nat → Option Nat) (l : List Nat) : PyData.canLayAll0 (l.map fun r => oD (cs r)) = true := layAll.mpr fun d hd => by
  obtain ⟨r, _, rfl⟩ := List.mem_map.mp hd
  cases cs r <;> simp [oD, PyData.canLay0]
theorem dep_oD (cs : Nat → Option Nat) (l : List Nat) : PyData.depthAll (l.map fun r => oD (cs r)) ≤ 0 := depAll.mpr fun d hd => by
  obtain ⟨r, _, rfl⟩ := List.mem_map.mp hd
  cases cs r <;> simp [oD, PyData.depth]
theorem eqv_oD (x y : Option Nat) : PyData.eqv (oD x) (oD y) = decide (x = y) := by
  cases x with
  | none => cases y <;> simp [oD, PyData.eqv]
  | some c =>
    cases y with
    | none => simp [oD, PyData.eqv]
    | some d =>
      show ((c : Int) == (d : Int)) = _
      by_cases h : c = d
      · subst h; simp
      · rw [decide_eq_false (fun z => h (by injection z))]
        exact beq_eq_false_iff_ne.mpr (by omega)
open Classical in
theorem eqv_cs (cs ds : Nat → Option Nat) : ∀ l : List Nat, PyData.eqvAll (l.map fun r => oD (cs r)) (l.map fun r => oD (ds r)) = decide (∀ r ∈ l, cs r = ds r)
  | [] => by simp [PyData.eqvAll]
  | r :: l => by
    have ih := eqv_cs cs ds l
    show (PyData.eqv (oD (cs r)) (oD (ds r)) && PyData.eqvAll (l.map fun r => oD (cs r)) (l.map fun r => oD (ds r))) = _
    rw [eqv_oD, ih]
    by_cases h : cs r = ds r
    · by_cases g : ∀ r ∈ l, cs r = ds r
      · rw [decide_eq_true h, decide_eq_true g, decide_eq_true]
        · rfl
        · intro z hz
          rcases List.mem_cons.mp hz with e | e
          · rw [e]; exact h
          · exact g z e
      · rw [decide_eq_true h, decide_eq_false g, decide_eq_false (fun z => g fun r' hr => z r' (List.mem_cons_of_mem _ hr))]
        rfl
    · rw [decide_eq_false h, Bool.false_and]
      exact (decide_eq_false (fun z => h (z r List.mem_cons_self))).symm
open Classical in
theorem eqv_conts {H : Hp} {n : Nat} {a b : Addr} {cs ds : Nat → Option Nat} (ha : H a = some (.tup (cV n cs))) (hb : H b = some (.tup (cV n ds))) : EqV H 3 (.ref a) (.ref b) (decide (∀ r, r < n → cs r = ds r)) := by
  have z := EqV.data (H := H) (n := 3) (d := .tuple ((List.range n).map fun r => oD (cs r))) (e := .tuple ((List.range n).map fun r => oD (ds r))) (.tup ha (dqa_cV H cs _)) (.tup hb (dqa_cV H ds _)) (by simp [PyData.canLay0, lay_oD]) (by simp [PyData.canLay0, lay_oD]) (by
    have := dep_oD cs (List.range n)
    simp only [PyData.depth]
    omega)
  have e : PyData.eqv (.tuple ((List.range n).map fun r => oD (cs r))) (.tuple ((List.range n).map fun r => oD (ds r))) = decide (∀ r, r < n → cs r = ds r) := by
    show PyData.eqvAll _ _ = _
    rw [eqv_cs, decide_eq_decide]
    constructor
    · exact fun h r hr => h r (List.mem_range.mpr hr)
    · exact fun h r hr => h r (List.mem_range.mp hr)
  rw [e] at z
  exact z
open Classical in
theorem eqv_books {H : Hp} {n : Nat} {a b : Addr} {bs bs' : List V} {B B' : Nat → Bk} (ha : H a = some (.tup bs)) (hb : H b = some (.tup bs')) (h1 : BsAt H bs n B) (h2 : BsAt H bs' n B') : EqV H 3 (.ref a) (.ref b) (decide (∀ r, r < n → B r = B' r)) := by
  by_cases e : a = b
  · subst e
    rw [ha] at hb
    cases hb
    rw [decide_eq_true]
    · exact .same
    · intro r hr
      obtain ⟨x, x1, x2⟩ := h1.at_ r hr
      obtain ⟨y, y1, y2⟩ := h2.at_ r hr
      rw [x1] at y1
      cases y1
      exact x2.uniq y2
  have z := EqV.tup (H := H) (n := 2) (a := a) (b := b) (xs := bs) (ys := bs') (fun j => decide (B j = B' j)) e ha hb fun j x' y' hx hy => by
    have hj : j < n := by
      have := (List.getElem?_eq_some_iff.mp hx).1
      have := h1.len
      omega
    obtain ⟨x, x1, x2⟩ := h1.at_ j hj
    obtain ⟨y, y1, y2⟩ := h2.at_ j hj
    rw [x1] at hx
    rw [y1] at hy
    cases hx
    cases hy
    exact eqv_book x2 y2
  have e : ((List.range (min bs.length bs'.length)).all (fun j => decide (B j = B' j)) && bs.length == bs'.length) = decide (∀ r, r < n → B r = B' r) := by
    rw [h1.len, h2.len, Nat.min_self, show (n == n) = true from beq_iff_eq.mpr rfl, Bool.and_true]
    by_cases h : ∀ r, r < n → B r = B' r
    · rw [decide_eq_true h]
      exact List.all_eq_true.mpr fun r hr => decide_eq_true (h r (List.mem_range.mp hr))
    · rw [decide_eq_false h]
      cases hc : (List.range n).all (fun j => decide (B j = B' j)) with
      | false => rfl
      | true => exact absurd (fun r hr => of_decide_eq_true (List.all_eq_true.mp hc r (List.mem_range.mpr hr))) h
  rw [e] at z
  exact z
def eqS (n : Nat) (B : Nat → Bk) (cs : Nat → Option Nat) (B' : Nat → Bk) (cs' : Nat → Option Nat) : Prop := (∀ r, r < n → B r = B' r) ∧ ∀ r, r < n → cs r = cs' r
open Classical in
noncomputable def eqSb (n : Nat) (B : Nat → Bk) (cs : Nat → Option Nat) (B' : Nat → Bk) (cs' : Nat → Option Nat) : Bool := decide (eqS n B cs B' cs')
theorem eqSb_yes {n : Nat} {B B' : Nat → Bk} {cs cs' : Nat → Option Nat} (h : eqS n B cs B' cs') : eqSb n B cs B' cs' = true := by simp [eqSb, h]
theorem eqSb_no {n : Nat} {B B' : Nat → Bk} {cs cs' : Nat → Option Nat} (h : ¬ eqS n B cs B' cs') : eqSb n B cs B' cs' = false := by simp [eqSb, h]
open Classical in
theorem states_parts {H : Hp} {G G' : Hp} {a b : Addr} {n : Nat} {B B' : Nat → Bk} {cs cs' : Nat → Option Nat} (e1 : Ex G H) (e2 : Ex G' H) (ha : StAt G a n B cs) (hb : StAt G' b n B' cs') :
    ∃ xs ys : List V, H a = some (.tup xs) ∧ H b = some (.tup ys) ∧ ∃ e : Nat → Bool, (∀ j x y, xs[j]? = some x → ys[j]? = some y → EqV H 3 x y (e j)) ∧ ((List.range (min xs.length ys.length)).all e && xs.length == ys.length) = eqSb n B cs B' cs' := by
  obtain ⟨tb, tc, bs, h1, h2, h3, h4⟩ := ha.mono e1
  obtain ⟨tb', tc', bs', g1, g2, g3, g4⟩ := hb.mono e2
  refine ⟨_, _, h1, g1, fun j => if j = 0 then decide (∀ r, r < n → B r = B' r) else decide (∀ r, r < n → cs r = cs' r), fun j x y hx hy => ?_, ?_⟩
  · match j, hx, hy with
    | 0, hx, hy =>
      cases hx
      cases hy
      exact eqv_books h2 g2 h4 g4
    | 1, hx, hy =>
      cases hx
      cases hy
      exact eqv_conts h3 g3
  · show (decide (∀ r, r < n → B r = B' r) && (decide (∀ r, r < n → cs r = cs' r) && true) && true) = _
    rw [Bool.and_true, Bool.and_true]
    by_cases p : ∀ r, r < n → B r = B' r
    · by_cases q : ∀ r, r < n → cs r = cs' r
      · rw [decide_eq_true p, decide_eq_true q, eqSb_yes ⟨p, q⟩]; rfl
      · rw [decide_eq_true p, decide_eq_false q, eqSb_no (fun z => q z.2)]; rfl
    · rw [decide_eq_false p, eqSb_no (fun z => p z.1)]; rfl
theorem ne_states {H : Hp} {G G' : Hp} {a b : Addr} {n : Nat} {B B' : Nat → Bk} {cs cs' : Nat → Option Nat} {Q : VK} (e1 : Ex G H) (e2 : Ex G' H) (ha : StAt G a n B cs) (hb : StAt G' b n B' cs') (k : Q (.bl (!eqSb n B cs B' cs')) H) : rNeX (.ref a) (.ref b) H Q := by
  obtain ⟨xs, ys, h1, h2, e, h3, h4⟩ := states_parts e1 e2 ha hb
  exact ⟨a, b, xs, ys, e, 3, rfl, rfl, h1, h2, by decide, h3, by rw [h4]; exact k⟩
theorem eq_states {H : Hp} {G G' : Hp} {a b : Addr} {n : Nat} {B B' : Nat → Bk} {cs cs' : Nat → Option Nat} {Q : VK} (e1 : Ex G H) (e2 : Ex G' H) (ha : StAt G a n B cs) (hb : StAt G' b n B' cs') (k : Q (.bl (eqSb n B cs B' cs')) H) : rEqX (.ref a) (.ref b) H Q := by
  obtain ⟨xs, ys, h1, h2, e, h3, h4⟩ := states_parts e1 e2 ha hb
  exact ⟨a, b, xs, ys, e, 3, rfl, rfl, h1, h2, by decide, h3, by rw [h4]; exact k⟩
/-! floods -/
abbrev FnM (K : PySem.W.Frag) (x q : Str) (st : Stmt) (f : Addr) (fd : FuncData) : Prop := FunD K x q (defArgs st) (defBody st) (defScope st) [] [] f fd
structure FX (K : PySem.W.Frag) (CF : Addr) : Prop where
  cl : Cls K CF
  nZ : NoAttr K CF "_size"
  nA : NoAttr K CF "_arrows"
  nS : NoAttr K CF "_state"
  nM : NoAttr K CF "many"
  nP : NoAttr K CF "_past"
theorem lk_putF {f g : Str} {v : V} {fs : List (Str × V)} (h : ¬ g = f) : (putF f v fs).lookup g = fs.lookup g := by rw [lookup_putF, if_neg h]
theorem lk_putS {f : Str} {v : V} {fs : List (Str × V)} : (putF f v fs).lookup f = some v := by rw [lookup_putF, if_pos rfl]
/-- the fields of a flood -/
structure Ff (fs : List (Str × V)) (la st pa : Addr) (n m : Nat) : Prop where
  sz : fs.lookup ("_size" : Str) = some (.int (n : Int))
  ar : fs.lookup ("_arrows" : Str) = some (.ref la)
  st : fs.lookup ("_state" : Str) = some (.ref st)
  mn : fs.lookup ("many" : Str) = some (.int (m : Int))
  ps : fs.lookup ("_past" : Str) = some (.ref pa)
  n1 : fs.lookup ("do" : Str) = none
  n2 : fs.lookup ("_go" : Str) = none
  n3 : fs.lookup ("book" : Str) = none
  n4 : fs.lookup ("content" : Str) = none
  n5 : fs.lookup ("is_calm" : Str) = none
  n6 : fs.lookup ("rounds" : Str) = none
  few : fs.length ≤ 50
theorem len_putF (f : Str) (v : V) : ∀ fs : List (Str × V), (putF f v fs).length ≤ fs.length + 1
  | [] => Nat.le_refl _
  | (g, x) :: r => by
    have ih := len_putF f v r
    unfold putF
    split
    · simp
    · simp only [List.length_cons]; omega
theorem len_putO (f : Str) (v y : V) : ∀ fs : List (Str × V), fs.lookup f = some y → (putF f v fs).length = fs.length
  | [], h => by cases h
  | (g, x) :: r, h => by
    unfold putF
    split
    · rfl
    · rename_i hne
      rw [List.length_cons, List.length_cons, len_putO f v y r]
      rw [List.lookup_cons] at h
      have : (f == g) = false := beq_eq_false_iff_ne.mpr fun z => hne z.symm
      rw [this] at h
      exact h
theorem Ff.many {fs : List (Str × V)} {la st pa : Addr} {n m m' : Nat} (h : Ff fs la st pa n m) : Ff (putF "many" (.int (m' : Int)) fs) la st pa n m' := by
  refine ⟨?_, ?_, ?_, lk_putS, ?_, ?_, ?_, ?_, ?_, ?_, ?_, ?_⟩
  · rw [lk_putF (by decide +kernel)]; exact h.sz
  · rw [lk_putF (by decide +kernel)]; exact h.ar
  · rw [lk_putF (by decide +kernel)]; exact h.st
  · rw [lk_putF (by decide +kernel)]; exact h.ps
  · rw [lk_putF (by decide +kernel)]; exact h.n1
  · rw [lk_putF (by decide +kernel)]; exact h.n2
  · rw [lk_putF (by decide +kernel)]; exact h.n3
  · rw [lk_putF (by decide +kernel)]; exact h.n4
  · rw [lk_putF (by decide +kernel)]; exact h.n5
  · rw [lk_putF (by decide +kernel)]; exact h.n6
  · rw [len_putO _ _ _ _ h.mn]; exact h.few
theorem Ff.state {fs : List (Str × V)} {la st st' pa : Addr} {n m : Nat} (h : Ff fs la st pa n m) : Ff (putF "_state" (.ref st') fs) la st' pa n m := by
  refine ⟨?_, ?_, lk_putS, ?_, ?_, ?_, ?_, ?_, ?_, ?_, ?_, ?_⟩
  · rw [lk_putF (by decide +kernel)]; exact h.sz
  · rw [lk_putF (by decide +kernel)]; exact h.ar
  · rw [lk_putF (by decide +kernel)]; exact h.mn
  · rw [lk_putF (by decide +kernel)]; exact h.ps
  · rw [lk_putF (by decide +kernel)]; exact h.n1
  · rw [lk_putF (by decide +kernel)]; exact h.n2
  · rw [lk_putF (by decide +kernel)]; exact h.n3
  · rw [lk_putF (by decide +kernel)]; exact h.n4
  · rw [lk_putF (by decide +kernel)]; exact h.n5
  · rw [lk_putF (by decide +kernel)]; exact h.n6
  · rw [len_putO _ _ _ _ h.st]; exact h.few
end Wk

set_option Elab.async false
set_option linter.all false
set_option maxRecDepth 100000
set_option maxHeartbeats 4000000
namespace Wk
open PySem PySem.Spec PyProof.Rows L2 Evl
structure FdA (CF : Addr) (G H : Hp) (x pa la : Addr) (n m : Nat) (B : Nat → Bk) (cs : Nat → Option Nat) : Prop where
  ob : ∃ dx fs st, H x = some (.ins CF dx fs) ∧ Ff fs la st pa n m ∧ StAt G st n B cs
  ps : ∃ us, H pa = some (.lst us) ∧ us.length ≤ m
  gx : G x = none
  gp : G pa = none
  ne : x ≠ pa
theorem FdA.ext {CF : Addr} {G H H' : Hp} {x pa la : Addr} {n m : Nat} {B : Nat → Bk} {cs : Nat → Option Nat} (h : FdA CF G H x pa la n m B cs) (e : Ex H H') : FdA CF G H' x pa la n m B cs := by
  obtain ⟨dx, fs, st, h1, h2⟩ := h.ob
  obtain ⟨us, h3, h4⟩ := h.ps
  exact ⟨⟨dx, fs, st, e _ _ h1, h2⟩, ⟨us, e _ _ h3, h4⟩, h.gx, h.gp, h.ne⟩
/-- what a deed leaves -/
structure Gm (x pa : Addr) (G H G' H' : Hp) : Prop where
  ex : Ex G G'
  off : ∀ b u, b ≠ x → b ≠ pa → H b = some u → H' b = some u
  sub : Ex G' H'
  nw : ∀ b u, G b = none → H b = some u → (∀ xs, u ≠ .tup xs) → G' b = none
theorem book_of {G : Hp} {kvs : List (L2.Key × V)} {ks ys : List Int} {n : Nat} {bk : Bk} (h : BkD G kvs ks n bk) (p : ys.Perm ks) : BkD G (pf (fun k => (valV kvs (.inl k)).getD .non) ys) ys n bk := by
  have nd : ys.Nodup := p.nodup_iff.mpr h.nk.2
  have hm : ∀ k, k ∈ ys ↔ k ∈ ks := fun k => p.mem_iff
  refine ⟨⟨?_, nd⟩, fun k hk => h.rg k ((hm k).mp hk), fun k => ?_⟩
  · rw [pf_nodup _ _ ys rfl nd, List.map_map]
    rfl
  · rw [valV_pf _ _ _ ys rfl]
    by_cases c : (k : Int) ∈ ys
    · rw [if_pos c]
      obtain ⟨e, he⟩ := (h.mem k).mp ((hm _).mp c)
      obtain ⟨t, h3, h4⟩ := h.get he
      rw [h3]
      exact .inr ⟨t, e, rfl, he, h4⟩
    · rw [if_neg c]
      refine .inl ⟨rfl, ?_⟩
      cases hb : bk k with
      | none => rfl
      | some e => exact absurd ((hm _).mpr ((h.mem k).mpr ⟨e, hb⟩)) c
theorem es_rep {K : PySem.W.Frag} {σ : L2.St} {H : Hp} {ta tb : TE} {v : V} {n : Nat} (h : EvS ta σ H [v]) (hb : Ev tb σ H (.int (n : Int))) (h1 : 1 ≤ n) (h2 : n ≤ 1000) : EvS (tOp (rRepU K) ta tb) σ H (List.replicate n v) := fun H1 e Q q =>
  h H1 e _ fun p H2 e2 hp => hb H2 (e.trans e2) _ fun H3 e3 => by
    have hp3 := e3 _ _ hp
    refine ⟨p, (n : Int), [v], rfl, rfl, st_of hp3, by simp, by omega, by omega, by simp, fun z => ?_, fun z l hl => ?_⟩
    · have : n = 1 := by omega
      subst this
      exact q p H3 (e2.trans e3) hp3
    · refine q l _ ((e2.trans e3).trans (Ex.new hl)) ?_
      rw [upd_same, Int.toNat_natCast]
      rw [List.flatten_replicate_singleton]
theorem Of1.upd (x : Addr) (H : Hp) (o : HO) : Of1 x H (L2.upd H x o) := fun b u hb h => by rw [upd_ne hb]; exact h
theorem Of1.back {x : Addr} {H H' : Hp} (h : Of1 x H H') {b : Addr} (hb : b ≠ x) (hn : H' b = none) : H b = none := by
  cases e : H b with
  | none => rfl
  | some u => rw [h b u hb e] at hn; cases hn
open Classical in
/-- what stays: what stood, what is new, and tuples; but not x, not pa -/
noncomputable def NewG (G H H' : Hp) (x pa : Addr) : Hp := fun b => if b = x ∨ b = pa then none else if (∀ u, H b = some u → ∃ xs, u = .tup xs) then H' b else G b
theorem newG_new {G H H' : Hp} {x pa b : Addr} (h1 : b ≠ x) (h2 : b ≠ pa) (h : H b = none) : NewG G H H' x pa b = H' b := by
  unfold NewG
  rw [if_neg (fun z => z.elim h1 h2), if_pos (fun u hu => by rw [h] at hu; cases hu)]
theorem newG_tup {G H H' : Hp} {x pa b : Addr} {xs : List V} (o : Of1 x H H') (h1 : b ≠ x) (h2 : b ≠ pa) (h : H' b = some (.tup xs)) : NewG G H H' x pa b = some (.tup xs) := by
  unfold NewG
  rw [if_neg (fun z => z.elim h1 h2), if_pos (fun u hu => by rw [o b u h1 hu] at h; cases h; exact ⟨_, rfl⟩), h]
theorem newG_ex {G H H' : Hp} {x pa : Addr} (eG : Ex G H) (eG' : Ex G H') (gx : G x = none) (hp : H pa = none) : Ex G (NewG G H H' x pa) := fun b u hb => by
  have h1 : b ≠ x := fun z => by rw [z, gx] at hb; cases hb
  have h2 : b ≠ pa := fun z => by have := eG _ _ hb; rw [z, hp] at this; cases this
  unfold NewG
  rw [if_neg (fun z => z.elim h1 h2)]
  split
  · exact eG' _ _ hb
  · exact hb
theorem newG_sub {G H H' : Hp} {x pa : Addr} (eG' : Ex G H') : Ex (NewG G H H' x pa) H' := fun b u hb => by
  unfold NewG at hb
  split at hb
  · cases hb
  · split at hb
    · exact hb
    · exact eG' _ _ hb
theorem newG_nw {G H H' : Hp} {x pa : Addr} {b : Addr} {u : HO} (hb : G b = none) (hh : H b = some u) (hn : ∀ xs, u ≠ .tup xs) : NewG G H H' x pa b = none := by
  unfold NewG
  split
  · rfl
  · rw [if_neg]
    · exact hb
    · intro z
      obtain ⟨xs, e⟩ := z u hh
      exact hn xs e
structure Msk (P : Program) (w : World) (K : PySem.W.Frag) (mg : Str → Option Value) (base : Heap) (CS : Addr) (m : Str) (ps : List Str) (n : Nat) (sp : Sp) : Prop where
  ex : ∃ (fM : Addr) (fd : FuncData), Meth K CS m fM ∧ FnOk P w K mg base CX0 n fM fd ps sp ∧ Binds K fd ps []
section
variable {P : Program} {w : World} {K : PySem.W.Frag} {mg : Str → Option Value} {base : Heap} {f : Addr} {fd : FuncData} {CF : Addr}
/-! Flood._go -/
def spGo (CF : Addr) : Sp := fun vs H Q _ => ∃ (G : Hp) (x pa la t : Addr) (n m : Nat) (B : Nat → Bk) (cs : Nat → Option Nat) (d : Deed), vs = [.ref x, .ref t] ∧ Ex G H ∧ FdA CF G H x pa la n m B cs ∧ n ≤ 8 ∧ m < 10000 ∧ H t = some (.tup d.vs) ∧ d.may n B cs ∧
  ∀ G' H', Gm x pa G H G' H' → FdA CF G' H' x pa la n (m + 1) (stepB B cs d) (stepC cs d) → Q (.bl (!eqSb n (stepB B cs d) (stepC cs d) B cs)) H'
abbrev sGo : Stmt := inClass (top 21) 7
abbrev nGo : List Str := ["self", "deed", "earlier"]
theorem scGo : FnScope nGo ["self", "deed"] (defScope sGo) := ⟨rfl, rfl, rfl, by decide +kernel, rfl, by decide +kernel, by decide +kernel⟩
theorem ok_go (X : FX K CF) (CB : Cal P w K mg base "behind" ["state", "deed"] 3 spBeh) (F : FnM K "_go" "Flood._go" sGo f fd) : FnOk P w K mg base CX0 4 f fd ["self", "deed"] (spGo CF) := by
  refine F.ok scGo (fun vs H Q E h => ?_) (fun cdv A outer s H vs Q E hr h => ?_)
  · obtain ⟨G, x, pa, la, t, n, m, B, cs, d, rfl, _⟩ := h
    rfl
  · obtain ⟨G, x, pa, la, t, n, m, B, cs, d, rfl, eG, hF, hn, hm, ht, hd, k⟩ := h
    have hu : (A.deeper (envOfC "Flood._go" (defScope sGo) s.heap.objs.size f cdv)).units + 64 < cLine := by have := hr.un; omega
    refine ⟨_, pss_cons (ps_set (i := 2) scGo.nd rfl (Or.inl rfl) (pe_fld (pv 0) rfl))
      (pss_cons (ps_expr (pe_bm PySem.F.plainAttrs_list PySem.F.slot_list_append PySem.F.type_list_append mt_append (pe_fld (pv 0) rfl) (pa_cons (pv 2) pa_nil)))
      (pss_cons (ps_fldaug (pv 0) pe_int in_add)
      (pss_cons (ps_fld (pv 0) (pe_cal CB hr (by rfl) (pa_cons (pv 2) (pa_cons (pv 1) pa_nil))) rfl)
      (pss_one (ps_ret (pe_cmpR (op_neX hu) (pe_fld (pv 0) rfl) (pv 2) (nomark _))))))), ?_⟩
    obtain ⟨dx, fs, st, hx, ff, hst⟩ := hF.ob
    obtain ⟨us, hpa, hul⟩ := hF.ps
    refine ⟨.ref x, rfl, x, CF, dx, fs, _, rfl, hx, X.cl, X.nS, ff.st, ?_⟩
    refine g_name ?_
    dsimp only
    refine ⟨.ref x, rfl, x, CF, dx, fs, _, rfl, hx, X.cl, X.nP, ff.ps, .inl ⟨rfl, _, sq_of hpa⟩, .ref st, rfl, pa, us, .ref st, rfl, rfl, hpa, by rw [sizeLine_eq]; omega, ?_⟩
    have eG1 : Ex G (upd H pa (.lst (us ++ [.ref st]))) := Ex.mut eG hF.gp
    have hx1 : (upd H pa (.lst (us ++ [.ref st]))) x = some (.ins CF dx fs) := by rw [upd_ne hF.ne]; exact hx
    refine ⟨.ref x, rfl, x, CF, dx, fs, .int (m : Int), rfl, hx1, X.cl, X.nM, ff.mn, (m : Int), 1, rfl, rfl, dx, fs, hx1, by have := ff.few; omega, ?_⟩
    have eG2 : Ex G (upd (upd H pa (.lst (us ++ [.ref st]))) x (.ins CF dx (putF "many" (.int ((m : Int) + 1)) fs))) := Ex.mut eG1 hF.gx
    have ff2 : Ff (putF "many" (.int ((m : Int) + 1)) fs) la st pa n (m + 1) := ff.many (m' := m + 1)
    have hx2 : (upd (upd H pa (.lst (us ++ [.ref st]))) x (.ins CF dx (putF "many" (.int ((m : Int) + 1)) fs))) x = some (.ins CF dx (putF "many" (.int ((m : Int) + 1)) fs)) := upd_same
    have hp2 : (upd (upd H pa (.lst (us ++ [.ref st]))) x (.ins CF dx (putF "many" (.int ((m : Int) + 1)) fs))) pa = some (.lst (us ++ [.ref st])) := by rw [upd_ne (Ne.symm hF.ne), upd_same]
    have off2 : ∀ b u, b ≠ x → b ≠ pa → H b = some u → (upd (upd H pa (.lst (us ++ [.ref st]))) x (.ins CF dx (putF "many" (.int ((m : Int) + 1)) fs))) b = some u := fun b u h1 h2 hb => by rw [upd_ne h1, upd_ne h2]; exact hb
    have tx : t ≠ x := fun z => by rw [z, hx] at ht; cases ht
    have tp : t ≠ pa := fun z => by rw [z, hpa] at ht; cases ht
    have ht2 := off2 _ _ tx tp ht
    generalize upd (upd H pa (.lst (us ++ [.ref st]))) x (.ins CF dx (putF "many" (.int ((m : Int) + 1)) fs)) = H2 at *
    generalize putF "many" (V.int ((m : Int) + 1)) fs = fs2 at *
    refine ⟨.ref st, rfl, .ref t, rfl, G, st, t, n, B, cs, d, rfl, eG2, hst, hn, ht2, hd, fun G' H3 st' gz hst' => ?_⟩
    have hx3 := gz.hx _ _ hx2
    refine ⟨.ref x, rfl, x, CF, dx, fs2, rfl, hx3, X.cl, X.nS, by have := ff2.few; omega, ?_⟩
    have g'x : G' x = none := gz.nw x _ hF.gx hx2 (fun xs z => by cases z)
    have g'p : G' pa = none := gz.nw pa _ hF.gp hp2 (fun xs z => by cases z)
    have eG4 : Ex G' (upd H3 x (.ins CF dx (putF "_state" (.ref st') fs2))) := Ex.mut gz.sub g'x
    have ff4 := ff2.state (st' := st')
    refine ⟨.ref x, rfl, x, CF, dx, _, _, rfl, upd_same, X.cl, X.nS, ff4.st, .ref st, rfl, ne_states eG4 eG4 hst' (hst.mono gz.ex) ?_⟩
    refine k G' _ ⟨gz.ex, fun b u h1 h2 hb => ?_, eG4, fun b u hb hh hnt => ?_⟩ ⟨⟨dx, _, st', upd_same, ff4, hst'⟩, ⟨us ++ [.ref st], ?_, ?_⟩, g'x, g'p, hF.ne⟩
    · rw [upd_ne h1]
      exact gz.hx _ _ (off2 _ _ h1 h2 hb)
    · by_cases c1 : b = x
      · rw [c1]; exact g'x
      by_cases c2 : b = pa
      · rw [c2]; exact g'p
      exact gz.nw b u hb (off2 _ _ c1 c2 hh) hnt
    · rw [upd_ne (Ne.symm hF.ne)]
      exact gz.hx _ _ hp2
    · simp; omega
/-! refuse_no_router -/
abbrev spRNR : Sp := spP fun H vs z => ∃ (n r : Nat), vs = [.int (n : Int), .int (r : Int)] ∧ r < n ∧ z = .non
abbrev sRNR : Stmt := top 13
theorem scRNR : FnScope ["size", "thing"] ["size", "thing"] (defScope sRNR) := ⟨rfl, rfl, rfl, by decide +kernel, rfl, by decide +kernel, by decide +kernel⟩
theorem ok_rnr (CR : Cal P w K mg base "is_router" ["size", "thing"] 3 spRouter) (F : FnP K "refuse_no_router" sRNR f fd) : FnOk P w K mg base CX0 4 f fd ["size", "thing"] spRNR := by
  refine F.ok scRNR (fun vs H Q E h => ?_) (fun cdv A outer s H vs Q E hr h => ?_)
  · obtain ⟨z, ⟨n, r, rfl, _⟩, _⟩ := h
    rfl
  · obtain ⟨z, ⟨n, r, rfl, hrn, rfl⟩, k⟩ := h
    refine ⟨_, pss_one (ps_if (pt_not (pt_val (pe_cal CR hr (by rfl) (pa_cons (pv 0) (pa_cons (pv 1) pa_nil))))) (pss_one ps_never) pss_nil), ?_⟩
    have c2 : Ev (tCall spRouter [] E0 (tCons (tVar 0) (tCons (tVar 1) tNil))) (start ["size", "thing"] [.int (n : Int), .int (r : Int)]) H (.bl true) := ev_call (ea_cons (ev_var rfl) (ea_cons (ev_var rfl) ea_nil)) (spP_v fun H1 e => ⟨(n : Int), _, .int (r : Int), rfl, .int _, by rw [isR_yes hrn]⟩)
    exact s_when (b := !true) (et_not (et_B c2)) (fun z => by cases z) fun _ H2 e2 => k H2 e2
/-! Flood.book -/
def spBook (CF : Addr) : Sp := fun vs H Q _ => ∃ (G : Hp) (x pa la : Addr) (n m r : Nat) (B : Nat → Bk) (cs : Nat → Option Nat), vs = [.ref x, .int (r : Int)] ∧ Ex G H ∧ FdA CF G H x pa la n m B cs ∧ n ≤ 8 ∧ r < n ∧
  ∀ H' D kvs ks, Ex H H' → H D = none → H' D = some (.dK kvs) → BkD G kvs ks n (B r) → ks.Pairwise (· ≤ ·) → Q (.ref D) H'
abbrev sBook : Stmt := inClass (top 21) 2
abbrev nBook : List Str := ["self", "router", "book", "key"]
theorem scBook : FnScope nBook ["self", "router"] (defScope sBook) := ⟨rfl, rfl, rfl, by decide +kernel, rfl, by decide +kernel, by decide +kernel⟩
theorem ok_book (X : FX K CF) (hs : mg "sorted" = none) (CR : Cal P w K mg base "refuse_no_router" ["size", "thing"] 4 spRNR) (F : FnM K "book" "Flood.book" sBook f fd) : FnOk P w K mg base CX0 5 f fd ["self", "router"] (spBook CF) := by
  refine F.ok scBook (fun vs H Q E h => ?_) (fun cdv A outer s H vs Q E hr h => ?_)
  · obtain ⟨G, x, pa, la, n, m, r, B, cs, rfl, _⟩ := h
    rfl
  · obtain ⟨G, x, pa, la, n, m, r, B, cs, rfl, eG, hF, hn, hrn, k⟩ := h
    have hu : (A.deeper (envOfC "Flood.book" (defScope sBook) s.heap.objs.size f cdv)).units + 1 < cLine := by have := hr.un; omega
    refine ⟨_, pss_cons (ps_expr (pe_cal CR hr (by rfl) (pa_cons (pe_fld (pv 0) rfl) (pa_cons (pv 1) pa_nil))))
      (pss_cons (ps_set (i := 2) scBook.nd rfl (Or.inr rfl) (pe_ix ix_tup (pe_ix ix_tup (pe_fld (pv 0) rfl) pe_int (fun _ _ => rfl)) (pv 1) (fun _ _ => rfl)))
      (pss_one (ps_ret (pe_dc (own := [("key", 3)]) (g := gName 3) (tt := tYes) (tk := tVar 3) (tv := tDGet (tVar 2) (tVar 3)) rfl scBook.nd (pi_list (pe_callB (call_sortedDI rfl) (by rfl) hs boot_sorted (pa_cons (pv 2) pa_nil))) (blkOk_by (N := nBook) (sc := defScope sBook) (by decide +kernel))
        (fun _ _ _ _ _ => pg_name (i := 3) scBook.nd rfl (Or.inl rfl)) (fun _ _ _ _ _ => pts_nil) (fun _ _ _ _ _ => pv 3) (fun _ _ _ _ _ => pe_dget hu (pv 2) (pv 3) (fun _ _ => rfl)))))), ?_⟩
    obtain ⟨dx, fs, st, hx, ff, tb, tc, bs, g1, g2, g3, hB⟩ := hF.ob
    obtain ⟨a, hba, kvs, ks, ha, hbk⟩ := hB.at_ r hrn
    have fZ : Ev (tFld K (tVar 0) "_size") (start nBook [.ref x, .int (r : Int)]) H (.int (n : Int)) := fun H2 e2 Q2 q => ⟨.ref x, rfl, x, CF, dx, _, _, rfl, e2 _ _ hx, X.cl, X.nZ, ff.sz, q H2 (Ex.refl H2)⟩
    have c1 : Ev (tCall spRNR [] E0 (tCons (tFld K (tVar 0) "_size") (tCons (tVar 1) tNil))) (start nBook [.ref x, .int (r : Int)]) H .non := ev_call (ea_cons fZ (ea_cons (ev_var rfl) ea_nil)) (spP_v fun H1 e => ⟨n, r, rfl, hrn, rfl⟩)
    refine c1 H (Ex.refl _) _ fun H1 e1 => ?_
    have eG1 := eG.trans e1
    refine ⟨.ref x, rfl, x, CF, dx, fs, _, rfl, e1 _ _ hx, X.cl, X.nS, ff.st, st, _, 0, .ref tb, rfl, rfl, st_of (eG1 _ _ g1), atI_nat (j := 0) rfl, .int (r : Int), rfl, tb, bs, (r : Int), .ref a, rfl, rfl, st_of (eG1 _ _ g2), atI_nat hba, ?_⟩
    refine g_name ?_
    dsimp only
    change tRet _ _ [some (.ref x), some (.int (r : Int)), some (.ref a), none] H1
    have hl := hbk.len
    refine ⟨.ref a, rfl, a, kvs, ks, rfl, .inl (eG1 _ _ ha), hbk.nk.1, by omega, fun ys L pm pw hL => ?_⟩
    have exL := Ex.new (o := .lst (ys.map V.int)) hL
    have hLL : (upd H1 L (.lst (ys.map V.int))) L = some (.lst (ys.map V.int)) := upd_same
    generalize upd H1 L (.lst (ys.map V.int)) = H2 at *
    refine ⟨L, rfl, ⟨_, sq_of hLL⟩, fun D hD => ?_⟩
    have haL := exL _ _ (eG1 _ _ ha)
    refine dc_it (H := H2) (ks := ys) (fun _ => true) (fun k => (valV kvs (.inl k)).getD .non) walk_ints hD (by rw [pm.length_eq]; omega) (fun H' e => sq_of (e _ _ hLL)) (fun x => rfl) (by show 3 < 4; decide) (fun k hk H' e => et_yes) (fun k hk _ H' e => ?_) fun H' e hD5 => ?_
    · obtain ⟨v, hv⟩ := (hbk.nk.mem k).mp (pm.mem_iff.mp hk)
      rw [hv]
      exact ev_dget (kvs := kvs) (ev_var rfl) (ev_var rfl) (.inl (e _ _ haL)) hv
    · rw [filter_yes] at hD5
      exact k H' D _ ys ((e1.trans exL).trans e) (fresh_back (e1.trans exL) hD) hD5 (book_of hbk pm) pw
/-! Flood.content -/
def spCont (CF : Addr) : Sp := fun vs H Q _ => ∃ (G : Hp) (x pa la : Addr) (n m r : Nat) (B : Nat → Bk) (cs : Nat → Option Nat), vs = [.ref x, .int (r : Int)] ∧ Ex G H ∧ FdA CF G H x pa la n m B cs ∧ n ≤ 8 ∧ r < n ∧ ∀ H', Ex H H' → Q (oV (cs r)) H'
abbrev sCont : Stmt := inClass (top 21) 3
theorem scCont : FnScope ["self", "router"] ["self", "router"] (defScope sCont) := ⟨rfl, rfl, rfl, by decide +kernel, rfl, by decide +kernel, by decide +kernel⟩
theorem ok_cont (X : FX K CF) (CR : Cal P w K mg base "refuse_no_router" ["size", "thing"] 4 spRNR) (F : FnM K "content" "Flood.content" sCont f fd) : FnOk P w K mg base CX0 5 f fd ["self", "router"] (spCont CF) := by
  refine F.ok scCont (fun vs H Q E h => ?_) (fun cdv A outer s H vs Q E hr h => ?_)
  · obtain ⟨G, x, pa, la, n, m, r, B, cs, rfl, _⟩ := h
    rfl
  · obtain ⟨G, x, pa, la, n, m, r, B, cs, rfl, eG, hF, hn, hrn, k⟩ := h
    refine ⟨_, pss_cons (ps_expr (pe_cal CR hr (by rfl) (pa_cons (pe_fld (pv 0) rfl) (pa_cons (pv 1) pa_nil))))
      (pss_one (ps_ret (pe_ix ix_tup (pe_ix ix_tup (pe_fld (pv 0) rfl) pe_int (fun _ _ => rfl)) (pv 1) (fun _ _ => rfl)))), ?_⟩
    obtain ⟨dx, fs, st, hx, ff, tb, tc, bs, g1, g2, g3, hB⟩ := hF.ob
    have fZ : Ev (tFld K (tVar 0) "_size") (start ["self", "router"] [.ref x, .int (r : Int)]) H (.int (n : Int)) := fun H2 e2 Q2 q => ⟨.ref x, rfl, x, CF, dx, _, _, rfl, e2 _ _ hx, X.cl, X.nZ, ff.sz, q H2 (Ex.refl H2)⟩
    have c1 : Ev (tCall spRNR [] E0 (tCons (tFld K (tVar 0) "_size") (tCons (tVar 1) tNil))) (start ["self", "router"] [.ref x, .int (r : Int)]) H .non := ev_call (ea_cons fZ (ea_cons (ev_var rfl) ea_nil)) (spP_v fun H1 e => ⟨n, r, rfl, hrn, rfl⟩)
    refine c1 H (Ex.refl _) _ fun H1 e1 => ?_
    have eG1 := eG.trans e1
    exact ⟨.ref x, rfl, x, CF, dx, fs, _, rfl, e1 _ _ hx, X.cl, X.nS, ff.st, st, _, 1, .ref tc, rfl, rfl, st_of (eG1 _ _ g1), atI_nat (j := 1) rfl, .int (r : Int), rfl, tc, _, (r : Int), oV (cs r), rfl, rfl, st_of (eG1 _ _ g3), atI_nat (cV_at hrn), k H1 e1⟩
/-! Flood.__init__ -/
def spInit (CF : Addr) : Sp := fun vs H Q _ => ∃ (G : Hp) (x l dx : Addr) (n : Nat) (us : List V) (prs : List Wy), vs = [.ref x, .int (n : Int), .ref l] ∧ H x = some (.ins CF dx []) ∧ Ex G H ∧ G x = none ∧ G l = some (.lst us) ∧ DqA G us (prs.map wd) ∧ (∀ p ∈ prs, PrOk n p) ∧ prs.length ≤ 22 ∧ 1 ≤ n ∧ n ≤ 8 ∧
  ∀ G' H' pa la us', Ex G G' → Ex G' H' → (∀ b u, b ≠ x → H b = some u → H' b = some u) → (∀ b u, G b = none → H b = some u → (∀ xs, u ≠ .tup xs) → G' b = none) → H pa = none → FdA CF G' H' x pa la n 0 (fun _ _ => none) (fun _ => none) → G' la = some (.lst us') → DqA G' us' ((joinW prs).map wd) → Q .non H'
abbrev sInit : Stmt := inClass (top 21) 0
abbrev nInit : List Str := ["self", "size", "links"]
theorem scInit : FnScope nInit nInit (defScope sInit) := ⟨rfl, rfl, rfl, by decide +kernel, rfl, by decide +kernel, by decide +kernel⟩
theorem cV_none (n : Nat) : List.replicate n V.non = cV n fun _ => none := by
  unfold cV
  apply List.ext_getElem
  · simp
  · intro i h1 h2
    simp [oV]
theorem ok_init (X : FX K CF) (CW : Cal P w K mg base "refuse_wrong_flood" ["size", "links"] 6 spRWF) (CB : Cal P w K mg base "both_ways" ["links"] 1 spPairs) (F : FnM K "__init__" "Flood.__init__" sInit f fd) : FnOk P w K mg base CX0 7 f fd nInit (spInit CF) := by
  refine F.ok scInit (fun vs H Q E h => ?_) (fun cdv A outer s H vs Q E hr h => ?_)
  · obtain ⟨G, x, l, dx, n, us, prs, rfl, _⟩ := h
    rfl
  · obtain ⟨G, x, l, dx, n, us, prs, rfl, hx, eG, gx, gl, hus, hok, hpl, hn1, hn8, k⟩ := h
    refine ⟨_, pss_cons (ps_expr (pe_cal CW hr (by rfl) (pa_cons (pv 1) (pa_cons (pv 2) pa_nil))))
      (pss_cons (ps_fld (pv 0) (pv 1) rfl)
      (pss_cons (ps_fld (pv 0) (pe_cal CB hr (by rfl) (pa_cons (pv 2) pa_nil)) rfl)
      (pss_cons (ps_fld (pv 0) (pe_tup (pa_cons (pe_op (op_repU (K := K) rfl) (pe_tup (pa_cons pe_dnewK pa_nil)) (pv 1)) (pa_cons (pe_op (op_repU (K := K) rfl) (pe_tup (pa_cons pe_non pa_nil)) (pv 1)) pa_nil))) rfl)
      (pss_cons (ps_fld (pv 0) pe_int rfl)
      (pss_one (ps_fld (pv 0) (pe_lst pa_nil) rfl)))))), ?_⟩
    have hprs8 : ∀ w ∈ prs, PrOk 8 w := fun w hw => by
      obtain ⟨u, v, e, h1, h2, h3⟩ := hok w hw
      exact ⟨u, v, e, by omega, by omega, h3⟩
    have c1 : Ev (tCall spRWF [] E0 (tCons (tVar 1) (tCons (tVar 2) tNil))) (start nInit [.ref x, .int (n : Int), .ref l]) H .non := ev_call (ea_cons (ev_var rfl) (ea_cons (ev_var rfl) ea_nil)) (spP_v fun H1 e => ⟨n, l, us, prs, rfl, hn1, hn8, e _ _ (eG _ _ gl), hus.mono (eG.trans e), hok, by omega, rfl⟩)
    refine c1 H (Ex.refl _) _ fun H1 e1 => ?_
    have eG1 := eG.trans e1
    refine ⟨.int (n : Int), rfl, .ref x, rfl, x, CF, dx, [], rfl, e1 _ _ hx, X.cl, X.nZ, by decide, ?_⟩
    have off2 : ∀ b u, b ≠ x → H b = some u → (upd H1 x (.ins CF dx (putF "_size" (.int (n : Int)) []))) b = some u := fun b u hb hh => by rw [upd_ne hb]; exact e1 _ _ hh
    have eG2 : Ex G (upd H1 x (.ins CF dx (putF "_size" (.int (n : Int)) []))) := Ex.mut eG1 gx
    have hx2 : (upd H1 x (.ins CF dx (putF "_size" (.int (n : Int)) []))) x = some (.ins CF dx (putF "_size" (.int (n : Int)) [])) := upd_same
    generalize upd H1 x (.ins CF dx (putF "_size" (.int (n : Int)) [])) = H2 at *
    refine ⟨.ref l, rfl, l, us, prs, rfl, eG2 _ _ gl, hus.mono eG2, hprs8, hpl, fun H3 la us' e3 nla hla husa => ?_⟩
    have hx3 := e3 _ _ hx2
    refine ⟨.ref x, rfl, x, CF, dx, _, rfl, hx3, X.cl, X.nA, ?_, ?_⟩
    · exact Nat.lt_of_le_of_lt (len_putF _ _ _) (by decide)
    have xla : la ≠ x := fun z => by rw [z, hx2] at nla; cases nla
    obtain ⟨ks, k1, k2, k3⟩ := wds_ks husa
    have o3 : Of1 x H H3 := fun b u hb hh => e3 _ _ (off2 b u hb hh)
    have nla0 : H la = none := by
      cases e : H la with
      | none => rfl
      | some u => rw [off2 la u xla e] at nla; cases nla
    have xks : ∀ p ∈ ks, p.1 ≠ x := fun p hp z => by
      have := k3 p hp
      rw [z, hx3] at this
      cases this
    have eG4 : Ex G (upd H3 x (.ins CF dx (putF "_arrows" (.ref la) (putF "_size" (.int (n : Int)) [])))) := Ex.mut (eG2.trans e3) gx
    have hx4 : (upd H3 x (.ins CF dx (putF "_arrows" (.ref la) (putF "_size" (.int (n : Int)) [])))) x = some (.ins CF dx (putF "_arrows" (.ref la) (putF "_size" (.int (n : Int)) []))) := upd_same
    have o4 := o3.trans (Of1.upd x H3 (.ins CF dx (putF "_arrows" (.ref la) (putF "_size" (.int (n : Int)) []))))
    have hla4 := Of1.upd x H3 (.ins CF dx (putF "_arrows" (.ref la) (putF "_size" (.int (n : Int)) []))) la _ xla hla
    have k34 : ∀ p ∈ ks, (upd H3 x (.ins CF dx (putF "_arrows" (.ref la) (putF "_size" (.int (n : Int)) [])))) p.1 = some (.tup (p.2.map V.int)) := fun p hp => Of1.upd x H3 _ _ _ (xks p hp) (k3 p hp)
    have ln2 : (putF "_arrows" (.ref la) (putF "_size" (V.int (n : Int)) [])).length ≤ 2 := Nat.le_trans (len_putF _ _ _) (Nat.succ_le_succ (len_putF _ _ _))
    generalize upd H3 x (.ins CF dx (putF "_arrows" (.ref la) (putF "_size" (.int (n : Int)) []))) = H4 at *
    clear k3 hla hx3 o3 hx2 off2 nla e3
    intro D0 nD0
    refine ⟨by show 1 ≤ sizeLine; decide, fun T0 nT0 => ?_⟩
    have xD0 : D0 ≠ x := fun z => by rw [z, hx4] at nD0; cases nD0
    have nD00 := o4.back xD0 nD0
    have e45 := Ex.new (o := .dK []) nD0
    have e56 := Ex.new (o := .tup [V.ref D0]) nT0
    have hD6 := e56 _ _ (show (upd H4 D0 (.dK [])) D0 = some (.dK []) from upd_same)
    have hT6 : (upd (upd H4 D0 (.dK [])) T0 (.tup [V.ref D0])) T0 = some (.tup [V.ref D0]) := upd_same
    have e46 := e45.trans e56
    generalize upd (upd H4 D0 (.dK [])) T0 (.tup [V.ref D0]) = H6 at *
    have z1 := es_rep (K := K) (σ := [some (.ref x), some (.int (n : Int)), some (.ref l)]) (H := H6) (ta := tC (.ref T0)) (tb := tVar 1) (v := .ref D0) (n := n) (es_var ev_c hT6) (ev_var rfl) hn1 (by omega)
    refine z1 H6 (Ex.refl _) _ fun tb H7 e67 htb => ?_
    have z2 := es_rep (K := K) (σ := [some (.ref x), some (.int (n : Int)), some (.ref l)]) (H := H7) (ta := tTup (tCons (tC .non) tNil)) (tb := tVar 1) (v := .non) (n := n) (es_tup (xs := [.non]) (ea_cons ev_c ea_nil) (by show 1 ≤ 100000; decide)) (ev_var rfl) hn1 (by omega)
    refine z2 H7 (Ex.refl _) _ fun tc H8 e78 htc => ?_
    refine ⟨by show 2 ≤ sizeLine; decide, fun st nst => ?_⟩
    have e89 := Ex.new (o := .tup [V.ref tb, V.ref tc]) nst
    have hst : (upd H8 st (.tup [V.ref tb, V.ref tc])) st = some (.tup [V.ref tb, V.ref tc]) := upd_same
    have e49 := (e46.trans (e67.trans e78)).trans e89
    have htb9 := e89 _ _ (e78 _ _ htb)
    have htc9 := e89 _ _ htc
    have hD9 := e89 _ _ (e78 _ _ (e67 _ _ hD6))
    generalize upd H8 st (.tup [V.ref tb, V.ref tc]) = H9 at *
    have hx9 := e49 _ _ hx4
    refine ⟨.ref x, rfl, x, CF, dx, _, rfl, hx9, X.cl, X.nS, Nat.lt_of_le_of_lt ln2 (by decide), ?_⟩
    have o9 : Of1 x H H9 := o4.trans (Of1.ex e49)
    have ln3 : (putF "_state" (.ref st) (putF "_arrows" (.ref la) (putF "_size" (V.int (n : Int)) []))).length ≤ 3 := Nat.le_trans (len_putF _ _ _) (Nat.succ_le_succ ln2)
    have ln4 : (putF "many" (.int 0) (putF "_state" (.ref st) (putF "_arrows" (.ref la) (putF "_size" (V.int (n : Int)) [])))).length ≤ 4 := Nat.le_trans (len_putF _ _ _) (Nat.succ_le_succ ln3)
    refine ⟨.ref x, rfl, x, CF, dx, _, rfl, upd_same, X.cl, X.nM, Nat.lt_of_le_of_lt ln3 (by decide), ?_⟩
    have eB : Ex G H9 := eG4.trans e49
    have oB := Of1.trans (Of1.upd x H9 (.ins CF dx (putF "_state" (.ref st) (putF "_arrows" (.ref la) (putF "_size" (V.int (n : Int)) []))))) (Of1.upd x _ (.ins CF dx (putF "many" (.int 0) (putF "_state" (.ref st) (putF "_arrows" (.ref la) (putF "_size" (V.int (n : Int)) []))))))
    have hxB : (upd (upd H9 x (.ins CF dx (putF "_state" (.ref st) (putF "_arrows" (.ref la) (putF "_size" (V.int (n : Int)) []))))) x (.ins CF dx (putF "many" (.int 0) (putF "_state" (.ref st) (putF "_arrows" (.ref la) (putF "_size" (V.int (n : Int)) [])))))) x = some (.ins CF dx (putF "many" (.int 0) (putF "_state" (.ref st) (putF "_arrows" (.ref la) (putF "_size" (V.int (n : Int)) []))))) := upd_same
    have eGB : Ex G (upd (upd H9 x (.ins CF dx (putF "_state" (.ref st) (putF "_arrows" (.ref la) (putF "_size" (V.int (n : Int)) []))))) x (.ins CF dx (putF "many" (.int 0) (putF "_state" (.ref st) (putF "_arrows" (.ref la) (putF "_size" (V.int (n : Int)) [])))))) := Ex.mut (Ex.mut eB gx) gx
    generalize upd (upd H9 x (.ins CF dx (putF "_state" (.ref st) (putF "_arrows" (.ref la) (putF "_size" (V.int (n : Int)) []))))) x (.ins CF dx (putF "many" (.int 0) (putF "_state" (.ref st) (putF "_arrows" (.ref la) (putF "_size" (V.int (n : Int)) []))))) = HB at *
    refine ⟨by show 0 ≤ sizeLine; decide, fun pa npa => ?_⟩
    have xpa : pa ≠ x := fun z => by rw [z, hxB] at npa; cases npa
    have eC := Ex.new (o := .lst ([] : List V)) npa
    have hpC : (upd HB pa (.lst ([] : List V))) pa = some (.lst []) := upd_same
    refine ⟨.ref x, rfl, x, CF, dx, _, rfl, eC _ _ hxB, X.cl, X.nP, Nat.lt_of_le_of_lt ln4 (by decide), ?_⟩
    have oF : Of1 x H9 (upd (upd HB pa (.lst ([] : List V))) x (.ins CF dx (putF "_past" (.ref pa) (putF "many" (.int 0) (putF "_state" (.ref st) (putF "_arrows" (.ref la) (putF "_size" (V.int (n : Int)) []))))))) := (oB.trans (Of1.ex eC)).trans (Of1.upd x _ _)
    have hxF : (upd (upd HB pa (.lst ([] : List V))) x (.ins CF dx (putF "_past" (.ref pa) (putF "many" (.int 0) (putF "_state" (.ref st) (putF "_arrows" (.ref la) (putF "_size" (V.int (n : Int)) []))))))) x = some (.ins CF dx (putF "_past" (.ref pa) (putF "many" (.int 0) (putF "_state" (.ref st) (putF "_arrows" (.ref la) (putF "_size" (V.int (n : Int)) [])))))) := upd_same
    have hpF : (upd (upd HB pa (.lst ([] : List V))) x (.ins CF dx (putF "_past" (.ref pa) (putF "many" (.int 0) (putF "_state" (.ref st) (putF "_arrows" (.ref la) (putF "_size" (V.int (n : Int)) []))))))) pa = some (.lst []) := by rw [upd_ne xpa]; exact hpC
    have eGF : Ex G (upd (upd HB pa (.lst ([] : List V))) x (.ins CF dx (putF "_past" (.ref pa) (putF "many" (.int 0) (putF "_state" (.ref st) (putF "_arrows" (.ref la) (putF "_size" (V.int (n : Int)) []))))))) := Ex.mut (eGB.trans eC) gx
    have np9 : H9 pa = none := oB.back xpa npa
    have np0 : H pa = none := o9.back xpa np9
    dsimp only
    generalize upd (upd HB pa (.lst ([] : List V))) x (.ins CF dx (putF "_past" (.ref pa) (putF "many" (.int 0) (putF "_state" (.ref st) (putF "_arrows" (.ref la) (putF "_size" (V.int (n : Int)) [])))))) = HF at *
    have oH : Of1 x H HF := o9.trans oF
    have nx : ∀ {b u}, H9 b = some u → (∀ C d fs, u ≠ .ins C d fs) → b ≠ x := fun {b u} hb hu z => by
      rw [z, hx9] at hb
      cases hb
      exact hu _ _ _ rfl
    have npx : ∀ {b u}, H9 b = some u → b ≠ pa := fun {b u} hb z => by rw [z, np9] at hb; cases hb
    have tupF : ∀ {b xs}, H9 b = some (.tup xs) → NewG G H HF x pa b = some (.tup xs) := fun {b xs} hb => by
      have h1 := nx hb (fun _ _ _ z => by cases z)
      exact newG_tup oH h1 (npx hb) (oF _ _ h1 hb)
    have hla9 := e49 _ _ hla4
    refine k (NewG G H HF x pa) HF pa la us' (newG_ex eG eGF gx np0) (newG_sub eGF) oH (fun b u hb hh hn => newG_nw hb hh hn) np0 ⟨⟨dx, _, st, hxF, ?_, tb, tc, _, tupF hst, tupF htb9, ?_, ?_⟩, ⟨[], hpF, Nat.le_refl _⟩, ?_, ?_, Ne.symm xpa⟩ ?_ ?_
    · refine ⟨?_, ?_, ?_, ?_, lk_putS, ?_, ?_, ?_, ?_, ?_, ?_, Nat.le_trans (len_putF _ _ _) (Nat.le_trans (Nat.succ_le_succ ln4) (by decide))⟩
      · rw [lk_putF (by decide +kernel), lk_putF (by decide +kernel), lk_putF (by decide +kernel), lk_putF (by decide +kernel)]
        exact lk_putS
      · rw [lk_putF (by decide +kernel), lk_putF (by decide +kernel), lk_putF (by decide +kernel)]
        exact lk_putS
      · rw [lk_putF (by decide +kernel), lk_putF (by decide +kernel)]
        exact lk_putS
      · rw [lk_putF (by decide +kernel)]
        exact lk_putS
      all_goals
        rw [lk_putF (by decide +kernel), lk_putF (by decide +kernel), lk_putF (by decide +kernel), lk_putF (by decide +kernel), lk_putF (by decide +kernel)]
        rfl
    · rw [← cV_none]
      exact tupF htc9
    · refine ⟨List.length_replicate, fun r hr => ⟨D0, ?_, [], [], ?_, BkD.nil _ n⟩⟩
      · rw [List.getElem?_replicate, if_pos hr]
      · rw [newG_new xD0 (npx hD9) nD00]
        exact oF _ _ xD0 hD9
    · unfold NewG
      rw [if_pos (.inl rfl)]
    · unfold NewG
      rw [if_pos (.inr rfl)]
    · rw [newG_new xla (npx hla9) nla0]
      exact oF _ _ xla hla9
    · rw [k1, ← k2]
      exact ks_wds fun q hq => tupF (e49 _ _ (k34 q hq))
end
end Wk

set_option Elab.async false
set_option linter.all false
set_option maxRecDepth 100000
set_option maxHeartbeats 2000000
namespace Wk
open PySem PySem.Spec PyProof.Rows L2 Evl
/-! several except clauses, each with the same name for what it caught -/
def unAs (i : Nat) (D : Ends) : Ends := { nx := fun σ' H' => D.nx (σ'.set i none) H', rt := D.rt, bk := fun σ' H' => D.bk (σ'.set i none) H', ct := fun σ' H' => D.ct (σ'.set i none) H' }
/-- what these clauses wish of an exception, one behind the other -/
def wClauses (K : PySem.W.Frag) (i : Nat) (Wo : WX) (D : Ends) : List (Value × (Addr → Value → Option Addr → TS)) → WX
  | [] => Wo
  | y :: r => fun cls d σ H => ∃ b, PySem.W.exmOne K cls y.1 = some b ∧ (b = true → ∀ a, H a = none → y.2 a cls d (unAs i D) (σ.set i (some (.ref a))) H) ∧ (b = false → wClauses K i Wo D r cls d σ H)
inductive Clauses (X : Cx) (n : Str) : List ExceptHandler → List (Value × (Addr → Value → Option Addr → TS)) → Prop
  | nil : Clauses X n [] []
  | cons {x : Str} {c : Value} {ts : Addr → Value → Option Addr → TS} {b₀ : Stmt} {su : List Stmt} {np pos' : Pos} {hs : List ExceptHandler} {l : List (Value × (Addr → Value → Option Addr → TS))} (hc : Names X x c)
      (hsu : ∀ (a : Addr) (oe : Obj) (cls : Value) (d : Option Addr) (pn : List (Addr × Obj)), Zc cls d oe → (∃ vs, oe.data = .fields vs) → PSs (X.suite a ((a, oe) :: pn)) (b₀ :: su) (ts a cls d)) (r : Clauses X n hs l) :
      Clauses X n (.ExceptHandler (some (.Name x np)) (some n) (b₀ :: su) pos' :: hs) ((c, ts) :: l)
section
variable {X : Cx} {n : Str} {i : Nat} {body : List Stmt} {h₀ : ExceptHandler} {hds : List ExceptHandler} {l : List (Value × (Addr → Value → Option Addr → TS))} {pos : Pos} {tb : WX → TS} {Wout : WX}
theorem ps_try_clauses (hs : X.stack = X.env :: X.outer) (hf : X.env.frame = some X.env.locals) (hN : X.N.Nodup) (hi : X.N[i]? = some n) (hln : X.env.kindOf n = some .local) (tk : Takes X Wout)
    (hb : ∀ (W : WX) (pn : List (Addr × Obj)) (xe : Value → Shared → Prop), Takes (X.tr pn xe) W → PassesOwn (model X.prog X.w) X.A X.env xe → PSs (X.tr pn xe) body (tb W))
    (hh : Clauses X n (h₀ :: hds) l) : PS X (.Try body (h₀ :: hds) [] [] pos) (fun D σ H => tb (wClauses X.K i Wout D l) D σ H) := by
  refine ⟨fun pins s σ H D I h => ?_⟩
  have ok := I.ok
  have hfr : X.A.frames = some (X.env :: X.outer) := by rw [ok.frames, hs]
  have hloc : Loc X.env.scope n := .inl hln
  refine wpAny_Try_except (wpAny_mono ((hb (wClauses X.K i Wout D l) (X.pn ++ pins) (fun e s₁ => wpAny (model X.prog X.w) X.A (noteFrame e X.env) (fun _ s₂ => wpAny (model X.prog X.w) X.A (setFlight e none) (fun _ s₃ =>
    wpAny (model X.prog X.w) X.A (handleBy e X.env (h₀ :: hds)) (SP X pins D) X.xe s₃) X.xe s₂) X.xe s₁) ?air PassesOwn.looking).run [] s σ H D (I.toTry _) h) ?fine (fun _ _ he => he))
  case fine =>
    intro f s1 hsp
    cases f with
    | next => obtain ⟨σ', H', J', q⟩ := hsp; exact wpAny_execs_nil ⟨σ', H', J'.ofTry ok, q⟩
    | brk => obtain ⟨σ', H', J', q⟩ := hsp; exact ⟨σ', H', J'.ofTry ok, q⟩
    | cont => obtain ⟨σ', H', J', q⟩ := hsp; exact ⟨σ', H', J'.ofTry ok, q⟩
    | ret u => obtain ⟨v, σ', H', J', r, q⟩ := hsp; exact ⟨v, σ', H', J'.ofTry ok, r, q⟩
  case air =>
    intro u s' xx
    obtain ⟨a, B, sI, pins', σ', H', cls, d, rfl, J', nb, up, sky, na, os, ag, w⟩ := xx
    have J : Inv X pins σ' H' sI := J'.ofTry ok
    rw [hs] at sky
    refine Sky.land (L := X.env.locals) Zc.steady hfr hf sky fun h3 fl3 up3 => ?_
    have J3 : Inv X pins σ' H' { s' with heap := h3 } := J.landed nb fl3.1 (up.trans up3) os ag
    obtain ⟨oe3, vs3, he3, hz3, hd3⟩ := fl3.there
    have nfr : a ∉ frs (X.env :: X.outer) := fun hm => by
      obtain ⟨_, o', e', hnf⟩ := fl3.2.2.1.mem hm
      rw [he3] at e'
      cases e'
      exact hnf _ hd3
    have nL : a ≠ X.env.locals := fun z => nfr (List.mem_filterMap.mpr ⟨X.env, List.mem_cons_self, by rw [hf, z]⟩)
    have nF : a ∉ X.fs := fun hm => by
      obtain ⟨e, he, q⟩ := List.mem_filterMap.mp hm
      exact nfr (List.mem_filterMap.mpr ⟨e, List.mem_cons_of_mem _ he, q⟩)
    have S3 := J3.suite he3 hd3 na nL nF
    have go : ∀ {hs' : List ExceptHandler} {l' : List (Value × (Addr → Value → Option Addr → TS))}, Clauses X n hs' l' → wClauses X.K i Wout D l' cls d σ' H' → wpAny (model X.prog X.w) X.A (handleBy (.ref a) X.env hs') (SP X pins D) X.xe { s' with heap := h3 } := by
      intro hs' l' hk
      induction hk with
      | nil =>
        intro w
        refine wpAny_handleBy_nil ?_
        obtain ⟨k1, k2, k3, oe, vs, T, oT, ts', he, hz, hd, h1, hr⟩ := id fl3
        unfold PySem.passOn
        refine wpAny_bind (wpAny_field he hd h1 ?_)
        rw [if_neg (show ¬ ((Value.ref T == Value.none) = true) from by simp)]
        have fin : wpAny (model X.prog X.w) X.A (setFlight (.ref a) X.env.frame) (fun _ s4 => wpAny (model X.prog X.w) X.A (throw (.ref a) : Sem Flow) (SP X pins D) X.xe s4) X.xe { s' with heap := h3 } := by
          rw [hf]
          exact HandSPX.setFlight_upZ fl3 fun h4 hh4 up4 => wpAny_throw (tk _ _ ⟨a, B, sI, pins, σ', H', cls, d, rfl, J, nb, (up.trans up3).trans up4, .inr (.inr (by rw [hs]; exact hh4)), na, os, ag, w⟩)
        first
          | exact wpAny_bind (wpAny_pure (wpAny_bind fin))
          | exact wpAny_bind fin
      | @cons x c ts b₀ su np pos' hs2 l2 hc hsu r ih =>
        intro w
        obtain ⟨b, hb1, hyes, hno⟩ := w
        refine wpAny_handleBy_cons (codeAny_handlers_test ?_) (by intro q; cases q)
        have LM := PySem.W.exm_one (M := model X.prog X.w) (J3.kIn) (fun A Q E s k q => wpAny_typeOf_ref (k _ _ he3) (by rw [hz3.1]; exact q)) hb1
        have test : ∀ {Q E : Value → Shared → Prop}, Q c { s' with heap := h3 } → wpAny (model X.prog X.w) (X.A.mark (some (.ref a))) (eval (.Name x np) X.env) Q E { s' with heap := h3 } := fun {Q E} q => by
          obtain ⟨hg, hdbg, hm | ⟨hm, hv, hnn⟩⟩ := hc
          · exact ld_glob (X := X.suite a ((a, oe3) :: (X.pn ++ pins))) S3 hg hm q hdbg
          · exact ld_blt (X := X.suite a ((a, oe3) :: (X.pn ++ pins))) S3 hg hm hv q hnn hdbg
        refine test (LM.here ?_)
        cases b with
        | false => exact ih (hno rfl)
        | true =>
          refine codeAny_handlers_suite_as (HandSPX.lands_againZ fl3 fun h4 fl4 up4 => ?_)
          have J4 : Inv X pins σ' H' { s' with heap := h4 } := J.landed nb fl4.1 ((up.trans up3).trans up4) os ag
          obtain ⟨oe4, vs4, he4, hz4, hd4⟩ := fl4.there
          have S4 := J4.suite he4 hd4 na nL nF
          refine store_ok (X := X.suite a ((a, oe4) :: (X.pn ++ pins))) (v := .ref a) S4 hN hi hloc rfl (fun s5 S5 => ?_) (.inr hln)
          refine wpAny_mono ((hsu a oe4 cls d (X.pn ++ pins) hz4 ⟨_, hd4⟩).run [] s5 _ H' _ S5 (hyes rfl a na)) (fun f s6 hsp => ?_) (fun _ _ z => False.elim z)
          cases f with
          | next => obtain ⟨σ6, H6, S6, q6⟩ := hsp; exact gone_ok (S6.unsuite ok) hN hi hln fun s7 J7 => ⟨_, _, J7, q6⟩
          | brk => obtain ⟨σ6, H6, S6, q6⟩ := hsp; exact gone_ok (S6.unsuite ok) hN hi hln fun s7 J7 => ⟨_, _, J7, q6⟩
          | cont => obtain ⟨σ6, H6, S6, q6⟩ := hsp; exact gone_ok (S6.unsuite ok) hN hi hln fun s7 J7 => ⟨_, _, J7, q6⟩
          | ret u => obtain ⟨v6, σ6, H6, S6, r6, q6⟩ := hsp; exact gone_ok (S6.unsuite ok) hN hi hln fun s7 J7 => ⟨_, _, _, J7, r6, q6⟩
    exact go hh w
end
end Wk

set_option Elab.async false
set_option linter.all false
set_option maxRecDepth 100000
set_option maxHeartbeats 4000000
namespace Wk
open PySem PySem.Spec PyProof.Rows L2 Evl
/-- an error class without a field -/
structure ErrN (K : PySem.W.Frag) (mg : Str → Option Value) (x : Str) (C : Addr) : Prop where
  g : mg x = some (.ref C)
  q : PySem.W.excIn K C [.type "ValueError", .type "Exception", .type "BaseException", .type "object"] "ValueError.__new__" = true
  k : PySem.W.keepIn K (.ref C) = true
  b : PySem.W.subIn K (.ref C) (.type "BaseException") = some true
  t : PySem.W.typeIn K (.ref C) = some (.type "type")
theorem pmk_errN {X : Cx} {K : PySem.W.Frag} {mg : Str → Option Value} {x : Str} {C : Addr} {p pos : Pos} (hK : X.K = K) (hm : X.mg = mg) (T : ErrN K mg x C) (hg : Gl X x) (hdb : (x == ("__debug__" : Str)) = false := by decide) :
    PMk X (.Call (.Name x p) [] [] pos) (fun _ H Q => Q (.ref C) none H) := by
  subst hK hm
  intro ps s σ H Q I h
  refine wpAny_Call_Name_kw (ld_glob I hg T.g ?_ hdb)
  refine PySem.W.callWith_K0 I.kIn T.k ?_
  show wpAny _ _ (call (.ref C) []) _ _ _
  obtain ⟨bm, N, nm, qn, bs, hdct, sn, sub, ab, col, dd, k0, k1, k2, k3, k5, mN, hC, hN, hni, T2⟩ := exc_obj I.kIn T.q
  refine wpAny_call_exc_subT PySem.F.excBase_ValueError T2 hC hN hni (fun h' e hm => ?_) (Nat.zero_le _)
  exact mk_of I hm (raises_own T.b T.t) h (I.hok.gone hm.new)
structure CalX (P : Program) (w : World) (K : PySem.W.Frag) (mg : Str → Option Value) (base : Heap) (x : Str) (ps : List Str) (k : Nat) (sp : Sp) : Prop where
  ex : ∃ (f : Addr) (fd : FuncData), FnOk P w K mg base (L2.CX P w) k f fd ps sp ∧ mg x = some (.ref f) ∧ PySem.W.keepIn K (.ref f) = true ∧ Binds K fd ps []
def isStr : PyData → Bool
  | .str _ => true
  | _ => false
theorem kit_str (d : PyData) : kitB (tyN d) "str" = some (isStr d) := by
  cases d with
  | none => exact show kitB "NoneType" "str" = some false by decide +kernel
  | bool b => exact show kitB "bool" "str" = some false by decide +kernel
  | int i => exact show kitB "int" "str" = some false by decide +kernel
  | str z => exact show kitB "str" "str" = some true by decide +kernel
  | list ds => exact show kitB "list" "str" = some false by decide +kernel
  | tuple ds => exact show kitB "tuple" "str" = some false by decide +kernel
  | dict ds => exact show kitB "dict" "str" = some false by decide +kernel
theorem tu_inv {H : Hp} {v : V} {d : PyData} (hd : Dq H v d) (h : isTu d = true) : ∃ (a : Addr) (xs : List V) (ds : List PyData), v = .ref a ∧ d = .tuple ds ∧ H a = some (.tup xs) ∧ DqA H xs ds := by
  cases hd <;> first | (cases h; done) | skip
  rename_i a xs ds h1 h2
  exact ⟨a, xs, ds, rfl, rfl, h1, h2⟩
theorem pss_when {X : Cx} {l : List Stmt} {t : TS} {c : Prop} (h : c → PSs X l t) : PSs X l (fun D σ H => c ∧ t D σ H) := ⟨fun pins s σ H D I hh => (h hh.1).run pins s σ H D I hh.2⟩
theorem call_isiK {X : Cx} {K : PySem.W.Frag} (hK : X.K = K) : CallR X (.builtin "isinstance") (rIsi K) := by
  subst hK
  exact call_isi
theorem call_isEK {X : Cx} {K : PySem.W.Frag} {a D : Addr} {oe : Obj} {pn : List (Addr × Obj)} (hK : X.K = K) (C : ExcC K D) (hz : Zc (.ref D) none oe) (hf : ∃ vs, oe.data = .fields vs) : CallR (X.suite a ((a, oe) :: pn)) (.builtin "isinstance") (rIsE K D a) := by
  subst hK
  exact call_isE C hz hf
theorem all_bad {f : PyData → Bool} {l : List PyData} (h : ∃ x, x ∈ l ∧ f x = false) : l.all f = false := by
  obtain ⟨x, hx, hf⟩ := h
  cases hc : l.all f with
  | false => rfl
  | true =>
    rw [List.all_eq_true.mp hc x hx] at hf
    cases hf
/-- a method that may raise -/
structure MskX (P : Program) (w : World) (K : PySem.W.Frag) (mg : Str → Option Value) (base : Heap) (CS : Addr) (m : Str) (ps : List Str) (n : Nat) (sp : Sp) : Prop where
  ex : ∃ (fM : Addr) (fd : FuncData), Meth K CS m fM ∧ FnOk P w K mg base (L2.CX P w) n fM fd ps sp ∧ Binds K fd ps []
def W0 : WX := fun _ _ _ _ => False
end Wk

set_option Elab.async false
set_option linter.all false
set_option maxRecDepth 100000
set_option maxHeartbeats 4000000
namespace Wk
open PySem PySem.Spec PyProof.Rows L2 Evl
/-! an own error with one field of any name -/
def spXF (C : Addr) (n : Str) : Sp := fun vs H Q _ => ∃ (a : Addr) (y : V), vs = [.ref a, y] ∧ H a = some (exo a C none) ∧ ∀ dx, H dx = none → dx ≠ a → Q .non (upd (upd H dx (exd dx [(n, y)])) a (exo a C (some dx)))
theorem mk_errF {C : Addr} {n : Str} {te : TE} {σ : L2.St} {H : Hp} {y : V} {W : XK} (h : Ev te σ H y) (k : ∀ d H', H d = none → Ex H H' → H' d = some (.xd [(n, y)]) → W (.ref C) (some d) H') : tMkO C (spXF C n) [] (tCons te tNil) σ H W := by
  refine h H (Ex.refl H) _ fun H1 e => ⟨by show 1 ≤ 1000; decide, fun a ha => ?_⟩
  refine ⟨a, y, rfl, upd_same, fun dx hd hne => ⟨rfl, dx, [(n, y)], upd_same, by rw [upd_ne hne, upd_same], ?_, ?_⟩⟩
  · rw [upd_ne hne] at hd
    exact hd
  · have hd1 : H1 dx = none := by rw [upd_ne hne] at hd; exact hd
    refine k dx _ (fresh_back e hd1) (fun b o hb => ?_) upd_same
    have hb1 := e b o hb
    have nb : b ≠ dx := ne_of_none hb1 hd1
    have na : b ≠ a := ne_of_none hb1 ha
    rw [upd_ne nb, del_ne na, upd_ne na, upd_ne nb, upd_ne na]
    exact hb1
structure ErrF (P : Program) (w : World) (K : PySem.W.Frag) (mg : Str → Option Value) (base : Heap) (x : Str) (C : Addr) (n : Str) : Prop where
  g : mg x = some (.ref C)
  oex : OexC K C
  xf : XfC K C
  no : PySem.W.findIn K (.ref C) n = some none
  te : PySem.W.exmOne K (.ref C) (.ref C) = some true
  ini : ∃ (fI : Addr) (fd : FuncData), PySem.W.findIn K (.ref C) "__init__" = some (some (.ref fI)) ∧ PySem.W.typeIn K (.ref fI) = some (.type "function") ∧ FnOk P w K mg base CX0 1 fI fd ["self", n] (spXF C n) ∧ Binds K fd ["self", n] []
theorem pmk_errF {X : Cx} {x n : Str} {C : Addr} {e : Expr} {ta : TA} {p pos : Pos} (T : ErrF X.prog X.w X.K X.mg X.base x C n) (hr : Room 2 X.A) (hg : Gl X x) (ha : PA X [e] ta)
    (hdb : (x == ("__debug__" : Str)) = false := by decide) (he : starEach [e] X.env = (false, eval e X.env) :: starEach [] X.env := by rfl) (hpl : (backTo pos (starEach [] X.env)).any (·.1) = false := by rfl) : PMk X (.Call (.Name x p) [e] [] pos) (tMkO C (spXF C n) [] ta) := by
  obtain ⟨fI, fd, h1, h2, h3, h4⟩ := T.ini
  exact pmk_oex T.oex h1 h2 h3 hr h4 .nil pass0 hg T.g ha hdb he hpl
section
variable {P : Program} {w : World} {K : PySem.W.Frag} {mg : Str → Option Value} {base : Heap} {f : Addr} {fd : FuncData}
abbrev sXN : Stmt := inClass (top 3) 0
abbrev sXB : Stmt := inClass (top 4) 0
theorem scXN : FnScope ["self", "router"] ["self", "router"] (defScope sXN) := ⟨rfl, rfl, rfl, by decide +kernel, rfl, by decide +kernel, by decide +kernel⟩
theorem scXB : FnScope ["self", "part"] ["self", "part"] (defScope sXB) := ⟨rfl, rfl, rfl, by decide +kernel, rfl, by decide +kernel, by decide +kernel⟩
theorem ok_xn {C : Addr} (T : OexC K C) (no : PySem.W.findIn K (.ref C) "router" = some none) (F : FunD K "__init__" "NoRouter.__init__" (defArgs sXN) (defBody sXN) (defScope sXN) [] [] f fd) : FnOk P w K mg base CX0 1 f fd ["self", "router"] (spXF C "router") := by
  refine F.ok scXN (fun vs H Q E h => ?_) (fun cdv A outer s H vs Q E hr h => ?_)
  · obtain ⟨a, y, rfl, _⟩ := h
    rfl
  · obtain ⟨a, y, rfl, ha, k⟩ := h
    exact ⟨_, pss_one (ps_ost (pv 0) (pv 1)), y, rfl, .ref a, rfl, a, C, rfl, T, no, .inl ⟨ha, k⟩⟩
theorem ok_xb {C : Addr} (T : OexC K C) (no : PySem.W.findIn K (.ref C) "part" = some none) (F : FunD K "__init__" "BadFlood.__init__" (defArgs sXB) (defBody sXB) (defScope sXB) [] [] f fd) : FnOk P w K mg base CX0 1 f fd ["self", "part"] (spXF C "part") := by
  refine F.ok scXB (fun vs H Q E h => ?_) (fun cdv A outer s H vs Q E hr h => ?_)
  · obtain ⟨a, y, rfl, _⟩ := h
    rfl
  · obtain ⟨a, y, rfl, ha, k⟩ := h
    exact ⟨_, pss_one (ps_ost (pv 0) (pv 1)), y, rfl, .ref a, rfl, a, C, rfl, T, no, .inl ⟨ha, k⟩⟩
end
/-! isinstance of a caught error with a field -/
def rIsF (K : PySem.W.Frag) (D a dx : Addr) : List V → Hp → VK → Prop := fun xs H Q => ∃ (c : V) (cv : Value) (b : Bool) (fs : List (Str × V)), xs = [.ref a, c] ∧ ClsV c cv ∧ PySem.W.kitOne K (.ref D) cv = some b ∧ H dx = some (.xd fs) ∧ Q (.bl b) H
def rIsFT (K : PySem.W.Frag) (D a dx : Addr) : List V → Hp → VK → Prop := fun xs H Q => ∃ (tp : Addr) (cs : List V) (us : List Value) (b : Bool) (fs : List (Str × V)), xs = [.ref a, .ref tp] ∧ H tp = some (.tup cs) ∧ Paired ClsV cs us ∧ PySem.W.kitAny K (.ref D) us = some b ∧ H dx = some (.xd fs) ∧ Q (.bl b) H
theorem excC_cls {K : PySem.W.Frag} {D : Addr} (C : ExcC K D) : (PySem.W.clsIn K D).isSome = true := by
  obtain ⟨cd, hc, _⟩ := PySem.W.any_some C.hd
  rw [hc]
  rfl
theorem inst_of {X : Cx} {pins : List (Addr × Obj)} {σ : L2.St} {H : Hp} {s : Shared} {a D dx : Addr} {oe : Obj} {pn : List (Addr × Obj)} {fs : List (Str × V)} (I : Inv (X.suite a ((a, oe) :: pn)) pins σ H s) (hz : Zc (.ref D) (some dx) oe) (hf : ∃ vs, oe.data = .fields vs) (ea : H dx = some (.xd fs)) :
    ∃ od, PySem.W.InstAt s.heap a oe D (some od) := by
  obtain ⟨ha, _⟩ := I.pin (a, oe) (List.mem_append_left _ List.mem_cons_self)
  obtain ⟨vs, hd⟩ := hf
  have hx : ObjOk X.prog X.w H s.heap dx (.xd fs) := I.hok dx _ ea
  obtain ⟨mA, hns, hr⟩ := hx
  obtain ⟨od, ho, hl⟩ := lookIn_ns hns
  exact ⟨od, ha, hz.1, by unfold PySem.W.notCls; rw [hd] <;> rfl, by rw [hz.2]; exact ho⟩
theorem call_isF {X : Cx} {K : PySem.W.Frag} {a D dx : Addr} {oe : Obj} {pn : List (Addr × Obj)} (hK : X.K = K) (C : ExcC K D) (hz : Zc (.ref D) (some dx) oe) (hf : ∃ vs, oe.data = .fields vs) : CallR (X.suite a ((a, oe) :: pn)) (.builtin "isinstance") (rIsF K D a dx) := by
  subst hK
  intro pins s σ H xs us Q I r h
  obtain ⟨c, cv, b, fs, rfl, hcv, e, ea, q⟩ := h
  obtain ⟨u1, u2, rfl, r1, r2⟩ := vals2 r
  obtain rfl : u1 = Value.ref a := r1
  have e2 := hcv.eq r2
  subst e2
  obtain ⟨od, J⟩ := inst_of I hz hf ea
  exact PySem.W.kia_one (PySem.W.kitx_exc (excC_cls C) C.hg C.hk C.hs C.ha C.hn C.ht C.hm) I.kIn J e (fun z => nomatch z) fun tk => ⟨.bl b, H, I.kept (t' := tk) fun _ _ z => z, rfl, q⟩
theorem call_isFT {X : Cx} {K : PySem.W.Frag} {a D dx : Addr} {oe : Obj} {pn : List (Addr × Obj)} (hK : X.K = K) (C : ExcC K D) (hz : Zc (.ref D) (some dx) oe) (hf : ∃ vs, oe.data = .fields vs) : CallR (X.suite a ((a, oe) :: pn)) (.builtin "isinstance") (rIsFT K D a dx) := by
  subst hK
  intro pins s σ H xs us Q I r h
  obtain ⟨tp, cs, ws, b, fs, rfl, hT, k, e, ea, q⟩ := h
  obtain ⟨u1, u2, rfl, r1, r2⟩ := vals2 r
  obtain rfl : u1 = Value.ref a := r1
  cases (show u2 = Value.ref tp from r2)
  obtain ⟨od, J⟩ := inst_of I hz hf ea
  obtain ⟨_, its, rv, o, h1, h2, n, h3⟩ := (show ObjOk X.prog X.w H s.heap tp (.tup cs) from I.hok tp _ hT)
  have e3 := ClsV.all k rv
  subst e3
  obtain ⟨oc, od2, dt, sl⟩ := o
  simp only at h2 h3
  subst h2 h3
  exact PySem.W.kia_tup (PySem.W.kitx_exc (excC_cls C) C.hg C.hk C.hs C.ha C.hn C.ht C.hm) I.kIn J h1 e (fun z => nomatch z) fun tk => ⟨.bl b, H, I.kept (t' := tk) fun _ _ z => z, rfl, q⟩
/-! for x in a list or a tuple -/
def iRow (K : PySem.W.Frag) (tl : TE) : TI := fun σ H R => tl σ H fun x H1 => ∃ a, x = .ref a ∧ (((∃ xs, SqL K H1 a xs) ∧ R (Itl K a) H1) ∨ ((∃ xs, SqT K H1 a xs) ∧ R (Itt K a) H1))
theorem pi_row {X : Cx} {tg l : Expr} {tl : TE} (hl : PE X l tl) : PI X tg l (iRow X.K tl) := by
  refine ⟨fun pins s σ H R I h => ?_⟩
  refine thn (hl.run pins s σ H _ I h) fun v s1 ⟨x, H1, I1, r1, q1⟩ => ?_
  obtain ⟨a, e, q1⟩ := q1
  subst e
  cases r1
  rcases q1 with ⟨⟨xs, hq⟩, q⟩ | ⟨⟨xs, hq⟩, q⟩
  · obtain ⟨its, rv, p, hz⟩ := I1.list hq
    refine wpAny_pyIter_list p.isList ?_
    refine ⟨s1.heap.objs.size, [s1.heap.objs.size], _, _, H1, rfl, I1.kept (t' := s1.toks) fun b o e => Heap.get?_push_of_some _ e, turn_list a _, ⟨_, Heap.get?_push_size _ rfl, rfl, rfl⟩, fun b hb => ?_, q⟩
    have e : b = s1.heap.objs.size := by simpa using hb
    subst e
    exact I1.fpOk (Nat.le_refl _) (I1.hok.fresh (Nat.le_refl _))
  · obtain ⟨its, rv, p, hz⟩ := I1.tuple hq
    refine wpAny_pyIter_tuple (show s1.heap.IsTuple a its.toArray from p) ?_
    refine ⟨s1.heap.objs.size, [s1.heap.objs.size], _, _, H1, rfl, I1.kept (t' := s1.toks) fun b o e => Heap.get?_push_of_some _ e, turn_tuple a _, ⟨_, Heap.get?_push_size _ rfl, rfl, rfl⟩, fun b hb => ?_, q⟩
    have e : b = s1.heap.objs.size := by simpa using hb
    subst e
    exact I1.fpOk (Nat.le_refl _) (I1.hok.fresh (Nat.le_refl _))
/-- a row: a list or a tuple -/
def Row (H : Hp) (a : Addr) (xs : List V) : Prop := H a = some (.lst xs) ∨ H a = some (.tup xs)
theorem Row.mono {H H' : Hp} {a : Addr} {xs : List V} (e : Ex H H') (h : Row H a xs) : Row H' a xs := h.imp (e _ _) (e _ _)
section
variable {K : PySem.W.Frag} {σ : L2.St} {H : Hp} {t : TT} {te : TE}
theorem el_lcR {a : Addr} {xs : List V} {tl : TE} {j : Nat} {vs : List Nat} (f : Nat → Bool) (v : Nat → V) (h : Ev tl σ H (.ref a)) (hx : Row H a xs) (hz : xs.length ≤ 40000) (hw : ∀ x, wipe ((wipe σ vs).set j (some x)) vs = wipe σ vs)
    (ht : ∀ (i : Nat) (x : V) H1, Ex H H1 → xs[i]? = some x → EvT t ((wipe σ vs).set j (some x)) H1 (f i)) (he : ∀ (i : Nat) (x : V) H1, Ex H H1 → xs[i]? = some x → f i = true → Ev te ((wipe σ vs).set j (some x)) H1 (v i)) :
    EvL (tLc (iRow K tl) (gName j) t te vs) σ H (given xs.length f v) := fun H0 e Q q => h H0 e _ fun H1 e1 => by
  rcases hx with hx | hx
  · have hx1 := (e.trans e1) _ _ hx
    exact ⟨a, rfl, .inl ⟨⟨xs, sq_of hx1⟩, fun Dl hD => lc_it (walk_list (K := K) (a := a) (xs := xs)) (Cw H1 f v Dl) ⟨hD, Ex.new hD, upd_same⟩ (fun i H' _ p => sq_of (p.2.1 _ _ hx1))
      (fun i x H' H2 hi p y => by
        obtain ⟨rfl, hxi⟩ := y
        exact ⟨hw x, cw_turn p (by omega) (ht i x H1 (e.trans e1) hxi) (fun hf => he i x H1 (e.trans e1) hxi hf)⟩)
      (fun H' p => q Dl H' (fresh_back e1 p.1) (e1.trans p.2.1) p.2.2)⟩⟩
  · have hx1 := (e.trans e1) _ _ hx
    exact ⟨a, rfl, .inr ⟨⟨xs, st_of hx1⟩, fun Dl hD => lc_it (walk_tup (K := K) (a := a) (xs := xs)) (Cw H1 f v Dl) ⟨hD, Ex.new hD, upd_same⟩ (fun i H' _ p => st_of (p.2.1 _ _ hx1))
      (fun i x H' H2 hi p y => by
        obtain ⟨rfl, hxi⟩ := y
        exact ⟨hw x, cw_turn p (by omega) (ht i x H1 (e.trans e1) hxi) (fun hf => he i x H1 (e.trans e1) hxi hf)⟩)
      (fun H' p => q Dl H' (fresh_back e1 p.1) (e1.trans p.2.1) p.2.2)⟩⟩
end
end Wk

set_option Elab.async false
set_option linter.all false
set_option maxRecDepth 100000
set_option maxHeartbeats 4000000
namespace Wk
open PySem PySem.Spec PyProof.Rows L2 Evl
/-! what is a deed, of any datum -/
def betI (a b : Int) (d : PyData) : Bool := isI d && (decide (a ≤ valI d) && decide (valI d ≤ b))
def fdR (n : Nat) (js : List Wy) (s : Str) (r : List PyData) : Bool :=
  r.all isI && (if decide (V.str s = V.str "write") = true then decide (r.length = 2) && (isR (n : Int) (r.getD 0 .none) && betI 0 99 (r.getD 1 .none))
    else if decide (V.str s = V.str "restart") = true then decide (r.length = 1) && isR (n : Int) (r.getD 0 .none)
    else inV (.str s) [.str "pass", .str "lose"] && decide (r.map valI ∈ js))
def isFD (n : Nat) (js : List Wy) (d : PyData) : Bool := match d with
  | .tuple (.str s :: r) => fdR n js s r
  | _ => false
theorem isR_nat {n r : Nat} (h : r < n) : isR (n : Int) (.int (r : Int)) = true := isR_yes h
theorem bet_nat {c : Nat} (h : c < 100) : betI 0 99 (.int (c : Int)) = true := by
  show (true && (decide ((0 : Int) ≤ (c : Int)) && decide ((c : Int) ≤ 99))) = true
  rw [decide_eq_true (show (0 : Int) ≤ (c : Int) by omega), decide_eq_true (show (c : Int) ≤ 99 by omega)]
  rfl
theorem Deed.good {n : Nat} {js : List Wy} {rs : Bool} {x : Deed} (h : x.ok n js rs) : isFD n js x.d = true := by
  cases x with
  | pas a b =>
    show fdR n js "pass" [.int (a : Int), .int (b : Int)] = true
    unfold fdR
    rw [show decide (V.str "pass" = V.str "write") = false by decide +kernel, show decide (V.str "pass" = V.str "restart") = false by decide +kernel, show inV (.str "pass") [.str "pass", .str "lose"] = true by decide +kernel, decide_eq_true (show ([PyData.int (a : Int), .int (b : Int)].map valI) ∈ js from h)]
    rfl
  | los a b =>
    show fdR n js "lose" [.int (a : Int), .int (b : Int)] = true
    unfold fdR
    rw [show decide (V.str "lose" = V.str "write") = false by decide +kernel, show decide (V.str "lose" = V.str "restart") = false by decide +kernel, show inV (.str "lose") [.str "pass", .str "lose"] = true by decide +kernel, decide_eq_true (show ([PyData.int (a : Int), .int (b : Int)].map valI) ∈ js from h)]
    rfl
  | rst r =>
    show fdR n js "restart" [.int (r : Int)] = true
    unfold fdR
    rw [show decide (V.str "restart" = V.str "write") = false by decide +kernel, show decide (V.str "restart" = V.str "restart") = true by decide +kernel]
    show (true && (true && isR (n : Int) (.int (r : Int)))) = true
    rw [isR_nat h.1]
    rfl
  | wri r c =>
    show fdR n js "write" [.int (r : Int), .int (c : Int)] = true
    unfold fdR
    rw [show decide (V.str "write" = V.str "write") = true by decide +kernel]
    show (true && (true && (isR (n : Int) (.int (r : Int)) && betI 0 99 (.int (c : Int))))) = true
    rw [isR_nat h.1, bet_nat h.2]
    rfl
theorem DqA.nth {G : Hp} {ds : List PyData} {vs : List V} (h : DqA G vs ds) {i : Nat} (hi : i < ds.length) : ∃ v, vs[i]? = some v ∧ Dq G v (ds.getD i .none) := by
  obtain ⟨v, h1, h2⟩ := h.at (i := i) (d := ds[i]) (List.getElem?_eq_getElem hi)
  refine ⟨v, h1, ?_⟩
  rw [List.getD_eq_getElem?_getD, List.getElem?_eq_getElem hi]
  exact h2
theorem DqA.all_int {G : Hp} : ∀ {ds : List PyData} {vs : List V}, DqA G vs ds → ds.all isI = true → vs = (ds.map valI).map V.int
  | [], _, .nil, _ => rfl
  | d :: ds, _, .cons h t, e => by
    rw [List.all_cons, Bool.and_eq_true] at e
    have e1 := isI_eq e.1
    rw [e1] at h
    cases h
    rw [t.all_int e.2, List.map_cons, List.map_cons]
section
variable {P : Program} {w : World} {K : PySem.W.Frag} {mg : Str → Option Value} {base : Heap} {f : Addr} {fd : FuncData}
/-! is_flood_deed -/
abbrev spFD : Sp := spP fun H vs z => ∃ (n : Nat) (la : Addr) (v : V) (d : PyData) (us : List V) (js : List Wy), vs = [.int (n : Int), .ref la, v] ∧ H la = some (.lst us) ∧ DqA H us (js.map wd) ∧ Dq H v d ∧ (itemsT d).length ≤ 1000 ∧ z = .bl (isFD n js d)
abbrev sFD : Stmt := top 24
abbrev nFD : List Str := ["size", "arrows", "thing", "item"]
theorem scFD : FnScope nFD ["size", "arrows", "thing"] (defScope sFD) := ⟨rfl, rfl, rfl, by decide +kernel, rfl, by decide +kernel, by decide +kernel⟩
theorem fd_no {n : Nat} {js : List Wy} {d : PyData} (h : isTu d = false) : isFD n js d = false := by
  cases d <;> first | rfl | cases h
theorem fd_nstr {n : Nat} {js : List Wy} {d : PyData} {ds : List PyData} (h : isStr d = false) : isFD n js (.tuple (d :: ds)) = false := by
  cases d <;> first | rfl | cases h
theorem str_inv {d : PyData} (h : isStr d = true) : ∃ s, d = .str s := by
  cases d <;> first | (cases h; done) | skip
  exact ⟨_, rfl⟩
theorem ok_fd (B : Bl mg) {t99 : Tok} (hM : mg "MOST_CONTENT" = some (.int 99 t99)) (CI : Cal P w K mg base "is_integer" ["thing"] 1 spIsInt) (CB : Cal P w K mg base "is_between" ["least", "most", "thing"] 2 spBetween) (CR : Cal P w K mg base "is_router" ["size", "thing"] 3 spRouter) (F : FnP K "is_flood_deed" sFD f fd) : FnOk P w K mg base CX0 4 f fd ["size", "arrows", "thing"] spFD := by
  refine F.ok scFD (fun vs H Q E h => ?_) (fun cdv A outer s H vs Q E hr h => ?_)
  · obtain ⟨z, ⟨n, la, v, d, us, js, rfl, _⟩, _⟩ := h
    rfl
  · obtain ⟨z, ⟨n, la, v, d, us, js, rfl, hla, hus, hd, hlen, rfl⟩, k⟩ := h
    have hu : (A.deeper (envOfC "is_flood_deed" (defScope sFD) s.heap.objs.size f cdv)).units + 65 < cLine := by have := hr.un; omega
    refine ⟨_, pss_cons (ps_if (PW.pt (pw_or (pt_not (pt_val (pe_callB call_isi (by rfl) B.isi boot_isinstance (pa_cons (pv 2) (pa_cons (pe_bltn (v := .ty "tuple") (by rfl) B.tuple PyProof.Rows.boot_tuple rfl) pa_nil)))))
        (pw_or (pt_cmpR op_eq (pe_callB call_len_seq (by rfl) B.len PySem.boot_len (pa_cons (pv 2) pa_nil)) pe_int (nomark _)) (pw_or1 (pt_not (pt_val (pe_callB call_isi (by rfl) B.isi boot_isinstance (pa_cons (pe_ix ix_tup (pv 2) pe_int (fun _ _ => rfl)) (pa_cons (pe_bltn (v := .ty "str") (by rfl) B.str PyProof.Rows.boot_str rfl) pa_nil))))))))) (pss_one (ps_ret pe_bl)) pss_nil)
      (pss_cons (ps_if (pt_not (pt_val (pe_callB (cr_all rfl) (by rfl) B.all boot_all (pa_cons
          (pe_lc (own := [("item", 3)]) (g := gName 3) (tt := tYes) (te := tCall spIsInt [] E0 (tCons (tVar 3) tNil)) rfl scFD.nd (pi_tup (pe_slice sl_tupA (pv 2) (po_some pe_int) po_none)) (blkOk_by (N := nFD) (sc := defScope sFD) (by decide +kernel))
            (fun _ _ _ _ _ => pg_name (i := 3) scFD.nd rfl (Or.inl rfl)) (fun _ _ _ _ _ => pts_nil) (fun _ _ _ _ _ => pe_cal CI hr (by rfl) (pa_cons (pv 3) pa_nil))) pa_nil)))) (pss_one (ps_ret pe_bl)) pss_nil)
      (pss_cons (ps_if (pt_cmpR op_eq (pe_ix ix_tup (pv 2) pe_int (fun _ _ => rfl)) pe_str (nomark _)) (pss_one (ps_ret (pe_and (pe_cmpR op_eq (pe_callB call_len_seq (by rfl) B.len PySem.boot_len (pa_cons (pv 2) pa_nil)) pe_int (nomark _))
          (pe_and (pe_cal CR hr (by rfl) (pa_cons (pv 0) (pa_cons (pe_ix ix_tup (pv 2) pe_int (fun _ _ => rfl)) pa_nil))) (pe_one (pe_cal CB hr (by rfl) (pa_cons pe_int (pa_cons (pe_glob (v := .int 99) (by rfl) hM ⟨_, rfl⟩) (pa_cons (pe_ix ix_tup (pv 2) pe_int (fun _ _ => rfl)) pa_nil))))))))) pss_nil)
      (pss_cons (ps_if (pt_cmpR op_eq (pe_ix ix_tup (pv 2) pe_int (fun _ _ => rfl)) pe_str (nomark _)) (pss_one (ps_ret (pe_and (pe_cmpR op_eq (pe_callB call_len_seq (by rfl) B.len PySem.boot_len (pa_cons (pv 2) pa_nil)) pe_int (nomark _))
          (pe_one (pe_cal CR hr (by rfl) (pa_cons (pv 0) (pa_cons (pe_ix ix_tup (pv 2) pe_int (fun _ _ => rfl)) pa_nil))))))) pss_nil)
      (pss_one (ps_ret (pe_and (pe_cmpR op_in_seq (pe_ix ix_tup (pv 2) pe_int (fun _ _ => rfl)) (pe_tup (pa_cons pe_str (pa_cons pe_str pa_nil))) rfl) (pe_one (pe_cmpR (op_inD hu) (pe_slice sl_tupA (pv 2) (po_some pe_int) po_none) (pv 1) rfl)))))))), ?_⟩
    have v2 : ∀ {H1 : Hp}, Ev (tVar 2) (start nFD [.int (n : Int), .ref la, v]) H1 v := ev_var rfl
    have v0 : ∀ {H1 : Hp}, Ev (tVar 0) (start nFD [.int (n : Int), .ref la, v]) H1 (.int (n : Int)) := ev_var rfl
    have i1 : EvT (tNot (tB (tCB (rIsi K) (tCons (tVar 2) (tCons (tC (.ty "tuple")) tNil))))) (start nFD [.int (n : Int), .ref la, v]) H (!isTu d) := et_not (et_B (ev_isi (K := K) v2 hd (kit_tup d)))
    cases ht : isTu d with
    | false =>
      rw [ht] at i1
      refine q_when (et_or (b := true) i1 fun z => by cases z) (fun _ H1 e1 => ?_) (fun z => by cases z)
      rw [fd_no ht] at k
      exact k H1 e1
    | true =>
    rw [ht] at i1
    obtain ⟨t, xs, ds, rfl, rfl, hT, hxs⟩ := tu_inv hd ht
    have hl := hxs.length
    have hlen : ds.length ≤ 1000 := hlen
    have ln : ∀ {H1 : Hp}, Ex H H1 → Ev (tCB (rLenS K) (tCons (tVar 2) tNil)) (start nFD [.int (n : Int), .ref la, .ref t]) H1 (.int (xs.length : Int)) := fun e => ev_lenT v2 (st_of (e _ _ hT))
    cases ds with
    | nil =>
      have hx0 : xs = [] := by cases hxs; rfl
      subst hx0
      have l0 := et_test (ev_op (r := rEq) (ln (Ex.refl H)) (ev_c (v := .int 0)) (rv_eq rfl))
      rw [show decide (V.int (([] : List V).length : Int) = V.int 0) = true from decide_eq_true rfl] at l0
      refine q_when (et_or (b := true) i1 fun _ => et_or (b := true) l0 fun z => by cases z) (fun _ H1 e1 => ?_) (fun z => by cases z)
      exact k H1 e1
    | cons d0 r =>
    obtain ⟨x0, xr, rfl, hx0, hxr⟩ : ∃ x0 xr, xs = x0 :: xr ∧ Dq H x0 d0 ∧ DqA H xr r := by
      cases hxs with
      | cons a b => exact ⟨_, _, rfl, a, b⟩
    have hlr := hxr.length
    have w0 : ∀ {H1 : Hp}, Ex H H1 → Ev (tOp (rIxT K) (tVar 2) (tC (.int 0))) (start nFD [.int (n : Int), .ref la, .ref t]) H1 x0 := fun e => ev_op v2 ev_c (rv_ixT (i := 0) (st_of (e _ _ hT)) (atI_nat (j := 0) rfl))
    have l0 := et_test (ev_op (r := rEq) (ln (Ex.refl H)) (ev_c (v := .int 0)) (rv_eq rfl))
    rw [show decide (V.int ((x0 :: xr).length : Int) = V.int 0) = false from decide_eq_false (fun z => by injection z with z; rw [List.length_cons] at z; omega)] at l0
    have i2 := et_not (et_B (ev_isi (K := K) (w0 (Ex.refl H)) hx0 (kit_str d0)))
    cases hs : isStr d0 with
    | false =>
      rw [hs] at i2
      refine q_when (et_or (b := true) i1 fun _ => et_or (b := true) l0 fun _ => i2) (fun _ H1 e1 => ?_) (fun z => by cases z)
      rw [fd_nstr hs] at k
      exact k H1 e1
    | true =>
    rw [hs] at i2
    refine q_when (et_or (b := false) i1 fun _ => et_or (b := false) l0 fun _ => i2) (fun z => by cases z) (fun _ H1 e1 => ?_)
    obtain ⟨sw, rfl⟩ := str_inv hs
    obtain rfl : x0 = .str sw := by cases hx0; rfl
    have sl : ∀ {H1 : Hp}, Ex H H1 → EvS (tSl (rSlA K) (tVar 2) (tPart (tC (.int 1))) tNoPart) (start nFD [.int (n : Int), .ref la, .ref t]) H1 xr := fun {H1} e => by
      have z := es_sl (K := K) (te := tVar 2) (σ := start nFD [.int (n : Int), .ref la, .ref t]) (H := H1) (lo := some ((1 : Nat) : Int)) (hi := none) v2 (eo_some ev_c) eo_none (e _ _ hT)
      rw [cut_from _ 1 (by rw [List.length_cons]; omega)] at z
      exact z
    have hrl : r.length ≤ 1000 := by rw [List.length_cons] at hlen; omega
    have cint : Ev (tCB (rAll K) (tCons (tLc (iTup K (tSl (rSlA K) (tVar 2) (tPart (tC (.int 1))) tNoPart)) (gName 3) tYes (tCall spIsInt [] E0 (tCons (tVar 3) tNil)) [3]) tNil)) (start nFD [.int (n : Int), .ref la, .ref t]) H1 (.bl (r.all isI)) := by
      have q := el_lcS (K := K) (te := tCall spIsInt [] E0 (tCons (tVar 3) tNil)) (j := 3) (vs := [3]) (fun _ => true) (fun i => .bl (((r[i]?).map isI).getD false)) (sl e1) (by omega) (fun x => rfl) (fun _ _ _ _ _ => et_yes) fun i v H2 e2 hv _ => by
        obtain ⟨d, hd1, hd2⟩ := hxr.get hv
        rw [hd1]
        exact ev_call (ea_cons (ev_var rfl) ea_nil) (spP_v fun H3 e3 => ⟨_, d, rfl, (hd2.mono (e1.trans e2)).mono e3, rfl⟩)
      rw [given_all, hlr] at q
      have q2 := ev_allL (K := K) (bs := (List.range r.length).map fun i => ((r[i]?).map isI).getD false) (by rw [List.map_map]; exact q)
      rw [all_get] at q2
      exact q2
    show tSeq _ _ _ _ _
    cases hai : r.all isI with
    | false =>
      rw [hai] at cint
      refine q_when (b := !false) (et_not (et_B cint)) (fun _ H2 e2 => ?_) (fun z => by cases z)
      have e : isFD n js (.tuple (.str sw :: r)) = false := by
        show fdR n js sw r = false
        unfold fdR
        rw [hai]
        rfl
      rw [e] at k
      exact k H2 (e1.trans e2)
    | true =>
    rw [hai] at cint
    refine q_when (b := !true) (et_not (et_B cint)) (fun z => by cases z) fun _ H2 e2 => ?_
    have e12 := e1.trans e2
    have hxi := hxr.all_int hai
    have ek : isFD n js (.tuple (.str sw :: r)) = (if decide (V.str sw = V.str "write") = true then decide (r.length = 2) && (isR (n : Int) (r.getD 0 .none) && betI 0 99 (r.getD 1 .none))
      else if decide (V.str sw = V.str "restart") = true then decide (r.length = 1) && isR (n : Int) (r.getD 0 .none)
      else inV (.str sw) [.str "pass", .str "lose"] && decide (r.map valI ∈ js)) := by
      show fdR n js sw r = _
      unfold fdR
      rw [hai]
      rfl
    rw [ek] at k
    have lnN : ∀ (m : Nat) {H1 : Hp}, Ex H H1 → Ev (tOp rEq (tCB (rLenS K) (tCons (tVar 2) tNil)) (tC (.int ((m + 1 : Nat) : Int)))) (start nFD [.int (n : Int), .ref la, .ref t]) H1 (.bl (decide (r.length = m))) := fun m {H1} e => by
      have z := ev_op (r := rEq) (ln e) (ev_c (v := .int ((m + 1 : Nat) : Int))) (rv_eq rfl)
      have e2 : decide (V.int ((V.str sw :: xr).length : Int) = V.int ((m + 1 : Nat) : Int)) = decide (r.length = m) := by
        rw [decide_eq_decide]
        constructor
        · intro h
          injection h with h
          rw [List.length_cons] at h
          omega
        · intro h
          rw [List.length_cons, hlr, h]
      rw [e2] at z
      exact z
    have at_ : ∀ (i : Nat) {H1 : Hp}, Ex H H1 → i < r.length → ∃ x, Ev (tOp (rIxT K) (tVar 2) (tC (.int ((i + 1 : Nat) : Int)))) (start nFD [.int (n : Int), .ref la, .ref t]) H1 x ∧ Dq H x (r.getD i .none) := fun i {H1} e hi => by
      obtain ⟨x, hx1, hx2⟩ := hxr.nth hi
      exact ⟨x, ev_op v2 ev_c (rv_ixT (st_of (e _ _ hT)) (atI_nat (j := i + 1) hx1)), hx2⟩
    have tw := et_test (ev_op (r := rEq) (w0 e12) ev_c (rv_eq (y := .str "write") rfl))
    refine q_when tw (fun hb H3 e3 => ?_) (fun hb H3 e3 => ?_)
    · rw [if_pos hb] at k
      have e03 := e12.trans e3
      refine s_ret (ev_andV (lnN 2 e03) fun h2 => ?_) fun H4 e4 => k H4 (e03.trans e4)
      have h2 := of_decide_eq_true h2
      obtain ⟨x1, hx1, hd1⟩ := at_ 0 e03 (by omega)
      obtain ⟨x2, hx2, hd2⟩ := at_ 1 e03 (by omega)
      refine ev_andV (ev_call (ea_cons v0 (ea_cons hx1 ea_nil)) (spP_v fun H1 e => ⟨(n : Int), x1, _, rfl, (hd1.mono e03).mono e, rfl⟩)) fun _ => ?_
      exact ev_call (ea_cons ev_c (ea_cons ev_c (ea_cons hx2 ea_nil))) (spP_v fun H1 e => ⟨0, 99, x2, _, rfl, (hd2.mono e03).mono e, rfl⟩)
    rw [if_neg (by rw [hb]; exact Bool.false_ne_true)] at k
    have e03 := e12.trans e3
    have tr := et_test (ev_op (r := rEq) (w0 e03) ev_c (rv_eq (y := .str "restart") rfl))
    refine q_when tr (fun hb2 H4 e4 => ?_) (fun hb2 H4 e4 => ?_)
    · rw [if_pos hb2] at k
      have e04 := e03.trans e4
      refine s_ret (ev_andV (lnN 1 e04) fun h2 => ?_) fun H5 e5 => k H5 (e04.trans e5)
      have h2 := of_decide_eq_true h2
      obtain ⟨x1, hx1, hd1⟩ := at_ 0 e04 (by omega)
      exact ev_call (ea_cons v0 (ea_cons hx1 ea_nil)) (spP_v fun H1 e => ⟨(n : Int), x1, _, rfl, (hd1.mono e04).mono e, rfl⟩)
    rw [if_neg (by rw [hb2]; exact Bool.false_ne_true)] at k
    have e04 := e03.trans e4
    have c1 := ev_inS (K := K) (w0 e04) (es_tup (xs := [.str "pass", .str "lose"]) (ea_cons ev_c (ea_cons ev_c ea_nil)) (by show 2 ≤ 100000; decide)) rfl rfl
    have sl4 := sl e04
    rw [hxi] at sl4
    have c2 := ev_inDw (K := K) (tb := tVar 1) sl4 (ev_var rfl) (e04 _ _ hla) (hus.mono e04)
    exact s_ret (ev_andV c1 fun _ => c2) fun H5 e5 => k H5 (e04.trans e5)
end
end Wk

set_option Elab.async false
set_option linter.all false
set_option maxRecDepth 100000
set_option maxHeartbeats 4000000
namespace Wk
open PySem PySem.Spec PyProof.Rows L2 Evl
/-! which things are no links, no size -/
def isLi : PyData → Bool
  | .list _ => true
  | _ => false
theorem kit_lst (d : PyData) : kitB (tyN d) "list" = some (isLi d) := by
  cases d with
  | none => exact show kitB "NoneType" "list" = some false by decide +kernel
  | bool b => exact show kitB "bool" "list" = some false by decide +kernel
  | int i => exact show kitB "int" "list" = some false by decide +kernel
  | str z => exact show kitB "str" "list" = some false by decide +kernel
  | list ds => exact show kitB "list" "list" = some true by decide +kernel
  | tuple ds => exact show kitB "tuple" "list" = some false by decide +kernel
  | dict ds => exact show kitB "dict" "list" = some false by decide +kernel
def itemsR : PyData → List PyData
  | .tuple ds => ds
  | .list ds => ds
  | _ => []
def rowD (d : PyData) : Bool := isLi d || isTu d
def rpD (n : Int) (d : PyData) : Bool := (isTu d && decide (V.int ((itemsT d).length : Int) = V.int 2)) && (isR n ((itemsT d).getD 0 .none) && isR n ((itemsT d).getD 1 .none))
def prD (n : Int) (d : PyData) : Bool := rpD n d && !decide (V.int (valI ((itemsT d).getD 0 .none)) = V.int (valI ((itemsT d).getD 1 .none)))
def unlD (n : Int) (d : PyData) : Bool := rowD d && (itemsR d).all (prD n)
def szB (d : PyData) : Bool := isI d && (decide (1 ≤ valI d) && decide (valI d ≤ 8))
def fdue (d1 d2 : PyData) : Option Str := if szB d1 = true then (if unlD (valI d1) d2 = true then none else some "links") else some "size"
/-- data, or some dict -/
def Tg (H : Hp) (v : V) (d : PyData) : Prop := Dq H v d ∨ (d = .dict [] ∧ ∃ (a : Addr) (kvs : List (List L2.Key × V)), v = .ref a ∧ H a = some (.dT kvs))
theorem Tg.mono {H H' : Hp} {v : V} {d : PyData} (e : Ex H H') (h : Tg H v d) : Tg H' v d := h.imp (fun h => h.mono e) fun ⟨h1, a, kvs, h2, h3⟩ => ⟨h1, a, kvs, h2, e _ _ h3⟩
theorem Tg.ty {K : PySem.W.Frag} {H : Hp} {v : V} {d : PyData} (h : Tg H v d) : TyX K H v (.type (tyN d)) := by
  rcases h with h | ⟨rfl, a, kvs, rfl, h⟩
  · exact h.ty
  · exact .base (.dT h)
theorem rp_inv {H : Hp} {n : Int} {v : V} {d : PyData} (hd : Dq H v d) (h : rpD n d = true) : ∃ (t : Addr) (i j : Int), v = .ref t ∧ d = .tuple [.int i, .int j] ∧ H t = some (.tup [.int i, .int j]) := by
  unfold rpD at h
  simp only [Bool.and_eq_true, decide_eq_true_eq] at h
  obtain ⟨⟨ht, hl⟩, h0, h1⟩ := h
  obtain ⟨t, xs, ds, rfl, rfl, hT, hxs⟩ := tu_inv hd ht
  have hl : ds.length = 2 := by injection hl with hl; have : ((itemsT (.tuple ds)).length : Int) = 2 := hl; simp [itemsT] at this; omega
  match ds, hl, hxs, h0, h1 with
  | [d0, d1], _, hxs, h0, h1 =>
    have i0 : isI d0 = true := by
      have : isR n d0 = true := h0
      unfold isR at this
      simp only [Bool.and_eq_true] at this
      exact this.1
    have i1 : isI d1 = true := by
      have : isR n d1 = true := h1
      unfold isR at this
      simp only [Bool.and_eq_true] at this
      exact this.1
    have e0 := isI_eq i0
    have e1 := isI_eq i1
    rw [e0, e1] at hxs
    cases hxs with
    | cons a b =>
      cases a
      cases b with
      | cons a b =>
        cases a
        cases b
        refine ⟨t, valI d0, valI d1, rfl, ?_, hT⟩
        rw [← e0, ← e1]
theorem row_inv {H : Hp} {v : V} {d : PyData} (h : Tg H v d) (hr : rowD d = true) : ∃ (a : Addr) (xs : List V), v = .ref a ∧ Row H a xs ∧ DqA H xs (itemsR d) := by
  rcases h with h | ⟨rfl, _⟩
  · cases h <;> first | (cases hr; done) | skip
    · rename_i a xs ds h1 h2
      exact ⟨a, xs, rfl, .inl h1, h2⟩
    · rename_i a xs ds h1 h2
      exact ⟨a, xs, rfl, .inr h1, h2⟩
  · cases hr
section
variable {K : PySem.W.Frag} {σ : L2.St} {H : Hp} {ta : TE}
theorem ev_isiTg {v : V} {d : PyData} {n m : String} {b c : Bool} (h : Ev ta σ H v) (hd : Tg H v d) (h1 : kitB (tyN d) n = some b) (h2 : kitB (tyN d) m = some c) :
    Ev (tCB (rIsiT K) (tCons ta (tCons (tTup (tCons (tC (.ty n)) (tCons (tC (.ty m)) tNil))) tNil))) σ H (.bl (b || c)) := fun H1 e Q q =>
  h H1 e _ fun H2 e2 => ⟨by show 2 ≤ sizeLine; decide, fun p hp => ⟨v, p, [.ty n, .ty m], .type (tyN d), [.type n, .type m], b || c, rfl, upd_same, .cons (.ty n) (.cons (.ty m) .nil), (hd.mono ((e.trans e2).trans (Ex.new hp))).ty,
    kitAny_cons (kit_ty h1) (fun hb => kitAny_cons (kit_ty h2) (fun hc => by rw [hb, hc]; exact kitAny_nil) (fun hc => by rw [hc]; simp)) (fun hb => by rw [hb]; rfl), q _ (e2.trans (Ex.new hp))⟩⟩
end
section
variable {P : Program} {w : World} {K : PySem.W.Frag} {mg : Str → Option Value} {base : Heap} {f : Addr} {fd : FuncData}
abbrev spIsRow2 : Sp := spP fun H vs z => ∃ (v : V) (d : PyData), vs = [v] ∧ Tg H v d ∧ z = .bl (rowD d)
theorem ok_isRow2 (B : Bl mg) (F : FnP K "is_row" sIsRow f fd) : FnOk P w K mg base CX0 1 f fd ["thing"] spIsRow2 := by
  refine F.ok scIsRow (fun vs H Q E h => ?_) (fun cdv A outer s H vs Q E hr h => ?_)
  · obtain ⟨z, ⟨v, d, rfl, _⟩, _⟩ := h
    rfl
  · obtain ⟨z, ⟨v, d, rfl, hv, rfl⟩, k⟩ := h
    exact ⟨_, pss_one (ps_ret (pe_callB call_isiT (by rfl) B.isi boot_isinstance (pa_cons (pv 0) (pa_cons (pe_tup (pa_cons (pe_bltn (v := .ty "list") (by rfl) B.list PyProof.Rows.boot_list rfl) (pa_cons (pe_bltn (v := .ty "tuple") (by rfl) B.tuple PyProof.Rows.boot_tuple rfl) pa_nil))) pa_nil)))),
      s_ret (ev_isiTg (ev_var rfl) hv (kit_lst d) (kit_tup d)) k⟩
abbrev spTupOf2 : Sp := spP fun H vs z => ∃ (m : Int) (v : V) (d : PyData), vs = [.int m, v] ∧ Dq H v d ∧ z = .bl (isTu d && decide (V.int ((itemsT d).length : Int) = V.int m))
theorem ok_tupOf2 (B : Bl mg) (F : FnP K "is_tuple_of" sTupOf f fd) : FnOk P w K mg base CX0 1 f fd ["many", "thing"] spTupOf2 := by
  refine F.ok scTupOf (fun vs H Q E h => ?_) (fun cdv A outer s H vs Q E hr h => ?_)
  · obtain ⟨z, ⟨m, v, d, rfl, _⟩, _⟩ := h
    rfl
  · obtain ⟨z, ⟨m, v, d, rfl, hv, rfl⟩, k⟩ := h
    refine ⟨_, pss_one (ps_ret (pe_and (pe_callB call_isi (by rfl) B.isi boot_isinstance (pa_cons (pv 1) (pa_cons (pe_bltn (v := .ty "tuple") (by rfl) B.tuple PyProof.Rows.boot_tuple rfl) pa_nil)))
      (pe_one (pe_cmpR op_eq (pe_callB call_len_seq (by rfl) B.len PySem.boot_len (pa_cons (pv 1) pa_nil)) (pv 0) (nomark _))))), ?_⟩
    refine s_ret (ev_andV (ev_isi (K := K) (ev_var rfl) hv (kit_tup d)) fun ht => ?_) k
    obtain ⟨t, xs, ds, rfl, rfl, hT, hxs⟩ := tu_inv hv ht
    have v1 : Ev (tVar 1) (start ["many", "thing"] [.int m, .ref t]) H (.ref t) := ev_var rfl
    have v0 : Ev (tVar 0) (start ["many", "thing"] [.int m, .ref t]) H (.int m) := ev_var rfl
    have z := ev_op (r := rEq) (ev_lenT (K := K) v1 (st_of hT)) v0 (rv_eq rfl)
    rw [hxs.length] at z
    exact z
abbrev spRPair2 : Sp := spP fun H vs z => ∃ (n : Int) (v : V) (d : PyData), vs = [.int n, v] ∧ Dq H v d ∧ z = .bl (rpD n d)
theorem ok_rPair2 (CT : Cal P w K mg base "is_tuple_of" ["many", "thing"] 1 spTupOf2) (CR : Cal P w K mg base "is_router" ["size", "thing"] 3 spRouter) (F : FnP K "is_router_pair" sRPair f fd) : FnOk P w K mg base CX0 4 f fd ["size", "thing"] spRPair2 := by
  refine F.ok scRPair (fun vs H Q E h => ?_) (fun cdv A outer s H vs Q E hr h => ?_)
  · obtain ⟨z, ⟨n, v, d, rfl, _⟩, _⟩ := h
    rfl
  · obtain ⟨z, ⟨n, v, d, rfl, hv, rfl⟩, k⟩ := h
    refine ⟨_, pss_one (ps_ret (pe_and (pe_cal CT hr (by rfl) (pa_cons pe_int (pa_cons (pv 1) pa_nil))) (pe_and (pe_cal CR hr (by rfl) (pa_cons (pv 0) (pa_cons (pe_ix ix_tup (pv 1) pe_int (fun _ _ => rfl)) pa_nil)))
      (pe_one (pe_cal CR hr (by rfl) (pa_cons (pv 0) (pa_cons (pe_ix ix_tup (pv 1) pe_int (fun _ _ => rfl)) pa_nil))))))), ?_⟩
    refine s_ret (ev_andV (ev_call (ea_cons ev_c (ea_cons (ev_var rfl) ea_nil)) (spP_v fun H1 e => ⟨2, v, d, rfl, hv.mono e, rfl⟩)) fun ht => ?_) k
    rw [Bool.and_eq_true] at ht
    obtain ⟨ht, hl⟩ := ht
    obtain ⟨t, xs, ds, rfl, rfl, hT, hxs⟩ := tu_inv hv ht
    have hl := of_decide_eq_true hl
    have hl : ds.length = 2 := by injection hl with hl; have : ((itemsT (.tuple ds)).length : Int) = 2 := hl; simp [itemsT] at this; omega
    obtain ⟨x0, hx0, hd0⟩ := hxs.nth (i := 0) (by omega)
    obtain ⟨x1, hx1, hd1⟩ := hxs.nth (i := 1) (by omega)
    have v1 : Ev (tVar 1) (start ["size", "thing"] [.int n, .ref t]) H (.ref t) := ev_var rfl
    refine ev_andV (ev_call (ea_cons (ev_var rfl) (ea_cons (ev_op v1 ev_c (rv_ixT (st_of hT) (atI_nat (j := 0) hx0))) ea_nil)) (spP_v fun H1 e => ⟨n, x0, _, rfl, hd0.mono e, rfl⟩)) fun _ => ?_
    exact ev_call (ea_cons (ev_var rfl) (ea_cons (ev_op v1 ev_c (rv_ixT (st_of hT) (atI_nat (j := 1) hx1))) ea_nil)) (spP_v fun H1 e => ⟨n, x1, _, rfl, hd1.mono e, rfl⟩)
abbrev spUnl2 : Sp := spP fun H vs z => ∃ (n : Int) (v : V) (d : PyData), vs = [.int n, v] ∧ Tg H v d ∧ (itemsR d).length ≤ 1000 ∧ z = .bl (unlD n d)
theorem ok_unl2 (B : Bl mg) (CI : Cal P w K mg base "is_row" ["thing"] 1 spIsRow2) (CP : Cal P w K mg base "is_router_pair" ["size", "thing"] 4 spRPair2) (F : FnP K "is_row_of_unlike_pairs" sUnl f fd) : FnOk P w K mg base CX0 5 f fd ["size", "thing"] spUnl2 := by
  refine F.ok scUnl (fun vs H Q E h => ?_) (fun cdv A outer s H vs Q E hr h => ?_)
  · obtain ⟨z, ⟨n, v, d, rfl, _⟩, _⟩ := h
    rfl
  · obtain ⟨z, ⟨n, v, d, rfl, hv, hl, rfl⟩, k⟩ := h
    refine ⟨_, pss_one (ps_ret (pe_and (pe_cal CI hr (by rfl) (pa_cons (pv 1) pa_nil)) (pe_one (pe_callB (cr_all rfl) (by rfl) B.all boot_all (pa_cons
      (pe_lc (own := [("pair", 2)]) (g := gName 2) (tt := tYes) (te := tAndV (tCall spRPair2 [] E0 (tCons (tVar 0) (tCons (tVar 2) tNil))) (tOp rNe (tOp (rIxT K) (tVar 2) (tC (.int 0))) (tOp (rIxT K) (tVar 2) (tC (.int 1))))) rfl scUnl.nd (pi_row (pv 1)) (blkOk_by (N := nUnl) (sc := defScope sUnl) (by decide +kernel))
        (fun _ _ _ _ _ => pg_name (i := 2) scUnl.nd rfl (Or.inl rfl)) (fun _ _ _ _ _ => pts_nil) (fun _ _ _ _ _ => pe_and (pe_cal CP hr (by rfl) (pa_cons (pv 0) (pa_cons (pv 2) pa_nil))) (pe_one (pe_cmpR op_ne (pe_ix ix_tup (pv 2) pe_int (fun _ _ => rfl)) (pe_ix ix_tup (pv 2) pe_int (fun _ _ => rfl)) rfl)))) pa_nil))))), ?_⟩
    refine s_ret (ev_andV (ev_call (ea_cons (ev_var rfl) ea_nil) (spP_v fun H1 e => ⟨v, d, rfl, hv.mono e, rfl⟩)) fun hrow => ?_) k
    obtain ⟨a, xs, rfl, hR, hxs⟩ := row_inv hv hrow
    have hxl := hxs.length
    have q := el_lcR (K := K) (te := tAndV (tCall spRPair2 [] E0 (tCons (tVar 0) (tCons (tVar 2) tNil))) (tOp rNe (tOp (rIxT K) (tVar 2) (tC (.int 0))) (tOp (rIxT K) (tVar 2) (tC (.int 1))))) (tl := tVar 1) (σ := start nUnl [.int n, .ref a]) (j := 2) (vs := [2]) (fun _ => true) (fun i => .bl ((((itemsR d)[i]?).map (prD n)).getD false)) (ev_var rfl) hR (by omega) (fun x => rfl) (fun _ _ _ _ _ => et_yes) fun i x H1 e hx _ => by
      obtain ⟨dx, hd1, hd2⟩ := hxs.get hx
      rw [hd1]
      have hd3 := hd2.mono e
      refine ev_andV (ev_call (ea_cons (ev_var rfl) (ea_cons (ev_var rfl) ea_nil)) (spP_v fun H2 e2 => ⟨n, x, dx, rfl, hd3.mono e2, rfl⟩)) fun hrp => ?_
      obtain ⟨t, i0, i1, rfl, rfl, hT⟩ := rp_inv hd3 hrp
      exact ev_op (r := rNe) (ev_op (ev_var rfl) ev_c (rv_ixT (K := K) (i := 0) (v := .int i0) (st_of hT) rfl)) (ev_op (ev_var rfl) ev_c (rv_ixT (K := K) (i := 1) (v := .int i1) (st_of hT) rfl)) (rv_ne rfl)
    rw [given_all, hxl] at q
    have q2 := ev_allL (K := K) (bs := (List.range (itemsR d).length).map fun i => (((itemsR d)[i]?).map (prD n)).getD false) (by rw [List.map_map]; exact q)
    rw [all_get] at q2
    exact q2
def spRWF2 (CB : Addr) : Sp := fun vs H Q E => ∃ (v1 v2 : V) (d1 d2 : PyData), vs = [v1, v2] ∧ Dq H v1 d1 ∧ Tg H v2 d2 ∧ (itemsR d2).length ≤ 1000 ∧ (fdue d1 d2 = none → ∀ H', Ex H H' → Q .non H') ∧
  ∀ s, fdue d1 d2 = some s → ∀ dx H', H dx = none → Ex H H' → H' dx = some (.xd [("part", .str s)]) → E (.ref CB) (some dx) H'
theorem ok_rwf2 {CB : Addr} {t1 : Tok} (hM : mg "LEAST_SIZE" = some (.int 1 t1)) (T : ErrF P w K mg base "BadFlood" CB "part") (CS : Cal P w K mg base "is_size" ["least", "thing"] 3 spSize) (CU : Cal P w K mg base "is_row_of_unlike_pairs" ["size", "thing"] 5 spUnl2) (F : FnP K "refuse_wrong_flood" sRWF f fd) : FnOk P w K mg base (L2.CX P w) 6 f fd ["size", "links"] (spRWF2 CB) := by
  refine F.ok scRWF (fun vs H Q E h => ?_) (fun cdv A outer s H vs Q E hr h => ?_)
  · obtain ⟨v1, v2, d1, d2, rfl, _⟩ := h
    rfl
  · obtain ⟨v1, v2, d1, d2, rfl, h1, h2, hl, kQ, kE⟩ := h
    have hr2 : Room 2 _ := hr.mono (by decide)
    refine ⟨_, pss_cons (ps_if (pt_not (pt_val (pe_cal CS hr (by rfl) (pa_cons (pe_glob (v := .int 1) (by rfl) hM ⟨_, rfl⟩) (pa_cons (pv 0) pa_nil))))) (pss_one (ps_raise rfl (takes_of rfl rfl rfl rfl) (pmk_errF T hr2 (by rfl) (pa_cons pe_str pa_nil)))) pss_nil)
      (pss_one (ps_if (pt_not (pt_val (pe_cal CU hr (by rfl) (pa_cons (pv 0) (pa_cons (pv 1) pa_nil))))) (pss_one (ps_raise rfl (takes_of rfl rfl rfl rfl) (pmk_errF T hr2 (by rfl) (pa_cons pe_str pa_nil)))) pss_nil)), ?_⟩
    have c1 : Ev (tCall spSize [] E0 (tCons (tC (.int 1)) (tCons (tVar 0) tNil))) (start ["size", "links"] [v1, v2]) H (.bl (szB d1)) := ev_call (ea_cons ev_c (ea_cons (ev_var rfl) ea_nil)) (spP_v fun H1 e => ⟨1, v1, d1, rfl, h1.mono e, rfl⟩)
    refine q_when (b := !szB d1) (et_not (et_B c1)) (fun hb H1 e1 => ?_) fun hb H1 e1 => ?_
    · have hb : szB d1 = false := by simpa using hb
      exact mk_errF ev_c fun dx H' h0 e' hx => kE "size" (by unfold fdue; rw [hb]; rfl) dx H' (fresh_back e1 h0) (e1.trans e') hx
    · have hb : szB d1 = true := by simpa using hb
      have hi : isI d1 = true := by
        unfold szB at hb
        rw [Bool.and_eq_true] at hb
        exact hb.1
      have ei := isI_eq hi
      have h1' := h1
      rw [ei] at h1'
      have e1v : v1 = .int (valI d1) := by cases h1'; rfl
      have c2 : Ev (tCall spUnl2 [] E0 (tCons (tVar 0) (tCons (tVar 1) tNil))) (start ["size", "links"] [v1, v2]) H1 (.bl (unlD (valI d1) d2)) := ev_call (ea_cons (ev_var rfl) (ea_cons (ev_var rfl) ea_nil)) (spP_v fun H2 e => ⟨valI d1, v2, d2, by rw [e1v]; rfl, h2.mono (e1.trans e), hl, rfl⟩)
      refine s_when (b := !unlD (valI d1) d2) (et_not (et_B c2)) (fun hc H2 e2 => ?_) fun hc H2 e2 => ?_
      · have hc : unlD (valI d1) d2 = false := by simpa using hc
        exact mk_errF ev_c fun dx H' h0 e' hx => kE "links" (by unfold fdue; rw [hb, hc]; rfl) dx H' (fresh_back (e1.trans e2) h0) ((e1.trans e2).trans e') hx
      · have hc : unlD (valI d1) d2 = true := by simpa using hc
        exact kQ (by unfold fdue; rw [hb, hc]; rfl) H2 (e1.trans e2)
end
end Wk

set_option Elab.async false
set_option linter.all false
set_option maxRecDepth 100000
set_option maxHeartbeats 4000000
namespace Wk
open PySem PySem.Spec PyProof.Rows L2 Evl
theorem good_links {n : Nat} {prs : List Wy} (h1 : 1 ≤ n) (h8 : n ≤ 8) (hok : ∀ p ∈ prs, PrOk n p) {d : PyData} (hd : d = .list (prs.map wd) ∨ d = .tuple (prs.map wd)) : fdue (.int (n : Int)) d = none := by
  have e1 : szB (.int (n : Int)) = true := by
    show (true && (decide ((1 : Int) ≤ (n : Int)) && decide ((n : Int) ≤ 8))) = true
    rw [decide_eq_true (show (1 : Int) ≤ n by omega), decide_eq_true (show (n : Int) ≤ 8 by omega)]
    rfl
  have e3 : (prs.map wd).all (prD (n : Int)) = true := by
    rw [List.all_eq_true]
    intro x hx
    obtain ⟨w, hw, rfl⟩ := List.mem_map.mp hx
    obtain ⟨u, v, rfl, hu, hv, hne⟩ := hok w hw
    show (((true && decide (V.int 2 = V.int 2)) && (isR (n : Int) (.int (u : Int)) && isR (n : Int) (.int (v : Int)))) && !decide (V.int (u : Int) = V.int (v : Int))) = true
    rw [isR_yes hu, isR_yes hv, decide_eq_true rfl, decide_eq_false]
    · rfl
    · intro z
      injection z with z
      omega
  have e2 : unlD (n : Int) d = true := by
    rcases hd with rfl | rfl
    · show (true && (prs.map wd).all (prD (n : Int))) = true
      rw [e3]
      rfl
    · show (true && (prs.map wd).all (prD (n : Int))) = true
      rw [e3]
      rfl
  unfold fdue
  rw [e1, if_pos rfl, show valI (.int (n : Int)) = (n : Int) from rfl, e2, if_pos rfl]
theorem row_tg {H : Hp} {l : Addr} {us : List V} {ds : List PyData} (h : Row H l us) (hus : DqA H us ds) : ∃ d, Tg H (.ref l) d ∧ itemsR d = ds ∧ (d = .list ds ∨ d = .tuple ds) := by
  rcases h with h | h
  · exact ⟨_, .inl (.lst h hus), rfl, .inl rfl⟩
  · exact ⟨_, .inl (.tup h hus), rfl, .inr rfl⟩
section
variable {P : Program} {w : World} {K : PySem.W.Frag} {mg : Str → Option Value} {base : Heap} {f : Addr} {fd : FuncData} {CF CB CN : Addr}
/-! both_ways of a row -/
def spPairs2 : Sp := fun vs H Q _ => ∃ (l : Addr) (us : List V) (prs : List Wy), vs = [.ref l] ∧ Row H l us ∧ DqA H us (prs.map wd) ∧ (∀ w ∈ prs, PrOk 8 w) ∧ prs.length ≤ 22 ∧
  ∀ H' l' us', Ex H H' → H l' = none → H' l' = some (.lst us') → DqA H' us' ((joinW prs).map wd) → Q (.ref l') H'
theorem ok_both2 (B : Bl mg) (hs : mg "sorted" = none) (F : FnP K "both_ways" sBoth f fd) : FnOk P w K mg base CX0 1 f fd ["links"] spPairs2 := by
  refine F.ok scBoth (fun vs H Q E h => ?_) (fun cdv A outer s H vs Q E hr h => ?_)
  · obtain ⟨l, us, prs, rfl, _⟩ := h
    rfl
  · obtain ⟨l, us, prs, rfl, hl, hus, hok, hpl, k⟩ := h
    have hu : (A.deeper (envOfC "both_ways" (defScope sBoth) s.heap.objs.size f cdv)).units + 64 < cLine := by have := hr.un; omega
    refine ⟨_, pss_one (ps_ret (pe_callB (cr_sortedT rfl) (by rfl) hs boot_sorted (pa_cons (pe_callTy (cr_setOfT rfl hu) (by rfl) B.set PyProof.Rows.boot_set (pa_cons (pe_op op_cat (pe_callTy (call_listK2 (K := K) rfl) (by rfl) B.list PyProof.Rows.boot_list (pa_cons (pv 0) pa_nil))
      (pe_lc (own := [("a", 1), ("b", 2)]) (g := gTup K 2 (gCons (gName 1) (gCons (gName 2) gNil))) (tt := tYes) (te := tTup (tCons (tVar 2) (tCons (tVar 1) tNil))) rfl scBoth.nd
        (pi_row (pv 0)) (blkOk_by (N := nBoth) (sc := defScope sBoth) (by decide +kernel)) (fun _ _ _ _ _ => pg_tup rfl (pgs_cons (pg_name (i := 1) scBoth.nd rfl (Or.inl rfl)) (pgs_cons (pg_name (i := 2) scBoth.nd rfl (Or.inl rfl)) pgs_nil)))
        (fun _ _ _ _ _ => pts_nil)
        (fun _ _ _ _ _ => pe_tup (pa_cons (pv 2) (pa_cons (pv 1) pa_nil))))) pa_nil)) pa_nil))), ?_⟩
    have hul := hus.length
    rw [List.length_map] at hul
    have hbd := PrOk.bd (n := 8) (by omega) (both_ok hok)
    refine ret_cb (cb1 ?_)
    refine ⟨.ref l, rfl, l, us, rfl, hl.imp sq_of st_of, fun l1 hl1 => ?_⟩
    have ex1 := Ex.new (o := .lst us) hl1
    have h11 : (upd H l1 (.lst us)) l1 = some (.lst us) := upd_same
    generalize upd H l1 (.lst us) = H1 at *
    have two : ∀ {i : Nat} {x : V}, us[i]? = some x → ∃ a, x = .ref a ∧ H1 a = some (.tup [.int ((prs.getD i []).getD 0 0), .int ((prs.getD i []).getD 1 0)]) := by
      intro i x hx
      obtain ⟨w, h1, h2⟩ := DqA.wds_inv hus hx
      obtain ⟨a, rfl, ha⟩ := wd_ref h2
      obtain ⟨u, v, rfl, _⟩ := hok w (List.mem_of_getElem? h1)
      refine ⟨a, rfl, ?_⟩
      rw [List.getD_eq_getElem?_getD (l := prs), h1]
      exact ex1 _ _ ha
    rcases hl.mono ex1 with h11l | h11l
    · refine ⟨.ref l, rfl, l, rfl, .inl ⟨⟨us, sq_of h11l⟩, fun D hD => ?_⟩⟩
      refine grow_lc2 (K := K) (fun i => .int ((prs.getD i []).getD 0 0)) (fun i => .int ((prs.getD i []).getD 1 0)) ((walk_list (K := K) (a := l) (xs := us)).mono (fun H h => h) fun i H' x H'' hi _ y => ⟨y.1, two y.2⟩) (tupY_good fun i => (swW (prs.getD i [])).map V.int) hD (by omega)
        (fun H' e => sq_of (e _ _ h11l)) (fun x y => rfl) (fun i H' e hi => ?_) (fun us2 H2 e2 hd g => ?_)
      · intro H3 e3 Q3 q
        exact ⟨_, rfl, _, rfl, by show 2 ≤ sizeLine; decide, fun p hp => q _ _ (Ex.new hp) ⟨p, rfl, upd_same⟩⟩
      · obtain ⟨ks2, k1, k2, k3⟩ := grown_ks g
        subst k1
        rw [upTo_all, hul, range_sw] at k2
        have e2' := ex1.trans e2
        obtain ⟨ks1, j1, j2, j3⟩ := wds_ks (hus.mono e2')
        have l1' : ks1.length = prs.length := by rw [← j2, List.length_map]
        have l2 : ks2.length = prs.length := by
          have := congrArg List.length k2
          simpa using this
        refine ⟨l1, D, us, _, rfl, rfl, e2 _ _ h11, hd, by rw [List.length_map, sizeLine_eq]; omega, fun t ht => ?_⟩
        have et := Ex.new (o := .lst (us ++ ks2.map fun p => V.ref p.1)) ht
        have htt : (upd H2 t (.lst (us ++ ks2.map fun p => V.ref p.1))) t = some (.lst ((ks1 ++ ks2).map fun p => V.ref p.1)) := by
          rw [upd_same, List.map_append, ← j1]
        generalize upd H2 t (.lst (us ++ ks2.map fun p => V.ref p.1)) = H3 at *
        have hm3 : ∀ p ∈ ks1 ++ ks2, H3 p.1 = some (.tup (p.2.map V.int)) := fun p hp => by
          rcases List.mem_append.mp hp with z | z
          · exact et _ _ (j3 p z)
          · exact et _ _ (k3 p z)
        have hmem : ∀ p, p ∈ (ks1 ++ ks2).map (·.2) ↔ p ∈ prs ++ prs.map swW := by
          intro p
          rw [List.map_append, j2, k2]
        refine ⟨t, ks1 ++ ks2, rfl, sq_of htt, fun p hp => st_of (hm3 p hp), by rw [List.length_append]; omega, fun a L ha h1 h2 => ?_⟩
        have ea := Ex.new (o := SetTO P w a L) ha
        refine ⟨a, L, 2, 64, rfl, upd_same, fun p hp => st_of (ea _ _ (hm3 p (h1 p hp))), by decide, fun p hp => ?_, fun L' p pm nd l64 pw hp => ?_⟩
        · obtain ⟨u, v', hu', hv', ep⟩ := hbd p.2 ((hmem _).mp (List.mem_map.mpr ⟨p, h1 p hp, rfl⟩))
          rw [ep]
          refine ⟨rfl, fun m hm => ?_⟩
          rcases List.mem_cons.mp hm with z | z
          · omega
          · rcases List.mem_cons.mp z with z | z
            · omega
            · cases z
        · have eM : L'.map (·.2) = joinW prs := by
            refine asc_unique hbd (fun q => ?_) nd (List.pairwise_map.mpr pw)
            rw [← hmem]
            constructor
            · intro hq
              obtain ⟨r, hr', rfl⟩ := List.mem_map.mp hq
              exact List.mem_map.mpr ⟨r, h1 r (pm.mem_iff.mp hr'), rfl⟩
            · intro hq
              obtain ⟨r, hr', rfl⟩ := List.mem_map.mp hq
              obtain ⟨r2, hr2, e⟩ := List.mem_map.mp (h2 r hr')
              exact List.mem_map.mpr ⟨r2, pm.mem_iff.mpr hr2, e⟩
          have ep := Ex.new (o := .lst (L'.map fun q => V.ref q.1)) hp
          refine k _ p _ ((e2'.trans et).trans (ea.trans ep)) (fresh_back ((e2'.trans et).trans ea) hp) upd_same ?_
          rw [← eM]
          exact ks_wds fun q hq => ep _ _ (ea _ _ (hm3 q (h1 q (pm.mem_iff.mp hq))))
    · refine ⟨.ref l, rfl, l, rfl, .inr ⟨⟨us, st_of h11l⟩, fun D hD => ?_⟩⟩
      refine grow_lc2 (K := K) (fun i => .int ((prs.getD i []).getD 0 0)) (fun i => .int ((prs.getD i []).getD 1 0)) ((walk_tup (K := K) (a := l) (xs := us)).mono (fun H h => h) fun i H' x H'' hi _ y => ⟨y.1, two y.2⟩) (tupY_good fun i => (swW (prs.getD i [])).map V.int) hD (by omega)
        (fun H' e => st_of (e _ _ h11l)) (fun x y => rfl) (fun i H' e hi => ?_) (fun us2 H2 e2 hd g => ?_)
      · intro H3 e3 Q3 q
        exact ⟨_, rfl, _, rfl, by show 2 ≤ sizeLine; decide, fun p hp => q _ _ (Ex.new hp) ⟨p, rfl, upd_same⟩⟩
      · obtain ⟨ks2, k1, k2, k3⟩ := grown_ks g
        subst k1
        rw [upTo_all, hul, range_sw] at k2
        have e2' := ex1.trans e2
        obtain ⟨ks1, j1, j2, j3⟩ := wds_ks (hus.mono e2')
        have l1' : ks1.length = prs.length := by rw [← j2, List.length_map]
        have l2 : ks2.length = prs.length := by
          have := congrArg List.length k2
          simpa using this
        refine ⟨l1, D, us, _, rfl, rfl, e2 _ _ h11, hd, by rw [List.length_map, sizeLine_eq]; omega, fun t ht => ?_⟩
        have et := Ex.new (o := .lst (us ++ ks2.map fun p => V.ref p.1)) ht
        have htt : (upd H2 t (.lst (us ++ ks2.map fun p => V.ref p.1))) t = some (.lst ((ks1 ++ ks2).map fun p => V.ref p.1)) := by
          rw [upd_same, List.map_append, ← j1]
        generalize upd H2 t (.lst (us ++ ks2.map fun p => V.ref p.1)) = H3 at *
        have hm3 : ∀ p ∈ ks1 ++ ks2, H3 p.1 = some (.tup (p.2.map V.int)) := fun p hp => by
          rcases List.mem_append.mp hp with z | z
          · exact et _ _ (j3 p z)
          · exact et _ _ (k3 p z)
        have hmem : ∀ p, p ∈ (ks1 ++ ks2).map (·.2) ↔ p ∈ prs ++ prs.map swW := by
          intro p
          rw [List.map_append, j2, k2]
        refine ⟨t, ks1 ++ ks2, rfl, sq_of htt, fun p hp => st_of (hm3 p hp), by rw [List.length_append]; omega, fun a L ha h1 h2 => ?_⟩
        have ea := Ex.new (o := SetTO P w a L) ha
        refine ⟨a, L, 2, 64, rfl, upd_same, fun p hp => st_of (ea _ _ (hm3 p (h1 p hp))), by decide, fun p hp => ?_, fun L' p pm nd l64 pw hp => ?_⟩
        · obtain ⟨u, v', hu', hv', ep⟩ := hbd p.2 ((hmem _).mp (List.mem_map.mpr ⟨p, h1 p hp, rfl⟩))
          rw [ep]
          refine ⟨rfl, fun m hm => ?_⟩
          rcases List.mem_cons.mp hm with z | z
          · omega
          · rcases List.mem_cons.mp z with z | z
            · omega
            · cases z
        · have eM : L'.map (·.2) = joinW prs := by
            refine asc_unique hbd (fun q => ?_) nd (List.pairwise_map.mpr pw)
            rw [← hmem]
            constructor
            · intro hq
              obtain ⟨r, hr', rfl⟩ := List.mem_map.mp hq
              exact List.mem_map.mpr ⟨r, h1 r (pm.mem_iff.mp hr'), rfl⟩
            · intro hq
              obtain ⟨r, hr', rfl⟩ := List.mem_map.mp hq
              obtain ⟨r2, hr2, e⟩ := List.mem_map.mp (h2 r hr')
              exact List.mem_map.mpr ⟨r2, pm.mem_iff.mpr hr2, e⟩
          have ep := Ex.new (o := .lst (L'.map fun q => V.ref q.1)) hp
          refine k _ p _ ((e2'.trans et).trans (ea.trans ep)) (fresh_back ((e2'.trans et).trans ea) hp) upd_same ?_
          rw [← eM]
          exact ks_wds fun q hq => ep _ _ (ea _ _ (hm3 q (h1 q (pm.mem_iff.mp hq))))
/-! refuse_no_router -/
def spNoRt (CN : Addr) : Sp := fun vs H Q E => ∃ (n : Int) (v : V) (d : PyData), vs = [.int n, v] ∧ Dq H v d ∧ (isR n d = true → ∀ H', Ex H H' → Q .non H') ∧ (isR n d = false → ∀ dx H', H dx = none → Ex H H' → H' dx = some (.xd [("router", v)]) → E (.ref CN) (some dx) H')
theorem ok_noRt (TN : ErrF P w K mg base "NoRouter" CN "router") (C : Cal P w K mg base "is_router" ["size", "thing"] 3 spRouter) (F : FnP K "refuse_no_router" sRNR f fd) : FnOk P w K mg base (L2.CX P w) 4 f fd ["size", "thing"] (spNoRt CN) := by
  refine F.ok scRNR (fun vs H Q E h => ?_) (fun cdv A outer s H vs Q E hr h => ?_)
  · obtain ⟨n, v, d, rfl, _⟩ := h
    rfl
  · obtain ⟨n, v, d, rfl, hd, kQ, kE⟩ := h
    have hr2 : Room 2 _ := hr.mono (by decide)
    refine ⟨_, pss_one (ps_if (pt_not (pt_val (pe_cal C hr (by rfl) (pa_cons (pv 0) (pa_cons (pv 1) pa_nil))))) (pss_one (ps_raise rfl (takes_of rfl rfl rfl rfl) (pmk_errF TN hr2 (by rfl) (pa_cons (pv 1) pa_nil)))) pss_nil), ?_⟩
    refine s_when (b := !isR n d) (et_not (et_B (ev_call (ea_cons (ev_var rfl) (ea_cons (ev_var rfl) ea_nil)) (spP_v fun H1 e => ⟨_, v, d, rfl, hd.mono e, rfl⟩)))) (fun hb H1 e => ?_) (fun hb H1 e => ?_)
    · exact mk_errF (ev_var rfl) fun dx H' h0 e' hx => kE (by simpa using hb) dx H' (fresh_back e h0) (e.trans e') hx
    · exact kQ (by simpa using hb) H1 e
def spBook2 (CF CN : Addr) : Sp := fun vs H Q E => ∃ (G : Hp) (x pa la : Addr) (v : V) (n m : Nat) (B : Nat → Bk) (cs : Nat → Option Nat), vs = [.ref x, v] ∧ Ex G H ∧ FdA CF G H x pa la n m B cs ∧ n ≤ 8 ∧
  ((∃ r : Nat, v = .int (r : Int) ∧ r < n ∧ ∀ H' D kvs ks, Ex H H' → H D = none → H' D = some (.dK kvs) → BkD G kvs ks n (B r) → ks.Pairwise (· ≤ ·) → Q (.ref D) H') ∨ (∃ d, Dq H v d ∧ isR (n : Int) d = false ∧ ∀ dx H', H dx = none → Ex H H' → H' dx = some (.xd [("router", v)]) → E (.ref CN) (some dx) H'))
theorem ok_book2 (X : FX K CF) (hs : mg "sorted" = none) (CR : CalX P w K mg base "refuse_no_router" ["size", "thing"] 4 (spNoRt CN)) (F : FnM K "book" "Flood.book" sBook f fd) : FnOk P w K mg base (L2.CX P w) 5 f fd ["self", "router"] (spBook2 CF CN) := by
  obtain ⟨fR, fdR, FR, gR, kR, bR⟩ := CR.ex
  refine F.ok scBook (fun vs H Q E h => ?_) (fun cdv A outer s H vs Q E hr h => ?_)
  · obtain ⟨G, x, pa, la, v, n, m, B, cs, rfl, _⟩ := h
    rfl
  · obtain ⟨G, x, pa, la, v, n, m, B, cs, rfl, eG, hF, hn, hv⟩ := h
    have hu : (A.deeper (envOfC "Flood.book" (defScope sBook) s.heap.objs.size f cdv)).units + 1 < cLine := by have := hr.un; omega
    refine ⟨_, pss_cons (ps_expr (pe_call FR hr (by rfl) gR kR bR .nil (passes_call (takes_of rfl rfl rfl rfl) (fun _ _ _ _ h => h)) (pa_cons (pe_fld (pv 0) rfl) (pa_cons (pv 1) pa_nil))))
      (pss_cons (ps_set (i := 2) scBook.nd rfl (Or.inr rfl) (pe_ix ix_tup (pe_ix ix_tup (pe_fld (pv 0) rfl) pe_int (fun _ _ => rfl)) (pv 1) (fun _ _ => rfl)))
      (pss_one (ps_ret (pe_dc (own := [("key", 3)]) (g := gName 3) (tt := tYes) (tk := tVar 3) (tv := tDGet (tVar 2) (tVar 3)) rfl scBook.nd (pi_list (pe_callB (call_sortedDI rfl) (by rfl) hs boot_sorted (pa_cons (pv 2) pa_nil))) (blkOk_by (N := nBook) (sc := defScope sBook) (by decide +kernel))
        (fun _ _ _ _ _ => pg_name (i := 3) scBook.nd rfl (Or.inl rfl)) (fun _ _ _ _ _ => pts_nil) (fun _ _ _ _ _ => pv 3) (fun _ _ _ _ _ => pe_dget hu (pv 2) (pv 3) (fun _ _ => rfl)))))), ?_⟩
    obtain ⟨dx, fs, st, hx, ff, tb, tc, bs, g1, g2, g3, hB⟩ := hF.ob
    rcases hv with ⟨r, rfl, hrn, k⟩ | ⟨d, hd, hb, k⟩
    rotate_left
    · exact ⟨.ref x, rfl, x, CF, dx, fs, _, rfl, hx, X.cl, X.nZ, ff.sz, v, rfl, (n : Int), v, d, rfl, hd, (fun z => by rw [hb] at z; cases z), fun _ dy H' h0 e' hy => k dy H' h0 e' hy⟩
    refine ⟨.ref x, rfl, x, CF, dx, fs, _, rfl, hx, X.cl, X.nZ, ff.sz, .int (r : Int), rfl, (n : Int), _, .int (r : Int), rfl, .int _, fun _ H1 e1 => ?_, fun z => by rw [isR_yes hrn] at z; cases z⟩
    obtain ⟨a, hba, kvs, ks, ha, hbk⟩ := hB.at_ r hrn
    have eG1 := eG.trans e1
    refine ⟨.ref x, rfl, x, CF, dx, fs, _, rfl, e1 _ _ hx, X.cl, X.nS, ff.st, st, _, 0, .ref tb, rfl, rfl, st_of (eG1 _ _ g1), atI_nat (j := 0) rfl, .int (r : Int), rfl, tb, bs, (r : Int), .ref a, rfl, rfl, st_of (eG1 _ _ g2), atI_nat hba, ?_⟩
    refine g_name ?_
    dsimp only
    change tRet _ _ [some (.ref x), some (.int (r : Int)), some (.ref a), none] H1
    have hl := hbk.len
    refine ⟨.ref a, rfl, a, kvs, ks, rfl, .inl (eG1 _ _ ha), hbk.nk.1, by omega, fun ys L pm pw hL => ?_⟩
    have exL := Ex.new (o := .lst (ys.map V.int)) hL
    have hLL : (upd H1 L (.lst (ys.map V.int))) L = some (.lst (ys.map V.int)) := upd_same
    generalize upd H1 L (.lst (ys.map V.int)) = H2 at *
    refine ⟨L, rfl, ⟨_, sq_of hLL⟩, fun D hD => ?_⟩
    have haL := exL _ _ (eG1 _ _ ha)
    refine dc_it (H := H2) (ks := ys) (fun _ => true) (fun k => (valV kvs (.inl k)).getD .non) walk_ints hD (by rw [pm.length_eq]; omega) (fun H' e => sq_of (e _ _ hLL)) (fun x => rfl) (by show 3 < 4; decide) (fun k hk H' e => et_yes) (fun k hk _ H' e => ?_) fun H' e hD5 => ?_
    · obtain ⟨v, hv⟩ := (hbk.nk.mem k).mp (pm.mem_iff.mp hk)
      rw [hv]
      exact ev_dget (kvs := kvs) (ev_var rfl) (ev_var rfl) (.inl (e _ _ haL)) hv
    · rw [filter_yes] at hD5
      exact k H' D _ ys ((e1.trans exL).trans e) (fresh_back (e1.trans exL) hD) hD5 (book_of hbk pm) pw
def spCont2 (CF CN : Addr) : Sp := fun vs H Q E => ∃ (G : Hp) (x pa la : Addr) (v : V) (n m : Nat) (B : Nat → Bk) (cs : Nat → Option Nat), vs = [.ref x, v] ∧ Ex G H ∧ FdA CF G H x pa la n m B cs ∧ n ≤ 8 ∧
  ((∃ r : Nat, v = .int (r : Int) ∧ r < n ∧ ∀ H', Ex H H' → Q (oV (cs r)) H') ∨ (∃ d, Dq H v d ∧ isR (n : Int) d = false ∧ ∀ dx H', H dx = none → Ex H H' → H' dx = some (.xd [("router", v)]) → E (.ref CN) (some dx) H'))
theorem ok_cont2 (X : FX K CF) (CR : CalX P w K mg base "refuse_no_router" ["size", "thing"] 4 (spNoRt CN)) (F : FnM K "content" "Flood.content" sCont f fd) : FnOk P w K mg base (L2.CX P w) 5 f fd ["self", "router"] (spCont2 CF CN) := by
  obtain ⟨fR, fdR, FR, gR, kR, bR⟩ := CR.ex
  refine F.ok scCont (fun vs H Q E h => ?_) (fun cdv A outer s H vs Q E hr h => ?_)
  · obtain ⟨G, x, pa, la, v, n, m, B, cs, rfl, _⟩ := h
    rfl
  · obtain ⟨G, x, pa, la, v, n, m, B, cs, rfl, eG, hF, hn, hv⟩ := h
    refine ⟨_, pss_cons (ps_expr (pe_call FR hr (by rfl) gR kR bR .nil (passes_call (takes_of rfl rfl rfl rfl) (fun _ _ _ _ h => h)) (pa_cons (pe_fld (pv 0) rfl) (pa_cons (pv 1) pa_nil))))
      (pss_one (ps_ret (pe_ix ix_tup (pe_ix ix_tup (pe_fld (pv 0) rfl) pe_int (fun _ _ => rfl)) (pv 1) (fun _ _ => rfl)))), ?_⟩
    obtain ⟨dx, fs, st, hx, ff, tb, tc, bs, g1, g2, g3, hB⟩ := hF.ob
    rcases hv with ⟨r, rfl, hrn, k⟩ | ⟨d, hd, hb, k⟩
    rotate_left
    · exact ⟨.ref x, rfl, x, CF, dx, fs, _, rfl, hx, X.cl, X.nZ, ff.sz, v, rfl, (n : Int), v, d, rfl, hd, (fun z => by rw [hb] at z; cases z), fun _ dy H' h0 e' hy => k dy H' h0 e' hy⟩
    refine ⟨.ref x, rfl, x, CF, dx, fs, _, rfl, hx, X.cl, X.nZ, ff.sz, .int (r : Int), rfl, (n : Int), _, .int (r : Int), rfl, .int _, fun _ H1 e1 => ?_, fun z => by rw [isR_yes hrn] at z; cases z⟩
    have eG1 := eG.trans e1
    exact ⟨.ref x, rfl, x, CF, dx, fs, _, rfl, e1 _ _ hx, X.cl, X.nS, ff.st, st, _, 1, .ref tc, rfl, rfl, st_of (eG1 _ _ g1), atI_nat (j := 1) rfl, .int (r : Int), rfl, tc, _, (r : Int), oV (cs r), rfl, rfl, st_of (eG1 _ _ g3), atI_nat (cV_at hrn), k H1 e1⟩
def spInit2 (CF CB : Addr) : Sp := fun vs H Q E => ∃ (G : Hp) (x dx : Addr) (v1 v2 : V), vs = [.ref x, v1, v2] ∧ H x = some (.ins CF dx []) ∧ Ex G H ∧ G x = none ∧
  ((∃ (l : Addr) (n : Nat) (us : List V) (prs : List Wy), v1 = .int (n : Int) ∧ v2 = .ref l ∧ Row H l us ∧ DqA G us (prs.map wd) ∧ (∀ p ∈ prs, PrOk n p) ∧ prs.length ≤ 22 ∧ 1 ≤ n ∧ n ≤ 8 ∧
    ∀ G' H' pa la us', Ex G G' → Ex G' H' → (∀ b u, b ≠ x → H b = some u → H' b = some u) → (∀ b u, G b = none → H b = some u → (∀ xs, u ≠ .tup xs) → G' b = none) → H pa = none → FdA CF G' H' x pa la n 0 (fun _ _ => none) (fun _ => none) → G' la = some (.lst us') → DqA G' us' ((joinW prs).map wd) → Q .non H') ∨
   (∃ d1 d2 s, Dq H v1 d1 ∧ Tg H v2 d2 ∧ (itemsR d2).length ≤ 1000 ∧ fdue d1 d2 = some s ∧ ∀ dy H', H dy = none → Ex H H' → H' dy = some (.xd [("part", .str s)]) → E (.ref CB) (some dy) H'))
theorem ok_init2 (X : FX K CF) (CW : CalX P w K mg base "refuse_wrong_flood" ["size", "links"] 6 (spRWF2 CB)) (CBw : Cal P w K mg base "both_ways" ["links"] 1 spPairs2) (F : FnM K "__init__" "Flood.__init__" sInit f fd) : FnOk P w K mg base (L2.CX P w) 7 f fd nInit (spInit2 CF CB) := by
  obtain ⟨fR, fdR, FR, gR, kR, bR⟩ := CW.ex
  refine F.ok scInit (fun vs H Q E h => ?_) (fun cdv A outer s H vs Q E hr h => ?_)
  · obtain ⟨G, x, dx, v1, v2, rfl, _⟩ := h
    rfl
  · obtain ⟨G, x, dx, v1, v2, rfl, hx, eG, gx, hv⟩ := h
    refine ⟨_, pss_cons (ps_expr (pe_call FR hr (by rfl) gR kR bR .nil (passes_call (takes_of rfl rfl rfl rfl) (fun _ _ _ _ h => h)) (pa_cons (pv 1) (pa_cons (pv 2) pa_nil))))
      (pss_cons (ps_fld (pv 0) (pv 1) rfl)
      (pss_cons (ps_fld (pv 0) (pe_cal CBw hr (by rfl) (pa_cons (pv 2) pa_nil)) rfl)
      (pss_cons (ps_fld (pv 0) (pe_tup (pa_cons (pe_op (op_repU (K := K) rfl) (pe_tup (pa_cons pe_dnewK pa_nil)) (pv 1)) (pa_cons (pe_op (op_repU (K := K) rfl) (pe_tup (pa_cons pe_non pa_nil)) (pv 1)) pa_nil))) rfl)
      (pss_cons (ps_fld (pv 0) pe_int rfl)
      (pss_one (ps_fld (pv 0) (pe_lst pa_nil) rfl)))))), ?_⟩
    rcases hv with ⟨l, n, us, prs, rfl, rfl, hl, hus, hok, hpl, hn1, hn8, k⟩ | ⟨d1, d2, s, hd1, hd2, hdl, hdue, k⟩
    rotate_left
    · exact ⟨v1, rfl, v2, rfl, v1, v2, d1, d2, rfl, hd1, hd2, hdl, (fun z => by rw [hdue] at z; cases z), fun s' hs' dy H' h0 e' hy => by
        rw [hdue] at hs'
        cases hs'
        exact k dy H' h0 e' hy⟩
    obtain ⟨d2, hd2, hdi, hdd⟩ := row_tg hl (hus.mono eG)
    have hdue := good_links hn1 hn8 hok hdd
    refine ⟨.int (n : Int), rfl, .ref l, rfl, .int (n : Int), .ref l, .int (n : Int), d2, rfl, .int _, hd2, by rw [hdi, List.length_map]; omega, fun _ H1 e1 => ?_, fun s hs => by rw [hdue] at hs; cases hs⟩
    have hprs8 : ∀ w ∈ prs, PrOk 8 w := fun w hw => by
      obtain ⟨u, v, e, h1, h2, h3⟩ := hok w hw
      exact ⟨u, v, e, by omega, by omega, h3⟩
    have eG1 := eG.trans e1
    refine ⟨.int (n : Int), rfl, .ref x, rfl, x, CF, dx, [], rfl, e1 _ _ hx, X.cl, X.nZ, by decide, ?_⟩
    have off2 : ∀ b u, b ≠ x → H b = some u → (upd H1 x (.ins CF dx (putF "_size" (.int (n : Int)) []))) b = some u := fun b u hb hh => by rw [upd_ne hb]; exact e1 _ _ hh
    have eG2 : Ex G (upd H1 x (.ins CF dx (putF "_size" (.int (n : Int)) []))) := Ex.mut eG1 gx
    have hx2 : (upd H1 x (.ins CF dx (putF "_size" (.int (n : Int)) []))) x = some (.ins CF dx (putF "_size" (.int (n : Int)) [])) := upd_same
    generalize upd H1 x (.ins CF dx (putF "_size" (.int (n : Int)) [])) = H2 at *
    have lx : l ≠ x := fun z => by
      rw [z] at hl
      rcases hl with hl | hl <;> (rw [hx] at hl; cases hl)
    have hl2 := hl.imp (off2 _ _ lx) (off2 _ _ lx)
    refine ⟨.ref l, rfl, l, us, prs, rfl, hl2, hus.mono eG2, hprs8, hpl, fun H3 la us' e3 nla hla husa => ?_⟩
    have hx3 := e3 _ _ hx2
    refine ⟨.ref x, rfl, x, CF, dx, _, rfl, hx3, X.cl, X.nA, ?_, ?_⟩
    · exact Nat.lt_of_le_of_lt (len_putF _ _ _) (by decide)
    have xla : la ≠ x := fun z => by rw [z, hx2] at nla; cases nla
    obtain ⟨ks, k1, k2, k3⟩ := wds_ks husa
    have o3 : Of1 x H H3 := fun b u hb hh => e3 _ _ (off2 b u hb hh)
    have nla0 : H la = none := by
      cases e : H la with
      | none => rfl
      | some u => rw [off2 la u xla e] at nla; cases nla
    have xks : ∀ p ∈ ks, p.1 ≠ x := fun p hp z => by
      have := k3 p hp
      rw [z, hx3] at this
      cases this
    have eG4 : Ex G (upd H3 x (.ins CF dx (putF "_arrows" (.ref la) (putF "_size" (.int (n : Int)) [])))) := Ex.mut (eG2.trans e3) gx
    have hx4 : (upd H3 x (.ins CF dx (putF "_arrows" (.ref la) (putF "_size" (.int (n : Int)) [])))) x = some (.ins CF dx (putF "_arrows" (.ref la) (putF "_size" (.int (n : Int)) []))) := upd_same
    have o4 := o3.trans (Of1.upd x H3 (.ins CF dx (putF "_arrows" (.ref la) (putF "_size" (.int (n : Int)) []))))
    have hla4 := Of1.upd x H3 (.ins CF dx (putF "_arrows" (.ref la) (putF "_size" (.int (n : Int)) []))) la _ xla hla
    have k34 : ∀ p ∈ ks, (upd H3 x (.ins CF dx (putF "_arrows" (.ref la) (putF "_size" (.int (n : Int)) [])))) p.1 = some (.tup (p.2.map V.int)) := fun p hp => Of1.upd x H3 _ _ _ (xks p hp) (k3 p hp)
    have ln2 : (putF "_arrows" (.ref la) (putF "_size" (V.int (n : Int)) [])).length ≤ 2 := Nat.le_trans (len_putF _ _ _) (Nat.succ_le_succ (len_putF _ _ _))
    generalize upd H3 x (.ins CF dx (putF "_arrows" (.ref la) (putF "_size" (.int (n : Int)) []))) = H4 at *
    clear k3 hla hx3 o3 hx2 off2 nla e3
    intro D0 nD0
    refine ⟨by show 1 ≤ sizeLine; decide, fun T0 nT0 => ?_⟩
    have xD0 : D0 ≠ x := fun z => by rw [z, hx4] at nD0; cases nD0
    have nD00 := o4.back xD0 nD0
    have e45 := Ex.new (o := .dK []) nD0
    have e56 := Ex.new (o := .tup [V.ref D0]) nT0
    have hD6 := e56 _ _ (show (upd H4 D0 (.dK [])) D0 = some (.dK []) from upd_same)
    have hT6 : (upd (upd H4 D0 (.dK [])) T0 (.tup [V.ref D0])) T0 = some (.tup [V.ref D0]) := upd_same
    have e46 := e45.trans e56
    generalize upd (upd H4 D0 (.dK [])) T0 (.tup [V.ref D0]) = H6 at *
    have z1 := es_rep (K := K) (σ := [some (.ref x), some (.int (n : Int)), some (.ref l)]) (H := H6) (ta := tC (.ref T0)) (tb := tVar 1) (v := .ref D0) (n := n) (es_var ev_c hT6) (ev_var rfl) hn1 (by omega)
    refine z1 H6 (Ex.refl _) _ fun tb H7 e67 htb => ?_
    have z2 := es_rep (K := K) (σ := [some (.ref x), some (.int (n : Int)), some (.ref l)]) (H := H7) (ta := tTup (tCons (tC .non) tNil)) (tb := tVar 1) (v := .non) (n := n) (es_tup (xs := [.non]) (ea_cons ev_c ea_nil) (by show 1 ≤ 100000; decide)) (ev_var rfl) hn1 (by omega)
    refine z2 H7 (Ex.refl _) _ fun tc H8 e78 htc => ?_
    refine ⟨by show 2 ≤ sizeLine; decide, fun st nst => ?_⟩
    have e89 := Ex.new (o := .tup [V.ref tb, V.ref tc]) nst
    have hst : (upd H8 st (.tup [V.ref tb, V.ref tc])) st = some (.tup [V.ref tb, V.ref tc]) := upd_same
    have e49 := (e46.trans (e67.trans e78)).trans e89
    have htb9 := e89 _ _ (e78 _ _ htb)
    have htc9 := e89 _ _ htc
    have hD9 := e89 _ _ (e78 _ _ (e67 _ _ hD6))
    generalize upd H8 st (.tup [V.ref tb, V.ref tc]) = H9 at *
    have hx9 := e49 _ _ hx4
    refine ⟨.ref x, rfl, x, CF, dx, _, rfl, hx9, X.cl, X.nS, Nat.lt_of_le_of_lt ln2 (by decide), ?_⟩
    have o9 : Of1 x H H9 := o4.trans (Of1.ex e49)
    have ln3 : (putF "_state" (.ref st) (putF "_arrows" (.ref la) (putF "_size" (V.int (n : Int)) []))).length ≤ 3 := Nat.le_trans (len_putF _ _ _) (Nat.succ_le_succ ln2)
    have ln4 : (putF "many" (.int 0) (putF "_state" (.ref st) (putF "_arrows" (.ref la) (putF "_size" (V.int (n : Int)) [])))).length ≤ 4 := Nat.le_trans (len_putF _ _ _) (Nat.succ_le_succ ln3)
    refine ⟨.ref x, rfl, x, CF, dx, _, rfl, upd_same, X.cl, X.nM, Nat.lt_of_le_of_lt ln3 (by decide), ?_⟩
    have eB : Ex G H9 := eG4.trans e49
    have oB := Of1.trans (Of1.upd x H9 (.ins CF dx (putF "_state" (.ref st) (putF "_arrows" (.ref la) (putF "_size" (V.int (n : Int)) []))))) (Of1.upd x _ (.ins CF dx (putF "many" (.int 0) (putF "_state" (.ref st) (putF "_arrows" (.ref la) (putF "_size" (V.int (n : Int)) []))))))
    have hxB : (upd (upd H9 x (.ins CF dx (putF "_state" (.ref st) (putF "_arrows" (.ref la) (putF "_size" (V.int (n : Int)) []))))) x (.ins CF dx (putF "many" (.int 0) (putF "_state" (.ref st) (putF "_arrows" (.ref la) (putF "_size" (V.int (n : Int)) [])))))) x = some (.ins CF dx (putF "many" (.int 0) (putF "_state" (.ref st) (putF "_arrows" (.ref la) (putF "_size" (V.int (n : Int)) []))))) := upd_same
    have eGB : Ex G (upd (upd H9 x (.ins CF dx (putF "_state" (.ref st) (putF "_arrows" (.ref la) (putF "_size" (V.int (n : Int)) []))))) x (.ins CF dx (putF "many" (.int 0) (putF "_state" (.ref st) (putF "_arrows" (.ref la) (putF "_size" (V.int (n : Int)) [])))))) := Ex.mut (Ex.mut eB gx) gx
    generalize upd (upd H9 x (.ins CF dx (putF "_state" (.ref st) (putF "_arrows" (.ref la) (putF "_size" (V.int (n : Int)) []))))) x (.ins CF dx (putF "many" (.int 0) (putF "_state" (.ref st) (putF "_arrows" (.ref la) (putF "_size" (V.int (n : Int)) []))))) = HB at *
    refine ⟨by show 0 ≤ sizeLine; decide, fun pa npa => ?_⟩
    have xpa : pa ≠ x := fun z => by rw [z, hxB] at npa; cases npa
    have eC := Ex.new (o := .lst ([] : List V)) npa
    have hpC : (upd HB pa (.lst ([] : List V))) pa = some (.lst []) := upd_same
    refine ⟨.ref x, rfl, x, CF, dx, _, rfl, eC _ _ hxB, X.cl, X.nP, Nat.lt_of_le_of_lt ln4 (by decide), ?_⟩
    have oF : Of1 x H9 (upd (upd HB pa (.lst ([] : List V))) x (.ins CF dx (putF "_past" (.ref pa) (putF "many" (.int 0) (putF "_state" (.ref st) (putF "_arrows" (.ref la) (putF "_size" (V.int (n : Int)) []))))))) := (oB.trans (Of1.ex eC)).trans (Of1.upd x _ _)
    have hxF : (upd (upd HB pa (.lst ([] : List V))) x (.ins CF dx (putF "_past" (.ref pa) (putF "many" (.int 0) (putF "_state" (.ref st) (putF "_arrows" (.ref la) (putF "_size" (V.int (n : Int)) []))))))) x = some (.ins CF dx (putF "_past" (.ref pa) (putF "many" (.int 0) (putF "_state" (.ref st) (putF "_arrows" (.ref la) (putF "_size" (V.int (n : Int)) [])))))) := upd_same
    have hpF : (upd (upd HB pa (.lst ([] : List V))) x (.ins CF dx (putF "_past" (.ref pa) (putF "many" (.int 0) (putF "_state" (.ref st) (putF "_arrows" (.ref la) (putF "_size" (V.int (n : Int)) []))))))) pa = some (.lst []) := by rw [upd_ne xpa]; exact hpC
    have eGF : Ex G (upd (upd HB pa (.lst ([] : List V))) x (.ins CF dx (putF "_past" (.ref pa) (putF "many" (.int 0) (putF "_state" (.ref st) (putF "_arrows" (.ref la) (putF "_size" (V.int (n : Int)) []))))))) := Ex.mut (eGB.trans eC) gx
    have np9 : H9 pa = none := oB.back xpa npa
    have np0 : H pa = none := o9.back xpa np9
    dsimp only
    generalize upd (upd HB pa (.lst ([] : List V))) x (.ins CF dx (putF "_past" (.ref pa) (putF "many" (.int 0) (putF "_state" (.ref st) (putF "_arrows" (.ref la) (putF "_size" (V.int (n : Int)) [])))))) = HF at *
    have oH : Of1 x H HF := o9.trans oF
    have nx : ∀ {b u}, H9 b = some u → (∀ C d fs, u ≠ .ins C d fs) → b ≠ x := fun {b u} hb hu z => by
      rw [z, hx9] at hb
      cases hb
      exact hu _ _ _ rfl
    have npx : ∀ {b u}, H9 b = some u → b ≠ pa := fun {b u} hb z => by rw [z, np9] at hb; cases hb
    have tupF : ∀ {b xs}, H9 b = some (.tup xs) → NewG G H HF x pa b = some (.tup xs) := fun {b xs} hb => by
      have h1 := nx hb (fun _ _ _ z => by cases z)
      exact newG_tup oH h1 (npx hb) (oF _ _ h1 hb)
    have hla9 := e49 _ _ hla4
    refine k (NewG G H HF x pa) HF pa la us' (newG_ex eG eGF gx np0) (newG_sub eGF) oH (fun b u hb hh hn => newG_nw hb hh hn) np0 ⟨⟨dx, _, st, hxF, ?_, tb, tc, _, tupF hst, tupF htb9, ?_, ?_⟩, ⟨[], hpF, Nat.le_refl _⟩, ?_, ?_, Ne.symm xpa⟩ ?_ ?_
    · refine ⟨?_, ?_, ?_, ?_, lk_putS, ?_, ?_, ?_, ?_, ?_, ?_, Nat.le_trans (len_putF _ _ _) (Nat.le_trans (Nat.succ_le_succ ln4) (by decide))⟩
      · rw [lk_putF (by decide +kernel), lk_putF (by decide +kernel), lk_putF (by decide +kernel), lk_putF (by decide +kernel)]
        exact lk_putS
      · rw [lk_putF (by decide +kernel), lk_putF (by decide +kernel), lk_putF (by decide +kernel)]
        exact lk_putS
      · rw [lk_putF (by decide +kernel), lk_putF (by decide +kernel)]
        exact lk_putS
      · rw [lk_putF (by decide +kernel)]
        exact lk_putS
      all_goals
        rw [lk_putF (by decide +kernel), lk_putF (by decide +kernel), lk_putF (by decide +kernel), lk_putF (by decide +kernel), lk_putF (by decide +kernel)]
        rfl
    · rw [← cV_none]
      exact tupF htc9
    · refine ⟨List.length_replicate, fun r hr => ⟨D0, ?_, [], [], ?_, BkD.nil _ n⟩⟩
      · rw [List.getElem?_replicate, if_pos hr]
      · rw [newG_new xD0 (npx hD9) nD00]
        exact oF _ _ xD0 hD9
    · unfold NewG
      rw [if_pos (.inl rfl)]
    · unfold NewG
      rw [if_pos (.inr rfl)]
    · rw [newG_new xla (npx hla9) nla0]
      exact oF _ _ xla hla9
    · rw [k1, ← k2]
      exact ks_wds fun q hq => tupF (e49 _ _ (k34 q hq))
end
end Wk

set_option Elab.async false
set_option linter.all false
set_option maxRecDepth 100000
set_option maxHeartbeats 4000000
namespace Wk
open PySem PySem.Spec PyProof.Rows L2 Evl
section
variable {P : Program} {w : World} {K : PySem.W.Frag} {mg : Str → Option Value} {base : Heap} {f : Addr} {fd : FuncData} {CF : Addr}
/-! Flood.is_calm -/
/-- no pass along an arrow changes the state -/
noncomputable def calmB (n : Nat) (B : Nat → Bk) (cs : Nat → Option Nat) (js : List Wy) : Bool := js.all fun w => eqSb n (stepB B cs (.pas (w.getD 0 0).toNat (w.getD 1 0).toNat)) cs B cs
def spCalm (CF : Addr) : Sp := fun vs H Q _ => ∃ (G : Hp) (x pa la : Addr) (n m : Nat) (B : Nat → Bk) (cs : Nat → Option Nat) (us : List V) (js : List Wy), vs = [.ref x] ∧ Ex G H ∧ FdA CF G H x pa la n m B cs ∧ n ≤ 8 ∧ G la = some (.lst us) ∧ DqA G us (js.map wd) ∧ (∀ w ∈ js, PrOk n w) ∧ js.length ≤ 64 ∧
  (∀ a b : Nat, [(a : Int), (b : Int)] ∈ js → newer (B b) (B a) b = true → ∃ c, cs b = some c) ∧ ∀ H', Ex H H' → Q (.bl (calmB n B cs js)) H'
abbrev sCalm : Stmt := inClass (top 21) 5
abbrev nCalm : List Str := ["self", "a", "b"]
theorem scCalm : FnScope nCalm ["self"] (defScope sCalm) := ⟨rfl, rfl, rfl, by decide +kernel, rfl, by decide +kernel, by decide +kernel⟩
theorem ok_calm (B0 : Bl mg) (X : FX K CF) (CB : Cal P w K mg base "behind" ["state", "deed"] 3 spBeh) (F : FnM K "is_calm" "Flood.is_calm" sCalm f fd) : FnOk P w K mg base CX0 4 f fd ["self"] (spCalm CF) := by
  refine F.ok scCalm (fun vs H Q E h => ?_) (fun cdv A outer s H vs Q E hr h => ?_)
  · obtain ⟨G, x, pa, la, n, m, B, cs, us, js, rfl, _⟩ := h
    rfl
  · obtain ⟨G, x, pa, la, n, m, B, cs, us, js, rfl, eG, hF, hn, gla, hus, hok, hjl, hmay, k⟩ := h
    have hu : (A.deeper (envOfC "Flood.is_calm" (defScope sCalm) s.heap.objs.size f cdv)).units + 64 < cLine := by have := hr.un; omega
    refine ⟨_, pss_one (ps_ret (pe_callB (cr_all rfl) (by rfl) B0.all boot_all (pa_cons
      (pe_lc (own := [("a", 1), ("b", 2)]) (g := gTup K 2 (gCons (gName 1) (gCons (gName 2) gNil))) (tt := tYes) (te := tOp rEqX (tCall spBeh [] E0 (tCons (tFld K (tVar 0) "_state") (tCons (tTup (tCons (tC (.str "pass")) (tCons (tVar 1) (tCons (tVar 2) tNil)))) tNil))) (tFld K (tVar 0) "_state")) rfl scCalm.nd
        (pi_list (pe_fld (pv 0) rfl)) (blkOk_by (N := nCalm) (sc := defScope sCalm) (by decide +kernel)) (fun _ _ _ _ _ => pg_tup rfl (pgs_cons (pg_name (i := 1) scCalm.nd rfl (Or.inl rfl)) (pgs_cons (pg_name (i := 2) scCalm.nd rfl (Or.inl rfl)) pgs_nil)))
        (fun _ _ _ _ _ => pts_nil)
        (fun _ _ _ _ _ => pe_cmpR (op_eqX hu) (pe_cal CB hr (by rfl) (pa_cons (pe_fld (pv 0) rfl) (pa_cons (pe_tup (pa_cons pe_str (pa_cons (pv 1) (pa_cons (pv 2) pa_nil)))) pa_nil))) (pe_fld (pv 0) rfl) rfl)) pa_nil))), ?_⟩
    obtain ⟨dx, fs, st, hx, ff, hst⟩ := hF.ob
    have hul := hus.length
    rw [List.length_map] at hul
    let v : Nat → Bool := fun j => eqSb n (stepB B cs (.pas ((js.getD j []).getD 0 0).toNat ((js.getD j []).getD 1 0).toNat)) cs B cs
    refine ⟨.ref x, rfl, x, CF, dx, fs, _, rfl, hx, X.cl, X.nA, ff.ar, la, rfl, ⟨us, sq_of (eG _ _ gla)⟩, fun D hD => ?_⟩
    refine lc_it (walk_list (K := K) (a := la) (xs := us)) (fun i H' => Ex H H' ∧ H' D = some (.lst ((List.range i).map fun j => V.bl (v j)))) ⟨Ex.new hD, upd_same⟩ (fun i H' _ p => sq_of (p.1 _ _ (eG _ _ gla))) (fun i y H1 H2 hi p yt => ?_) (fun H' p => ?_)
    · obtain ⟨rfl, hy⟩ := yt
      obtain ⟨e1, hD1⟩ := p
      obtain ⟨w, h1, h2⟩ := DqA.wds_inv hus hy
      obtain ⟨ta, rfl, hta⟩ := wd_ref h2
      have hwm := List.mem_of_getElem? h1
      obtain ⟨a, b, rfl, ha, hb, _⟩ := hok w hwm
      have eG1 := eG.trans e1
      have hjd : js.getD i [] = [(a : Int), (b : Int)] := by rw [List.getD_eq_getElem?_getD, h1]; rfl
      refine ⟨ta, _, rfl, st_of (eG1 _ _ hta), rfl, g_two ⟨rfl, ?_⟩⟩
      unfold tYes
      dsimp only
      rw [if_pos rfl]
      change tOp rEqX _ _ [some (.ref x), some (.int (a : Int)), some (.int (b : Int))] _ _
      refine ⟨.ref x, rfl, x, CF, dx, fs, _, rfl, e1 _ _ hx, X.cl, X.nS, ff.st, .int (a : Int), rfl, .int (b : Int), rfl, by show 3 ≤ sizeLine; decide, fun t ht => ?_⟩
      have eN := Ex.new (o := .tup [V.str "pass", .int (a : Int), .int (b : Int)]) ht
      refine ⟨G, st, t, n, B, cs, .pas a b, rfl, eG1.trans eN, hst, hn, upd_same, ⟨ha, hb, hmay a b hwm⟩, fun G' H3 st' gz hst' => ?_⟩
      have e03 := (e1.trans eN).trans gz.hx
      refine ⟨.ref x, rfl, x, CF, dx, fs, _, rfl, e03 _ _ hx, X.cl, X.nS, ff.st, ?_⟩
      refine eq_states gz.sub gz.sub hst' (hst.mono gz.ex) ?_
      refine ⟨_, gz.hx _ _ (eN _ _ hD1), by rw [List.length_map, List.length_range, sizeLine_eq]; omega, Ex.mut e03 hD, ?_⟩
      rw [upd_same, List.range_succ, List.map_append]
      show _ = some (HO.lst (_ ++ [V.bl (v i)]))
      have ev : v i = eqSb n (stepB B cs (.pas a b)) cs B cs := by
        show eqSb n (stepB B cs (.pas ((js.getD i []).getD 0 0).toNat ((js.getD i []).getD 1 0).toNat)) cs B cs = _
        rw [hjd]
        rfl
      rw [ev]
      rfl
    · obtain ⟨e1, hD1⟩ := p
      refine ⟨D, (List.range us.length).map v, rfl, by rw [List.map_map]; exact sq_of hD1, ?_⟩
      have ez : ((List.range us.length).map v).all id = calmB n B cs js := by
        rw [List.all_map, hul]
        unfold calmB
        rw [Bool.eq_iff_iff, List.all_eq_true, List.all_eq_true]
        constructor
        · intro h w hw
          obtain ⟨i, hi, rfl⟩ := List.mem_iff_getElem.mp hw
          have z := h i (List.mem_range.mpr hi)
          have e : js.getD i [] = js[i] := by rw [List.getD_eq_getElem?_getD, List.getElem?_eq_getElem hi]; rfl
          show eqSb n (stepB B cs (.pas ((js[i]).getD 0 0).toNat ((js[i]).getD 1 0).toNat)) cs B cs = true
          rw [← e]
          exact z
        · intro h i hi
          have hi := List.mem_range.mp hi
          have z := h js[i] (List.getElem_mem hi)
          have e : js.getD i [] = js[i] := by rw [List.getD_eq_getElem?_getD, List.getElem?_eq_getElem hi]; rfl
          show eqSb n (stepB B cs (.pas ((js.getD i []).getD 0 0).toNat ((js.getD i []).getD 1 0).toNat)) cs B cs = true
          rw [e]
          exact z
      rw [ez]
      exact k H' e1
end
end Wk

set_option Elab.async false
set_option linter.all false
set_option maxRecDepth 100000
set_option maxHeartbeats 4000000
namespace Wk
open PySem PySem.Spec PyProof.Rows L2 Evl
theorem Deed.short (x : Deed) : (itemsT x.d).length ≤ 1000 := by
  cases x <;> (show _ ≤ 1000; simp [Deed.d, Deed.ds, itemsT])
section
variable {P : Program} {w : World} {K : PySem.W.Frag} {mg : Str → Option Value} {base : Heap} {f : Addr} {fd : FuncData} {CF CD : Addr}
/-! Flood.do -/
def spDo (CF CD : Addr) : Sp := fun vs H Q E => ∃ (G : Hp) (x pa la : Addr) (v : V) (n m : Nat) (B : Nat → Bk) (cs : Nat → Option Nat) (us : List V) (js : List Wy), vs = [.ref x, v] ∧ Ex G H ∧ FdA CF G H x pa la n m B cs ∧ n ≤ 8 ∧ m < 10000 ∧ G la = some (.lst us) ∧ DqA G us (js.map wd) ∧
  ((∃ (t : Addr) (d : Deed) (rs : Bool), v = .ref t ∧ H t = some (.tup d.vs) ∧ d.may n B cs ∧ d.ok n js rs ∧ ∀ G' H', Gm x pa G H G' H' → FdA CF G' H' x pa la n (m + 1) (stepB B cs d) (stepC cs d) → Q (.bl (!eqSb n (stepB B cs d) (stepC cs d) B cs)) H') ∨
   (∃ d, Dq H v d ∧ (itemsT d).length ≤ 1000 ∧ isFD n js d = false ∧ ∀ H', Ex H H' → E (.ref CD) none H'))
abbrev sDo : Stmt := inClass (top 21) 1
theorem scDo : FnScope ["self", "deed"] ["self", "deed"] (defScope sDo) := ⟨rfl, rfl, rfl, by decide +kernel, rfl, by decide +kernel, by decide +kernel⟩
theorem ok_do (X : FX K CF) (TD : ErrN K mg "BadDeed" CD) (CC : Cal P w K mg base "is_flood_deed" ["size", "arrows", "thing"] 4 spFD) (MG : Msk P w K mg base CF "_go" ["self", "deed"] 4 (spGo CF)) (F : FnM K "do" "Flood.do" sDo f fd) : FnOk P w K mg base (L2.CX P w) 5 f fd ["self", "deed"] (spDo CF CD) := by
  obtain ⟨f1, fd1, me1, F1, b1⟩ := MG.ex
  refine F.ok scDo (fun vs H Q E h => ?_) (fun cdv A outer s H vs Q E hr h => ?_)
  · obtain ⟨G, x, pa, la, v, n, m, B, cs, us, js, rfl, _⟩ := h
    rfl
  · obtain ⟨G, x, pa, la, v, n, m, B, cs, us, js, rfl, eG, hF, hn, hm, gla, hus, hv⟩ := h
    have r3 : Room 4 _ := hr.mono (by decide)
    refine ⟨_, pss_cons (ps_if (pt_not (pt_val (pe_cal CC hr (by rfl) (pa_cons (pe_fld (pv 0) rfl) (pa_cons (pe_fld (pv 0) rfl) (pa_cons (pv 1) pa_nil)))))) (pss_one (ps_raise rfl (takes_of rfl rfl rfl rfl) (pmk_errN rfl rfl TD (by rfl)))) pss_nil)
      (pss_one (ps_ret (pe_meth (pv 0) X.cl me1 F1 r3 b1 .nil pass0 (pa_cons (pv 1) pa_nil)))), ?_⟩
    obtain ⟨dx, fs, st, hx, ff, hst⟩ := hF.ob
    have fZ : Ev (tFld K (tVar 0) "_size") (start ["self", "deed"] [.ref x, v]) H (.int (n : Int)) := fun H2 e2 Q2 q => ⟨.ref x, rfl, x, CF, dx, _, _, rfl, e2 _ _ hx, X.cl, X.nZ, ff.sz, q H2 (Ex.refl H2)⟩
    have fA : Ev (tFld K (tVar 0) "_arrows") (start ["self", "deed"] [.ref x, v]) H (.ref la) := fun H2 e2 Q2 q => ⟨.ref x, rfl, x, CF, dx, _, _, rfl, e2 _ _ hx, X.cl, X.nA, ff.ar, q H2 (Ex.refl H2)⟩
    have c1 : ∀ (d : PyData), Dq H v d → (itemsT d).length ≤ 1000 → Ev (tCall spFD [] E0 (tCons (tFld K (tVar 0) "_size") (tCons (tFld K (tVar 0) "_arrows") (tCons (tVar 1) tNil)))) (start ["self", "deed"] [.ref x, v]) H (.bl (isFD n js d)) := fun d hd hl => ev_call (ea_cons fZ (ea_cons fA (ea_cons (ev_var rfl) ea_nil))) (spP_v fun H1 e => ⟨n, la, v, d, us, js, rfl, e _ _ (eG _ _ gla), hus.mono (eG.trans e), hd.mono e, hl, rfl⟩)
    rcases hv with ⟨t, d, rs, rfl, ht, hd, hok, k⟩ | ⟨d, hd, hl, hb, k⟩
    · have c2 := c1 d.d (Deed.dq ht) d.short
      rw [Deed.good hok] at c2
      refine q_when (b := !true) (et_not (et_B c2)) (fun z => by cases z) fun _ H1 e1 => ?_
      refine ⟨.ref x, rfl, x, dx, fs, rfl, e1 _ _ hx, ff.n2, .ref t, rfl, G, x, pa, la, t, n, m, B, cs, d, rfl, eG.trans e1, hF.ext e1, hn, hm, e1 _ _ ht, hd, fun G' H' gm hF' => ?_⟩
      exact k G' H' ⟨gm.ex, fun b u h1 h2 hb => gm.off b u h1 h2 (e1 _ _ hb), gm.sub, fun b u hb hh hn => gm.nw b u hb (e1 _ _ hh) hn⟩ hF'
    · have c2 := c1 d hd hl
      rw [hb] at c2
      exact q_when (b := !false) (et_not (et_B c2)) (fun _ H1 e1 => k H1 e1) (fun z => by cases z)
end
end Wk

set_option Elab.async false
set_option linter.all false
set_option maxRecDepth 100000
set_option maxHeartbeats 4000000
namespace Wk
open PySem PySem.Spec PyProof.Rows L2 Evl
/-! promises of defs that are called where no repr is under way -/
structure FnG (P : Program) (w : World) (K : PySem.W.Frag) (mg : Str → Option Value) (base : Heap) (k : Nat) (f : Addr) (fd : FuncData) (ps : List Str) (sp : Sp) : Prop where
  len : ∀ vs H Q E, sp vs H Q E → vs.length = ps.length
  run : ∀ (A : Around) (outer : List Env) (s : Shared) (H : Hp) (args : Args) (us : List Value) (vs : List V) (Q : VK) (E : XK), Room k A → A.guards = some [] → Env0 P w K mg base A outer s H → BindsTo s fd args (ps.zip us) → Vals vs us → sp vs H Q E →
    codeAny (model P w) A (.call (.ref f) args) (CR CX0 outer P w H s Q E) s
section
variable {P : Program} {w : World} {K : PySem.W.Frag} {mg : Str → Option Value} {base : Heap} {x qual : Str} {params : Arguments} {body : List Stmt} {scope : Scope} {dvs : List V} {kws : List (Str × V)} {f : Addr} {fd : FuncData}
theorem okG {N ps : List Str} {k : Nat} {sp : Sp} (F : FunD K x qual params body scope dvs kws f fd) (S : FnScope N ps scope) (len : ∀ vs H Q E, sp vs H Q E → vs.length = ps.length)
    (hbody : ∀ (cdv : Value) (A : Around) (outer : List Env) (s : Shared) (H : Hp) (vs : List V) (Q : VK) (E : XK), Room k (A.deeper (envOfC qual scope s.heap.objs.size f cdv)) → (A.deeper (envOfC qual scope s.heap.objs.size f cdv)).guards = some [] → sp vs H Q E →
      ∃ t, PSs (cxOf CX0 P w K mg base N qual scope f cdv A outer s H E) body t ∧ t { nx := fun _ H' => Q .non H', rt := Q } (start N vs) H) : FnG P w K mg base (k + 1) f fd ps sp := by
  obtain ⟨oc, od, dV, kV, doc, pm, an, cdv, ct, osl, rfl, lk, cd, _, _⟩ := F.ex
  refine ⟨len, fun A outer s H args us vs Q E hr hg e0 hb r hsp => ?_⟩
  have KX : K.In s.heap := e0.mod.kin.keeps fun b o e => (e0.bs b o e).1
  have lim : s.heap.NoLimit := e0.mod.nolimit.keeps fun b o e => (e0.bs b o e).1
  have kinds : ∀ y ∈ ps.zip us, scope.names.lookup y.1 = some .local ∨ (scope.names.lookup y.1 = some .cell ∧ ((cellsFrom (s.heap.objs.size + 1) scope.names []).lookup y.1).isSome = true) := fun y hy =>
    (S.par y.1 (List.of_mem_zip hy).1).elim .inl fun q => .inr ⟨q, PySem.W.cellsFrom_some _ _ _ (.inl q)⟩
  refine codeAny_call_function hr.depth (KX _ _ lk) rfl S.co S.gen rfl (PySem.W.codeRec_of KX cd) (hb _ _ _ _ (wpAny_newFunctionEnv_cells S.kind kinds fun env he s1 x => ?_))
  subst he
  refine ⟨lim.keeps x.toInCall.keep, codeAny_func ?_⟩
  obtain ⟨t, ht, hq⟩ := hbody cdv A outer s H vs Q E (hr.deeper _) hg hsp
  have I : Inv (cxOf CX0 P w K mg base N qual scope f cdv A outer s H E) [] (start N vs) H s1 := inv_start S hr.hd e0 (len _ _ _ _ hsp) r x
  refine wpAny_mono (ht.run [] s1 (start N vs) H _ I hq) (fun fl s' hs => ?_) fun e s' hs => hs
  cases fl with
  | ret u =>
    obtain ⟨v, σ', H', J, rv, q⟩ := hs
    exact ⟨v, H', J.os, J.bare, J.base, J.hok, rv, q⟩
  | next =>
    obtain ⟨σ', H', J, q⟩ := hs
    exact ⟨V.non, H', J.os, J.bare, J.base, J.hok, rfl, q⟩
  | brk => exact (hs.choose_spec.choose_spec.2 : False).elim
  | cont => exact (hs.choose_spec.choose_spec.2 : False).elim
end
structure CalG (P : Program) (w : World) (K : PySem.W.Frag) (mg : Str → Option Value) (base : Heap) (x : Str) (ps : List Str) (k : Nat) (sp : Sp) : Prop where
  ex : ∃ (f : Addr) (fd : FuncData), FnG P w K mg base k f fd ps sp ∧ mg x = some (.ref f) ∧ PySem.W.keepIn K (.ref f) = true ∧ Binds K fd ps []
section
variable {X : Cx}
theorem pe_calG {x : Str} {p pos : Pos} {e : Expr} {es : List Expr} {ps : List Str} {k : Nat} {sp : Sp} {t : TA} (C : CalG X.prog X.w X.K X.mg X.base x ps k sp) (hr : Room k X.A) (gu : X.A.guards = some []) (hg : Gl X x) (ha : PA X (e :: es) t)
    (hdb : (x == ("__debug__" : Str)) = false := by decide) (he : starEach (e :: es) X.env = (false, eval e X.env) :: starEach es X.env := by rfl) (hpl : (backTo pos (starEach es X.env)).any (·.1) = false := by rfl) :
    PE X (.Call (.Name x p) (e :: es) [] pos) (tCall sp [] E0 t) := by
  obtain ⟨f, fd, Fn, g, kp, b⟩ := C.ex
  refine ⟨fun pins s σ H Q I h => wpAny_Call_Name_kw (ld_glob I hg g (PySem.W.callWith_K (h₀ := X.base) I.ok.mod.kin kp (thn (ha.run pos pins s σ H _ I h) fun us s1 hh => ?_) he hpl) hdb)⟩
  obtain ⟨vs, H1, I1, r, q⟩ := hh
  rw [List.append_nil] at q
  have hl : us.length = ps.length := by rw [← r.length]; exact Fn.len _ _ _ _ q
  have bd := b s1 us I1.kIn (by rw [List.append_nil]; exact hl)
  rw [List.append_nil] at bd
  refine ⟨I1.kIn, wpAny_call (codeAny_mono (Fn.run X.A X.stack s1 H1 ⟨us, []⟩ us vs Q E0 hr gu I1.env0 bd r q) fun r s' out => ?_)⟩
  cases r with
  | error er => exact False.elim out
  | ok fl =>
    cases fl with
    | ret u => exact I1.after out
    | next => exact False.elim out
    | brk => exact False.elim out
    | cont => exact False.elim out
/-- repr(x) of data -/
def rRepr (K : PySem.W.Frag) : List V → Hp → VK → Prop := fun xs H Q => ∃ v d, xs = [v] ∧ Dp K H v d ∧ d.showable = true ∧ d.hasDict = false ∧ d.depth ≤ 60 ∧ d.shown.length ≤ sizeLine ∧ Q (.str d.shown) H
theorem call_reprD (gu : X.A.guards = some []) (hu : X.A.units + 64 < cLine) : CallR X (.builtin "repr") (rRepr X.K) := fun pins s σ H xs us Q I r h => by
  obtain ⟨v, d, rfl, hd, sh, nd, dp, sz, q⟩ := h
  obtain ⟨u, rfl, ru⟩ := Vals.one r
  obtain ⟨as, rd⟩ := Dp.reads I d v u hd ru
  cases hd with
  | non => cases ru; exact PySem.P.repr_of_none ⟨.str _, H, I.tok _, ⟨_, rfl⟩, q⟩
  | bl b =>
    cases ru
    refine PySem.P.repr_of_bool ⟨.str _, H, I.tok _, ⟨_, rfl⟩, ?_⟩
    cases b <;> exact q
  | int i =>
    obtain ⟨t, rfl⟩ := ru
    exact PySem.P.repr_of_int (by simpa [PyData.showable] using sh) ⟨.str _, H, I.tok _, ⟨_, rfl⟩, q⟩
  | str z =>
    obtain ⟨t, rfl⟩ := ru
    exact PySem.P.repr_of_str ⟨.str _, H, I.tok _, ⟨_, rfl⟩, q⟩ sz
  | lst h1 h2 =>
    cases ru
    exact repr_of_reads' rd sh (fun z => by rw [nd] at z; cases z) gu (by omega) (fun b o e => e) (fun h' u tk k => ⟨.str _, H, I.kept k, ⟨_, rfl⟩, q⟩) sz
  | tup h1 h2 =>
    cases ru
    exact repr_of_reads' rd sh (fun z => by rw [nd] at z; cases z) gu (by omega) (fun b o e => e) (fun h' u tk k => ⟨.str _, H, I.kept k, ⟨_, rfl⟩, q⟩) sz
end
end Wk

set_option Elab.async false
set_option linter.all false
set_option maxRecDepth 100000
set_option maxHeartbeats 4000000
namespace Wk
open PySem PySem.Spec PyProof.Rows L2 Evl
/-! floods without any entry -/
def B0 : Nat → Bk := fun _ _ => none
def C0 : Nat → Option Nat := fun _ => none
structure Em (CF : Addr) (G H : Hp) (x pa la : Addr) (n m : Nat) (us : List V) (js : List Wy) : Prop where
  f : FdA CF G H x pa la n m B0 C0
  n8 : n ≤ 8
  la : G la = some (.lst us)
  us : DqA G us (js.map wd)
  pr : ∀ w ∈ js, PrOk n w
  jl : js.length ≤ 64
theorem Em.ext {CF : Addr} {G H H' : Hp} {x pa la : Addr} {n m : Nat} {us : List V} {js : List Wy} (h : Em CF G H x pa la n m us js) (e : Ex H H') : Em CF G H' x pa la n m us js := ⟨h.f.ext e, h.n8, h.la, h.us, h.pr, h.jl⟩
theorem Em.gm {CF : Addr} {G H G' H' : Hp} {x pa la : Addr} {n m m' : Nat} {us : List V} {js : List Wy} (h : Em CF G H x pa la n m us js) (g : Gm x pa G H G' H') (hf : FdA CF G' H' x pa la n m' B0 C0) : Em CF G' H' x pa la n m' us js := ⟨hf, h.n8, g.ex _ _ h.la, h.us.mono g.ex, h.pr, h.jl⟩
theorem step0p (a b : Nat) : stepB B0 C0 (.pas a b) = B0 := by
  funext k j
  show (if k = b then mergeX (B0 b) (B0 a) b (C0 b) else B0 k) j = none
  split
  · simp [mergeX, bumpB, greaterB, newer, B0, C0]
  · rfl
theorem step0l (a b : Nat) : stepB B0 C0 (.los a b) = B0 := rfl
theorem eq0 (n : Nat) : eqSb n B0 C0 B0 C0 = true := eqSb_yes ⟨fun _ _ => rfl, fun _ _ => rfl⟩
theorem calm0 (n : Nat) (js : List Wy) : calmB n B0 C0 js = true := by
  unfold calmB
  rw [List.all_eq_true]
  intro w _
  rw [step0p]
  exact eq0 n
theorem may0 {n : Nat} {a b : Nat} (ha : a < n) (hb : b < n) : (Deed.pas a b).may n B0 C0 := ⟨ha, hb, fun z => by simp [newer, B0] at z⟩
/-- t == u, equal plain items -/
def rEqSm (K : PySem.W.Frag) : R2 := fun x y H Q => ∃ a b xs, x = .ref a ∧ y = .ref b ∧ SqT K H a xs ∧ SqT K H b xs ∧ xs.all flatV = true ∧ (∀ z ∈ xs, eqV z z = true) ∧ Q (.bl true) H
theorem op_eqSm {X : Cx} {K : PySem.W.Frag} (hK : X.K = K) (hu : X.A.units < cLine) : OpR X (compareOp .Eq) (rEqSm K) := by
  subst hK
  intro pins s σ H x y v u Q I rx ry h
  obtain ⟨a, b, xs, rfl, rfl, ha, hb, hf, he, q⟩ := h
  cases rx
  cases ry
  obtain ⟨its, r1, p1, _⟩ := I.tuple ha
  obtain ⟨its2, r2, p2, _⟩ := I.tuple hb
  have l1 := r1.length
  have l2 := r2.length
  refine SeqAt.eq_tupleAt (e := fun _ => true) p1 p2 hu (fun j h1 h2 => ?_) ⟨.bl true, H, I, ?_, q⟩
  · have hj : j < xs.length := by simp at h1; omega
    have hx : xs[j]? = some xs[j] := List.getElem?_eq_getElem hj
    obtain ⟨u1, e1, q1⟩ := r1.get hx
    obtain ⟨u2, e2, q2⟩ := r2.get hx
    have f1 := List.all_eq_true.mp hf xs[j] (List.getElem_mem hj)
    have z := eqAt_V (A := X.A.in1) (s := s) q1 q2 f1 f1
    rw [he _ (List.getElem_mem hj)] at z
    have i1 : its.toArray[j] = u1 := by
      have := (List.getElem?_eq_some_iff.mp e1).2
      simpa using this
    have i2 : its2.toArray[j] = u2 := by
      have := (List.getElem?_eq_some_iff.mp e2).2
      simpa using this
    rw [i1, i2]
    exact z
  · show Value.bool _ = Value.bool true
    have : its.length = its2.length := by omega
    simp [this]
/-- repr of data, or of an empty dict -/
def Shw (K : PySem.W.Frag) (H : Hp) (v : V) (d : PyData) : Prop := (Dq H v d ∧ d.canLay0 = true ∧ d.showable = true ∧ d.hasDict = false ∧ d.depth ≤ 60 ∧ d.shown.length ≤ sizeLine) ∨ (d = .dict [] ∧ ∃ a, v = .ref a ∧ H a = some (.dK []))
theorem Shw.mono {K : PySem.W.Frag} {H H' : Hp} {v : V} {d : PyData} (e : Ex H H') (h : Shw K H v d) : Shw K H' v d := h.imp (fun h => ⟨h.1.mono e, h.2⟩) fun ⟨h1, a, h2, h3⟩ => ⟨h1, a, h2, e _ _ h3⟩
def rReprX (K : PySem.W.Frag) : List V → Hp → VK → Prop := fun xs H Q => ∃ v d, xs = [v] ∧ Shw K H v d ∧ Q (.str d.shown) H
theorem call_reprX {X : Cx} {K : PySem.W.Frag} (hK : X.K = K) (gu : X.A.guards = some []) (hu : X.A.units + 64 < cLine) : CallR X (.builtin "repr") (rReprX K) := by
  subst hK
  intro pins s σ H xs us Q I r h
  obtain ⟨v, d, rfl, hs | ⟨rfl, a, rfl, ha⟩, q⟩ := h
  · obtain ⟨h1, h2, h3, h4, h5, h6⟩ := hs
    exact call_reprD gu hu pins s σ H _ us Q I r ⟨v, d, rfl, Dq.dp h2 h1, h3, h4, h5, h6, q⟩
  · obtain ⟨u, rfl, ru⟩ := vals1 r
    cases ru
    obtain ⟨_, hd, vs, rel, o, es, ep, h1, h2, h3, _, h5, _⟩ := (show ObjOk X.prog X.w H s.heap a (.dK []) from I.hok a _ ha)
    cases rel
    have e0 : es.toList = [] := by
      generalize es.toList = l at h5
      cases h5
      rfl
    have rd : Reads s.heap (.ref a) (.dict []) (a :: [] ++ []) := .dict (kvs := []) h1 h2.1 h3 (by rw [e0]; exact .nil) (by rw [e0]; exact .nil)
    refine repr_of_reads' rd (by rfl) (fun _ z => ?_) gu (by show _ + (PyData.depth (.dict []) + 1) < _; rw [show PyData.depth (.dict []) = 1 by rfl]; omega) (fun b o e => e) (fun h' u tk k => ⟨.str _, H, I.kept k, ⟨_, rfl⟩, q⟩) (by decide +kernel)
    have : sysModules = a := by simpa using z
    rw [this] at hd
    simp at hd
end Wk

set_option Elab.async false
set_option linter.all false
set_option maxRecDepth 100000
set_option maxHeartbeats 4000000
namespace Wk
open PySem PySem.Spec PyProof.Rows L2 Evl
def rListD : List V → Hp → VK → Prop := fun xs H Q => ∃ (a : Addr) (kvs : List (L2.Key × V)), xs = [.ref a] ∧ Rd H a (.dK kvs) ∧ ∀ p, H p = none → Q (.ref p) (upd H p (.lst (kvs.map fun kv => kV kv.1)))
theorem call_listD' {X : Cx} (hc : X.calm = true) : CallR X (.type "list") rListD := call_listD hc
theorem perm_asc : ∀ {a b : List Int}, a.Perm b → a.Pairwise (· ≤ ·) → b.Pairwise (· ≤ ·) → a = b
  | [], b, p, _, _ => (List.Perm.nil_eq p)
  | x :: a, [], p, _, _ => absurd p.length_eq (by simp)
  | x :: a, y :: b, p, h1, h2 => by
    have h1' := List.pairwise_cons.mp h1
    have h2' := List.pairwise_cons.mp h2
    have e : x = y := by
      have hx : x ∈ y :: b := p.mem_iff.mp List.mem_cons_self
      have hy : y ∈ x :: a := p.mem_iff.mpr List.mem_cons_self
      have l1 : y ≤ x := by
        rcases List.mem_cons.mp hx with z | z
        · omega
        · exact h2'.1 x z
      have l2 : x ≤ y := by
        rcases List.mem_cons.mp hy with z | z
        · omega
        · exact h1'.1 y z
      omega
    subst e
    rw [perm_asc (List.Perm.cons_inv p) h1'.2 h2'.2]
section
variable {K : PySem.W.Frag} {σ : L2.St} {H : Hp} {ta tb te : TE}
theorem el_listD {a : Addr} {kvs : List (L2.Key × V)} {ks : List Int} (ha : Ev ta σ H (.ref a)) (hr : Rd H a (.dK kvs)) (nk : NK kvs ks) : EvL (tCB rListD (tCons ta tNil)) σ H (ks.map V.int) := fun H1 e Q q =>
  ha H1 e _ fun H2 e2 => ⟨a, kvs, rfl, rd_up (e.trans e2) hr, fun p hp => q p _ (fresh_back e2 hp) (e2.trans (Ex.new hp)) (by rw [upd_same, keysV nk])⟩
theorem el_sortP {ks ys : List Int} (ha : EvL ta σ H (ks.map V.int)) (p : ys.Perm ks) (h : ys.Pairwise (· ≤ ·)) : EvL (tCB (rSortedI K) (tCons ta tNil)) σ H (ys.map V.int) := fun H1 e Q q =>
  ha H1 e _ fun r H2 hr e2 h2 => ⟨r, ks, rfl, sq_of h2, fun ns l pm pw hl => by
    rw [perm_asc (pm.trans p.symm) pw h]
    exact q l _ (fresh_back e2 hl) (e2.trans (Ex.new hl)) upd_same⟩
theorem el_sortI {ks : List Int} (ha : EvL ta σ H (ks.map V.int)) (h : ks.Pairwise (· ≤ ·)) : EvL (tCB (rSortedI K) (tCons ta tNil)) σ H (ks.map V.int) := fun H1 e Q q =>
  ha H1 e _ fun p H2 hp e2 h2 => ⟨p, ks, rfl, sq_of h2, fun ns l pm pw hl => by
    rw [perm_asc pm pw h]
    exact q l _ (fresh_back e2 hl) (e2.trans (Ex.new hl)) upd_same⟩
theorem shaped_intsL (ns : List Int) : SeqAt.shaped (.list (ns.map PyData.int)) = true := by
  unfold SeqAt.shaped
  have h1 := lay_ints ns
  have h2 := depth_ints ns
  simp [PyData.canLay0, PyData.depth, h1, h2]
theorem ev_neL {xs ys : List Int} (ha : EvL ta σ H (xs.map V.int)) (hb : EvL tb σ H (ys.map V.int)) : Ev (tOp (rNeD K) ta tb) σ H (.bl (!decide (xs = ys))) := fun H1 e Q q =>
  ha H1 e _ fun p H2 _ e2 hp => hb H2 (e.trans e2) _ fun r H3 _ e3 hr => by
    refine ⟨.list (xs.map PyData.int), .list (ys.map PyData.int), Dq.dp ?_ (.lst (e3 _ _ hp) (DqA.ints xs)), Dq.dp ?_ (.lst hr (DqA.ints ys)), shaped_intsL xs, shaped_intsL ys, ?_⟩
    · simp [PyData.canLay0, lay_ints]
    · simp [PyData.canLay0, lay_ints]
    · have z : PyData.eqv (.list (xs.map PyData.int)) (.list (ys.map PyData.int)) = decide (xs = ys) := eqv_ints xs ys
      rw [z]
      exact q H3 (e2.trans e3)
theorem ev_neT {a : Addr} {xs ys : Wy} (h1 : Ev ta σ H (.ref a)) (ha : H a = some (.tup (xs.map V.int))) (hb : EvS tb σ H (ys.map V.int)) : Ev (tOp (rNeD K) ta tb) σ H (.bl (!decide (xs = ys))) := fun H1 e Q q =>
  h1 H1 e _ fun H2 e2 => hb H2 (e.trans e2) _ fun r H3 e3 hr => by
    refine ⟨wd xs, wd ys, Dq.dp ?_ (wd_of (((e.trans e2).trans e3) _ _ ha)), Dq.dp ?_ (wd_of hr), shaped_ints xs, shaped_ints ys, ?_⟩
    · simp [wd, PyData.canLay0, lay_ints]
    · simp [wd, PyData.canLay0, lay_ints]
    · rw [eqv_wd]
      exact q H3 (e2.trans e3)
theorem ev_isiD {a : Addr} {kvs : List (L2.Key × V)} (h : Ev ta σ H (.ref a)) (hd : H a = some (.dK kvs)) : Ev (tCB (rIsi K) (tCons ta (tCons (tC (.ty "dict")) tNil))) σ H (.bl true) := fun H1 e Q q =>
  h H1 e _ fun H2 e2 => ⟨.ref a, .ty "dict", .type "dict", .type "dict", true, rfl, .ty "dict", .base (.dK ((e.trans e2) _ _ hd)), kit_ty (show kitB "dict" "dict" = some true by decide +kernel), q H2 e2⟩
end
def nV (ws : List Nat) : List V := ws.map fun (c : Nat) => V.int (c : Int)
theorem nV_at {ws : List Nat} {i c : Nat} (h : ws[i]? = some c) : (nV ws)[i]? = some (.int (c : Int)) := by
  unfold nV
  rw [List.getElem?_map, h]
  rfl
theorem nV_len (ws : List Nat) : (nV ws).length = ws.length := by unfold nV; simp
def waV (n : Nat) (wa : Nat → Addr) : List V := (List.range n).map fun r => V.ref (wa r)
theorem waV_at {n : Nat} {wa : Nat → Addr} {r : Nat} (h : r < n) : (waV n wa)[r]? = some (.ref (wa r)) := by
  unfold waV
  rw [List.getElem?_map, List.getElem?_range h]
  rfl

/-! two routers' books -/
def SB (a b : Nat) (oa ob ba bb : Option Ent) : Nat → Bk := fun r => if r = a then (fun k => if k = a then oa else if k = b then ob else none) else if r = b then (fun k => if k = a then ba else if k = b then bb else none) else fun _ => none
def SC (a b : Nat) (ca cb : Option Nat) : Nat → Option Nat := fun r => if r = a then ca else if r = b then cb else none
theorem step_wa {a b c : Nat} {oa ob ba bb : Option Ent} {cs : Nat → Option Nat} : stepB (SB a b oa ob ba bb) cs (.wri a c) = SB a b (some (numN oa, c)) ob ba bb := by
  funext r k
  show (if r = a then setB (SB a b oa ob ba bb a) a (numN (SB a b oa ob ba bb a a), c) else SB a b oa ob ba bb r) k = _
  unfold SB setB
  by_cases h : r = a
  · subst h
    simp only [if_true]
    by_cases h2 : k = r
    · simp [h2]
    · simp [h2]
  · simp [h]
theorem step_wb {a b c : Nat} (hab : a ≠ b) {oa ob ba bb : Option Ent} {cs : Nat → Option Nat} : stepB (SB a b oa ob ba bb) cs (.wri b c) = SB a b oa ob ba (some (numN bb, c)) := by
  funext r k
  show (if r = b then setB (SB a b oa ob ba bb b) b (numN (SB a b oa ob ba bb b b), c) else SB a b oa ob ba bb r) k = _
  have hba : b ≠ a := Ne.symm hab
  unfold SB setB
  by_cases h : r = b
  · subst h
    by_cases h2 : k = r
    · simp [h2, hba]
    · simp [h2, hba]
  · simp [h]
theorem stepc_a {a b c : Nat} {ca cb : Option Nat} : stepC (SC a b ca cb) (.wri a c) = SC a b (some c) cb := by
  funext r
  show (if r = a then some c else SC a b ca cb r) = _
  unfold SC
  by_cases h : r = a <;> simp [h]
theorem stepc_b {a b c : Nat} (hab : a ≠ b) {ca cb : Option Nat} : stepC (SC a b ca cb) (.wri b c) = SC a b ca (some c) := by
  funext r
  show (if r = b then some c else SC a b ca cb r) = _
  have hba : b ≠ a := Ne.symm hab
  unfold SC
  by_cases h : r = b
  · simp [h, hba]
  · simp [h]
theorem step_r {a b : Nat} (hab : a ≠ b) {oa ob ba bb : Option Ent} {ca cb : Option Nat} : stepB (SB a b oa ob ba bb) (SC a b ca cb) (.rst a) = SB a b (ca.map fun c => (1, c)) none ba bb := by
  funext r k
  show (if r = a then firstB a (SC a b ca cb a) else SB a b oa ob ba bb r) k = _
  unfold SB SC firstB
  by_cases h : r = a
  · subst h
    by_cases h2 : k = r <;> simp [h2]
  · simp [h]
/-- an entry over another -/
def overE (own given : Option Ent) : Option Ent := match given with
  | none => own
  | some g => match own with
    | none => some g
    | some e => if gtN g e = true then some g else some e
/-- the same of the router's own -/
def overO (own given : Option Ent) (co : Option Nat) : Option Ent := match given with
  | none => own
  | some g => match own with
    | none => match co with
      | some c => some (g.1 + 1, c)
      | none => some g
    | some e => if gtN g e = true then (match co with
      | some c => some (g.1 + 1, c)
      | none => some g) else some e
theorem overO_none (o g : Option Ent) : overO o g none = overE o g := by
  unfold overO overE
  cases g with
  | none => rfl
  | some g => cases o <;> rfl
theorem mergeX_at {own given : Bk} {r : Nat} {co : Option Nat} (k : Nat) : mergeX own given r co k = if k = r then overO (own k) (given k) co else overE (own k) (given k) := by
  unfold mergeX bumpB
  cases hg : greaterB own given r with
  | none =>
    show (match greaterB own given k with | some e => some e | none => own k) = _
    by_cases hk : k = r
    · subst hk
      rw [if_pos rfl, hg]
      unfold greaterB newer at hg
      unfold overO
      cases h1 : given k with
      | none => rfl
      | some g =>
        rw [h1] at hg
        cases h2 : own k with
        | none => rw [h2] at hg; simp at hg
        | some e =>
          rw [h2] at hg
          by_cases hgt : gtN g e = true
          · simp [hgt] at hg
          · simp [hgt]
    · rw [if_neg hk]
      unfold greaterB newer overE
      cases h1 : given k with
      | none => simp
      | some g =>
        cases h2 : own k with
        | none => simp
        | some e => by_cases hgt : gtN g e = true <;> simp [hgt]
  | some g0 =>
    have hnew : newer own given r = true ∧ given r = some g0 := by
      unfold greaterB at hg
      split at hg
      · exact ⟨by assumption, hg⟩
      · cases hg
    cases co with
    | none =>
      show (match greaterB own given k with | some e => some e | none => own k) = _
      have z : (match greaterB own given k with | some e => some e | none => own k) = overE (own k) (given k) := by
        unfold greaterB newer overE
        cases h1 : given k with
        | none => simp
        | some g =>
          cases h2 : own k with
          | none => simp
          | some e => by_cases hgt : gtN g e = true <;> simp [hgt]
      rw [z]
      by_cases hk : k = r
      · rw [if_pos hk, overO_none]
      · rw [if_neg hk]
    | some c =>
      show (match setB (greaterB own given) r (g0.1 + 1, c) k with | some e => some e | none => own k) = _
      unfold setB
      by_cases hk : k = r
      · subst hk
        rw [if_pos rfl, if_pos rfl, hnew.2]
        have hn := hnew.1
        unfold newer at hn
        rw [hnew.2] at hn
        unfold overO
        cases h2 : own k with
        | none => rfl
        | some e =>
          rw [h2] at hn
          have hn : gtN g0 e = true := hn
          simp [hn]
      · rw [if_neg hk, if_neg hk]
        unfold greaterB newer overE
        cases h1 : given k with
        | none => simp
        | some g =>
          cases h2 : own k with
          | none => simp
          | some e => by_cases hgt : gtN g e = true <;> simp [hgt]
theorem step_ab {a b : Nat} (hab : a ≠ b) {oa ob ba bb : Option Ent} {ca cb : Option Nat} : stepB (SB a b oa ob ba bb) (SC a b ca cb) (.pas a b) = SB a b oa ob (overE ba oa) (overO bb ob cb) := by
  funext r k
  show (if r = b then mergeX (SB a b oa ob ba bb b) (SB a b oa ob ba bb a) b (SC a b ca cb b) else SB a b oa ob ba bb r) k = _
  have hba : b ≠ a := Ne.symm hab
  by_cases h : r = b
  · subst h
    rw [if_pos rfl, mergeX_at]
    unfold SB SC
    by_cases h2 : k = r
    · subst h2; simp [hba]
    · by_cases h3 : k = a
      · subst h3; simp [hab, hba]
      · simp [h2, h3, hba]
        rfl
  · rw [if_neg h]
    unfold SB
    simp [h]
theorem step_ba {a b : Nat} (hab : a ≠ b) {oa ob ba bb : Option Ent} {ca cb : Option Nat} : stepB (SB a b oa ob ba bb) (SC a b ca cb) (.pas b a) = SB a b (overO oa ba ca) (overE ob bb) ba bb := by
  funext r k
  show (if r = a then mergeX (SB a b oa ob ba bb a) (SB a b oa ob ba bb b) a (SC a b ca cb a) else SB a b oa ob ba bb r) k = _
  have hba : b ≠ a := Ne.symm hab
  by_cases h : r = a
  · subst h
    rw [if_pos rfl, mergeX_at]
    unfold SB SC
    by_cases h2 : k = r
    · subst h2; simp [hba]
    · by_cases h3 : k = b
      · subst h3; simp [hab, hba]
      · simp [h2, h3, hba]
        rfl
  · rw [if_neg h]
    unfold SB
    simp [h]
theorem SB_eq {n a b : Nat} (ha : a < n) (hb : b < n) (hab : a ≠ b) {oa ob ba bb oa' ob' ba' bb' : Option Ent} {ca cb ca' cb' : Option Nat} :
    eqS n (SB a b oa ob ba bb) (SC a b ca cb) (SB a b oa' ob' ba' bb') (SC a b ca' cb') ↔ (oa = oa' ∧ ob = ob' ∧ ba = ba' ∧ bb = bb') ∧ ca = ca' ∧ cb = cb' := by
  have hba : b ≠ a := Ne.symm hab
  constructor
  · rintro ⟨h1, h2⟩
    have a1 := congrFun (h1 a ha) a
    have a2 := congrFun (h1 a ha) b
    have b1 := congrFun (h1 b hb) a
    have b2 := congrFun (h1 b hb) b
    have c1 := h2 a ha
    have c2 := h2 b hb
    unfold SB at a1 a2 b1 b2
    unfold SC at c1 c2
    simp [hab, hba] at a1 a2 b1 b2 c1 c2
    exact ⟨⟨a1, a2, b1, b2⟩, c1, c2⟩
  · rintro ⟨⟨rfl, rfl, rfl, rfl⟩, rfl, rfl⟩
    exact ⟨fun _ _ => rfl, fun _ _ => rfl⟩
theorem gt_irr (e : Ent) : gtN e e = false := by
  unfold gtN gtE
  simp
theorem gt_tot {x y : Ent} (h1 : gtN x y = false) (h2 : gtN y x = false) : x = y := by
  unfold gtN gtE at h1 h2
  by_cases c : (x.1 : Int) = (y.1 : Int)
  · have c' : x.1 = y.1 := by omega
    simp [c'] at h1 h2
    exact Prod.ext c' (by omega)
  · rw [if_neg c] at h1
    rw [if_neg (Ne.symm c)] at h2
    have h1 := of_decide_eq_false h1
    have h2 := of_decide_eq_false h2
    have h1 : ¬ ((y.1 : Int) < (x.1 : Int)) := h1
    have h2 : ¬ ((x.1 : Int) < (y.1 : Int)) := h2
    omega
theorem gt_le {x y : Ent} (h : gtN x y = true) : y.1 ≤ x.1 := by
  unfold gtN gtE at h
  split at h
  · rename_i e
    have e : (x.1 : Int) = (y.1 : Int) := e
    omega
  · have := of_decide_eq_true h
    have : (y.1 : Int) < (x.1 : Int) := this
    omega
theorem gt_more {x y : Ent} (h : y.1 < x.1) : gtN x y = true := by
  unfold gtN gtE
  rw [if_neg (by show ¬ (x.1 : Int) = (y.1 : Int); omega)]
  exact decide_eq_true (by show (y.1 : Int) < (x.1 : Int); omega)
theorem overE_self (o : Option Ent) : overE o o = o := by
  unfold overE
  cases o with
  | none => rfl
  | some e => simp [gt_irr]
theorem overO_self (o : Option Ent) (co : Option Nat) : overO o o co = o := by
  unfold overO
  cases o with
  | none => rfl
  | some e => simp [gt_irr]
/-- what the own entry is when an older one has come back -/
def backE (own th : Ent) : Ent := if gtN th own = true then (th.1 + 1, own.2) else own
theorem back_own (own th : Ent) : overO (some own) (some th) (some own.2) = some (backE own th) := by
  unfold overO backE
  by_cases h : gtN th own = true <;> simp [h]
theorem back_th (own th : Ent) : overE (some th) (some (backE own th)) = some (backE own th) := by
  unfold overE
  by_cases h : gtN (backE own th) th = true
  · simp [h]
  · simp only [h, if_false, Bool.false_eq_true]
    congr 1
    unfold backE at h ⊢
    by_cases g : gtN th own = true
    · rw [if_pos g] at h
      exact absurd (gt_more (show th.1 < th.1 + 1 by omega)) h
    · rw [if_neg g] at h ⊢
      exact gt_tot (by simpa using g) (by simpa using h)
section
variable {P : Program} {w : World} {K : PySem.W.Frag} {mg : Str → Option Value} {base : Heap} {f : Addr} {fd : FuncData} {CF : Addr}
/-! _law_is_integer -/
abbrev sLInt : Stmt := top 37
theorem scLInt : FnScope ["_law_thing"] ["_law_thing"] (defScope sLInt) := ⟨rfl, rfl, rfl, by decide +kernel, rfl, by decide +kernel, by decide +kernel⟩
theorem ok_lInt (B : Bl mg) (F : FnP K "_law_is_integer" sLInt f fd) : FnOk P w K mg base CX0 1 f fd ["_law_thing"] spIsInt := by
  refine F.ok scLInt (fun vs H Q E h => ?_) (fun cdv A outer s H vs Q E hr h => ?_)
  · obtain ⟨z, ⟨v, d, rfl, _⟩, _⟩ := h
    rfl
  · obtain ⟨z, ⟨v, d, rfl, hd, rfl⟩, k⟩ := h
    refine ⟨_, pss_one (ps_ret (pe_and (pe_callB call_isi (by rfl) B.isi boot_isinstance (pa_cons (pv 0) (pa_cons (pe_bltn (v := .ty "int") (by rfl) B.int PyProof.Rows.boot_int rfl) pa_nil)))
      (pe_one (pe_not (pe_callB call_isi (by rfl) B.isi boot_isinstance (pa_cons (pv 0) (pa_cons (pe_bltn (v := .ty "bool") (by rfl) B.bool PyProof.Rows.boot_bool rfl) pa_nil))))))), ?_⟩
    obtain ⟨b, hb, h1, h2⟩ := kit_int d
    have v0 : Ev (tVar 0) (start ["_law_thing"] [v]) H v := ev_var rfl
    cases b with
    | true =>
      obtain ⟨c, hc, e⟩ := h1 rfl
      rw [← e] at k
      exact s_ret (ev_andV (ev_isi v0 hd hb) fun _ => ev_notV (ev_isi v0 hd hc)) k
    | false =>
      rw [h2 rfl] at k
      exact s_ret (ev_andV (b := false) (ev_isi v0 hd hb) fun z => (by cases z)) k

end
end Wk

set_option Elab.async false
set_option linter.all false
set_option maxRecDepth 100000
set_option maxHeartbeats 4000000
set_option pp.maxSteps 2000
namespace Wk
open PySem PySem.Spec PyProof.Rows L2 Evl
def rIsFo (K : PySem.W.Frag) (D a : Addr) (cls : Value) (d : Option Addr) : List V → Hp → VK → Prop := fun xs H Q => cls = .ref D ∧ ∃ dx, d = some dx ∧ rIsF K D a dx xs H Q
def rIsFTo (K : PySem.W.Frag) (D a : Addr) (cls : Value) (d : Option Addr) : List V → Hp → VK → Prop := fun xs H Q => cls = .ref D ∧ ∃ dx, d = some dx ∧ rIsFT K D a dx xs H Q
theorem call_isFo {X : Cx} {K : PySem.W.Frag} {a D : Addr} {cls : Value} {d : Option Addr} {oe : Obj} {pn : List (Addr × Obj)} (hK : X.K = K) (C : ExcC K D) (hz : Zc cls d oe) (hf : ∃ vs, oe.data = .fields vs) : CallR (X.suite a ((a, oe) :: pn)) (.builtin "isinstance") (rIsFo K D a cls d) := by
  intro pins s σ H xs us Q I r h
  obtain ⟨rfl, dx, rfl, h⟩ := h
  exact call_isF hK C hz hf pins s σ H xs us Q I r h
theorem call_isFTo {X : Cx} {K : PySem.W.Frag} {a D : Addr} {cls : Value} {d : Option Addr} {oe : Obj} {pn : List (Addr × Obj)} (hK : X.K = K) (C : ExcC K D) (hz : Zc cls d oe) (hf : ∃ vs, oe.data = .fields vs) : CallR (X.suite a ((a, oe) :: pn)) (.builtin "isinstance") (rIsFTo K D a cls d) := by
  intro pins s σ H xs us Q I r h
  obtain ⟨rfl, dx, rfl, h⟩ := h
  exact call_isFT hK C hz hf pins s σ H xs us Q I r h
section
variable {P : Program} {w : World} {K : PySem.W.Frag} {mg : Str → Option Value} {base : Heap} {f : Addr} {fd : FuncData} {CF CB CD CN CW : Addr}
/-! Flood.rounds, where all is calm -/
def spRou0 (CF : Addr) : Sp := fun vs H Q _ => ∃ (G : Hp) (x pa la : Addr) (n m : Nat) (us : List V) (js : List Wy), vs = [.ref x] ∧ Ex G H ∧ Em CF G H x pa la n m us js ∧ ∀ H', Ex H H' → Q (.int 0) H'
abbrev sRou : Stmt := inClass (top 21) 6
abbrev nRou : List Str := ["self", "rounds", "a", "b"]
theorem scRou : FnScope nRou ["self"] (defScope sRou) := ⟨rfl, rfl, rfl, by decide +kernel, rfl, by decide +kernel, by decide +kernel⟩
theorem ok_rou0 (X : FX K CF) (MC : Msk P w K mg base CF "is_calm" ["self"] 4 (spCalm CF)) (F : FnM K "rounds" "Flood.rounds" sRou f fd) : FnOk P w K mg base CX0 5 f fd ["self"] (spRou0 CF) := by
  obtain ⟨f1, fd1, me1, F1, b1⟩ := MC.ex
  refine F.ok scRou (fun vs H Q E h => ?_) (fun cdv A outer s H vs Q E hr h => ?_)
  · obtain ⟨G, x, pa, la, n, m, us, js, rfl, _⟩ := h
    rfl
  · obtain ⟨G, x, pa, la, n, m, us, js, rfl, eG, hE, k⟩ := h
    have r4 : Room 4 _ := hr.mono (by decide)
    refine ⟨_, pss_cons (ps_set (i := 1) scRou.nd rfl (Or.inl rfl) pe_int)
      (pss_cons (ps_while (passes_of rfl) (pt_not (pt_val (pe_meth0 (pv 0) X.cl me1 F1 r4 b1 .nil pass0))) pss_never)
      (pss_one (ps_ret (pv 1)))), ?_⟩
    refine q_asg (v := .int 0) ev_c fun H1 e1 => ?_
    change tSeq _ _ _ [some (.ref x), some (.int 0), none, none] H1
    refine q_while (fun mm σ' H' => mm = 0 ∧ Ex H H' ∧ σ' = [some (.ref x), some (.int 0), none, none]) 0 ⟨rfl, e1, rfl⟩ ?_
    rintro mm σ' H2 ⟨rfl, e2, rfl⟩
    obtain ⟨dx, fs, st, hx, ff, hst⟩ := hE.f.ob
    refine ⟨!calmB n B0 C0 js, et_not (et_B (fun H3 e3 Q3 q => ⟨.ref x, rfl, x, dx, fs, rfl, (e2.trans e3) _ _ hx, ff.n5, G, x, pa, la, n, m, B0, C0, us, js, rfl, eG.trans (e2.trans e3), hE.f.ext (e2.trans e3), hE.n8, hE.la, hE.us, hE.pr, hE.jl, fun a b hab z => by simp [newer, B0] at z, fun H4 e4 => q H4 e4⟩)), fun hb H3 e3 => ?_, fun hb H3 e3 => ?_⟩
    · rw [calm0] at hb
      cases hb
    · exact ⟨.int 0, rfl, k H3 (e2.trans e3)⟩
/-! _law_told -/
structure MkF (P : Program) (w : World) (K : PySem.W.Frag) (mg : Str → Option Value) (base : Heap) (CF CB : Addr) : Prop where
  g : mg "Flood" = some (.ref CF)
  ex : ∃ (fI : Addr) (fd : FuncData), Mk K CF fI ∧ FnOk P w K mg base (L2.CX P w) 7 fI fd nInit (spInit2 CF CB) ∧ Binds K fd nInit []
def spTold : Sp := fun vs H Q _ => ∃ (v1 v2 : V) (d1 d2 : PyData) (s : Str), vs = [v1, v2] ∧ Dq H v1 d1 ∧ Tg H v2 d2 ∧ (itemsR d2).length ≤ 1000 ∧ fdue d1 d2 = some s ∧ ∀ H' t, Ex H H' → H' t = some (.tup [.str "refused", .str s, .bl true, .bl false]) → Q (.ref t) H'
abbrev sTold : Stmt := top 41
abbrev nTold : List Str := ["_law_size", "_law_row", "_law_found", "e"]
theorem scTold : FnScope nTold ["_law_size", "_law_row"] (defScope sTold) := ⟨rfl, rfl, rfl, by decide +kernel, rfl, by decide +kernel, by decide +kernel⟩
/-- what isinstance tells of a BadFlood -/
structure EKb (K : PySem.W.Frag) (C CW CD CN : Addr) : Prop where
  ex : ExcC K C
  k1 : PySem.W.kitOne K (.ref C) (.ref CW) = some true
  k2 : PySem.W.kitOne K (.ref C) (.ref CD) = some false
  k3 : PySem.W.kitOne K (.ref C) (.ref CN) = some false
theorem kit2 {K : PySem.W.Frag} {C A B : Addr} (h1 : PySem.W.kitOne K (.ref C) (.ref A) = some false) (h2 : PySem.W.kitOne K (.ref C) (.ref B) = some false) : PySem.W.kitAny K (.ref C) [.ref A, .ref B] = some false :=
  kitAny_cons h1 (fun _ => kitAny_cons h2 (fun _ => kitAny_nil) fun z => by cases z) fun z => by cases z
theorem ok_told (B : Bl mg) (M : MkF P w K mg base CF CB) (T : ErrF P w K mg base "BadFlood" CB "part") (E0' : EKb K CB CW CD CN) (gW : mg "WishError" = some (.ref CW)) (gD : mg "BadDeed" = some (.ref CD)) (gN : mg "NoRouter" = some (.ref CN)) (F : FnP K "_law_told" sTold f fd) : FnOk P w K mg base CX0 9 f fd ["_law_size", "_law_row"] spTold := by
  obtain ⟨fI, fdI, mk, FI, bI⟩ := M.ex
  refine F.ok scTold (fun vs H Q E h => ?_) (fun cdv A outer s H vs Q E hr h => ?_)
  · obtain ⟨v1, v2, d1, d2, s, rfl, _⟩ := h
    rfl
  · obtain ⟨v1, v2, d1, d2, s, rfl, h1, h2, hl, hdue, k⟩ := h
    refine ⟨_, pss_cons (ps_set (i := 2) scTold.nd rfl (Or.inl rfl) (pe_tup (pa_cons pe_str pa_nil)))
      (pss_cons (ps_try_as (i := 3) rfl rfl scTold.nd rfl rfl ⟨rfl, by decide, .inl T.g⟩ takes0
          (fun W pn xe tk _ => pss_one (ps_expr (pe_mkAt (W := WE W) mk FI hr (by rfl) M.g bI (fun σ => passAt tk σ) (pa_cons (pv 0) (pa_cons (pv 1) pa_nil)))))
          (fun a oe cls d pn hz hf => pss_one (ps_set (i := 2) scTold.nd rfl (Or.inl rfl) (pe_tup (pa_cons pe_str (pa_cons (pe_xf T.xf T.no hz hf (pv 3)) (pa_cons (pe_callB (call_isFo (K := K) rfl E0'.ex hz hf) (by rfl) B.isi boot_isinstance (pa_cons (pv 3) (pa_cons (pe_glob (v := .ref CW) (by rfl) gW rfl) pa_nil))) (pa_cons (pe_callB (call_isFTo (K := K) rfl E0'.ex hz hf) (by rfl) B.isi boot_isinstance (pa_cons (pv 3) (pa_cons (pe_tup (pa_cons (pe_glob (v := .ref CD) (by rfl) gD rfl) (pa_cons (pe_glob (v := .ref CN) (by rfl) gN rfl) pa_nil))) pa_nil))) pa_nil))))))))
      (pss_one (ps_ret (pv 2)))), ?_⟩
    refine ⟨by show 1 ≤ sizeLine; decide, fun p1 hp1 => ?_⟩
    have e1 : Ex H (upd H p1 (.tup [.str "let"])) := Ex.new hp1
    generalize upd H p1 (.tup [V.str "let"]) = H1 at *
    dsimp only
    refine ⟨v1, rfl, v2, rfl, fun x dx nx ndx nex => ?_⟩
    have e12 : Ex H1 (upd (upd H1 dx (.own x)) x (.ins CF dx [])) := fun b o hb => by
      rw [upd_ne (ne_of_none hb nx), upd_ne (ne_of_none hb ndx)]
      exact hb
    refine ⟨H1, x, dx, v1, v2, rfl, upd_same, e12, nx, .inr ⟨d1, d2, s, h1.mono (e1.trans e12), h2.mono (e1.trans e12), hl, hdue, fun dy H2 h0 e2 hy => ?_⟩⟩
    have e02 := (e1.trans e12).trans e2
    refine ⟨true, T.te, fun _ a ha => ?_, fun z => Bool.noConfusion z⟩
    refine ⟨.ref a, rfl, rfl, rfl, dy, _, .str s, rfl, hy, rfl, ?_⟩
    refine ⟨.ref a, rfl, rfl, dy, rfl, .ref CW, .ref CW, true, _, rfl, .own CW, E0'.k1, hy, ?_⟩
    refine ⟨.ref a, rfl, by show 2 ≤ sizeLine; decide, fun tp htp => ?_⟩
    have e3 := Ex.new (o := .tup [V.ref CD, .ref CN]) htp
    refine ⟨rfl, dy, rfl, tp, _, [.ref CD, .ref CN], false, _, rfl, upd_same, .cons (.own CD) (.cons (.own CN) .nil), kit2 E0'.k2 E0'.k3, e3 _ _ hy, ?_⟩
    refine ⟨by show 4 ≤ sizeLine; decide, fun t ht => ?_⟩
    have e4 := Ex.new (o := .tup [V.str "refused", .str s, .bl true, .bl false]) ht
    refine g_name ?_
    exact ⟨.ref t, rfl, k _ t ((e02.trans e3).trans e4) upd_same⟩
/-! _law_over -/
def spOver (CF : Addr) : Sp := fun vs H Q _ => ∃ (G : Hp) (x pa la : Addr) (n m : Nat) (us : List V) (js : List Wy) (wd' : Str) (a b : Nat), vs = [.ref x, .str wd', .int (a : Int), .int (b : Int)] ∧ Ex G H ∧ Em CF G H x pa la n m us js ∧ m < 10000 ∧ (wd' = "pass" ∨ wd' = "lose") ∧ a < n ∧ b < n ∧
  (([(a : Int), (b : Int)] ∈ js ∧ ∀ G' H' t, Gm x pa G H G' H' → Em CF G' H' x pa la n (m + 1) us js → H' t = some (.tup [.str "told", .bl true]) → Q (.ref t) H') ∨
   ([(a : Int), (b : Int)] ∉ js ∧ ∀ H' t, Ex H H' → H' t = some (.tup [.str "refused"]) → Q (.ref t) H'))
abbrev sOver : Stmt := top 42
abbrev nOver : List Str := ["_law_flood", "_law_word", "_law_a", "_law_b", "_law_found"]
theorem scOver : FnScope nOver ["_law_flood", "_law_word", "_law_a", "_law_b"] (defScope sOver) := ⟨rfl, rfl, rfl, by decide +kernel, rfl, by decide +kernel, by decide +kernel⟩
theorem fd_pl {n : Nat} {js : List Wy} {wd' : Str} {a b : Nat} (hw : wd' = "pass" ∨ wd' = "lose") : isFD n js (.tuple [.str wd', .int (a : Int), .int (b : Int)]) = decide ([(a : Int), (b : Int)] ∈ js) := by
  show fdR n js wd' [.int (a : Int), .int (b : Int)] = _
  unfold fdR
  rcases hw with rfl | rfl
  · rw [show decide (V.str "pass" = V.str "write") = false by decide +kernel, show decide (V.str "pass" = V.str "restart") = false by decide +kernel, show inV (.str "pass") [.str "pass", .str "lose"] = true by decide +kernel]
    rfl
  · rw [show decide (V.str "lose" = V.str "write") = false by decide +kernel, show decide (V.str "lose" = V.str "restart") = false by decide +kernel, show inV (.str "lose") [.str "pass", .str "lose"] = true by decide +kernel]
    rfl
theorem ok_over (X : FX K CF) (TD : ErrN K mg "BadDeed" CD) (xDD : PySem.W.exmOne K (.ref CD) (.ref CD) = some true) (MD : MskX P w K mg base CF "do" ["self", "deed"] 5 (spDo CF CD)) (F : FnP K "_law_over" sOver f fd) : FnOk P w K mg base CX0 6 f fd ["_law_flood", "_law_word", "_law_a", "_law_b"] (spOver CF) := by
  obtain ⟨f1, fd1, me1, F1, b1⟩ := MD.ex
  refine F.ok scOver (fun vs H Q E h => ?_) (fun cdv A outer s H vs Q E hr h => ?_)
  · obtain ⟨G, x, pa, la, n, m, us, js, wd', a, b, rfl, _⟩ := h
    rfl
  · obtain ⟨G, x, pa, la, n, m, us, js, wd', a, b, rfl, eG, hE, hm, hw, ha, hb, hv⟩ := h
    refine ⟨_, pss_cons (ps_set (i := 4) scOver.nd rfl (Or.inl rfl) pe_non)
      (pss_cons (ps_try_only rfl rfl ⟨rfl, by decide, .inl TD.g⟩ takes0
          (fun W pn xe tk _ => pss_one (ps_set (i := 4) scOver.nd rfl (Or.inl rfl) (pe_tup (pa_cons pe_str (pa_cons (pe_cmpR op_is_bl (pe_meAt (W := WE W) (pv 0) X.cl me1 F1 hr b1 (fun σ => passAt tk σ) (pa_cons (pe_tup (pa_cons (pv 1) (pa_cons (pv 2) (pa_cons (pv 3) pa_nil)))) pa_nil)) pe_bl (nomark _)) pa_nil)))))
          (fun a oe cls d pn hz hf => pss_one (ps_set (i := 4) scOver.nd rfl (Or.inl rfl) (pe_tup (pa_cons pe_str pa_nil)))))
      (pss_one (ps_ret (pv 4)))), ?_⟩
    obtain ⟨dx, fs, st, hx, ff, hst⟩ := hE.f.ob
    refine q_c ?_
    refine ⟨.ref x, rfl, x, dx, fs, rfl, hx, ff.n1, .str wd', rfl, .int (a : Int), rfl, .int (b : Int), rfl, by show 3 ≤ sizeLine; decide, fun t0 ht0 => ?_⟩
    have e1 := Ex.new (o := .tup [V.str wd', .int (a : Int), .int (b : Int)]) ht0
    have ht1 : (upd H t0 (.tup [V.str wd', .int (a : Int), .int (b : Int)])) t0 = some (.tup [V.str wd', .int (a : Int), .int (b : Int)]) := upd_same
    generalize upd H t0 (.tup [V.str wd', .int (a : Int), .int (b : Int)]) = H1 at *
    have hE1 := hE.ext e1
    refine ⟨G, x, pa, la, .ref t0, n, m, B0, C0, us, js, rfl, eG.trans e1, hE1.f, hE.n8, hm, hE.la, hE.us, ?_⟩
    rcases hv with ⟨hin, k⟩ | ⟨hout, k⟩
    · obtain ⟨d, hd, hmay, hok, hsB, hsC⟩ : ∃ d : Deed, d.vs = [V.str wd', .int (a : Int), .int (b : Int)] ∧ d.may n B0 C0 ∧ d.ok n js false ∧ stepB B0 C0 d = B0 ∧ stepC C0 d = C0 := by
        rcases hw with rfl | rfl
        · exact ⟨.pas a b, rfl, may0 ha hb, hin, step0p a b, rfl⟩
        · exact ⟨.los a b, rfl, trivial, hin, rfl, rfl⟩
      refine .inl ⟨t0, d, false, rfl, by rw [hd]; exact ht1, hmay, hok, fun G' H2 gm hF => ?_⟩
      rw [hsB, hsC] at hF ⊢
      rw [eq0]
      refine ⟨false, false, rfl, rfl, by show 2 ≤ sizeLine; decide, fun t ht => ?_⟩
      have e3 := Ex.new (o := .tup [V.str "told", .bl true]) ht
      refine g_name ?_
      have gm2 : Gm x pa G H G' H2 := ⟨gm.ex, fun c u h1 h2 h => gm.off c u h1 h2 (e1 _ _ h), gm.sub, fun c u h1 h2 h3 => gm.nw c u h1 (e1 _ _ h2) h3⟩
      exact ⟨.ref t, rfl, k G' _ t ⟨gm2.ex, fun c u h1 h2 h => e3 _ _ (gm2.off c u h1 h2 h), gm2.sub.trans e3, gm2.nw⟩ ((hE1.gm gm hF).ext e3) upd_same⟩
    · refine .inr ⟨.tuple [.str wd', .int (a : Int), .int (b : Int)], .tup ht1 (.cons (.str _) (.cons (.int _) (.cons (.int _) .nil))), by show 3 ≤ 1000; decide, by rw [fd_pl hw]; exact decide_eq_false hout, fun H2 e2 => ?_⟩
      refine ⟨true, xDD, fun _ a' ha' => ?_, fun z => Bool.noConfusion z⟩
      refine ⟨by show 1 ≤ sizeLine; decide, fun t ht => ?_⟩
      have e3 := Ex.new (o := .tup [V.str "refused"]) ht
      refine g_name ?_
      exact ⟨.ref t, rfl, k _ t ((e1.trans e2).trans e3) upd_same⟩
end
end Wk

set_option Elab.async false
set_option linter.all false
set_option maxRecDepth 100000
set_option maxHeartbeats 4000000
set_option pp.maxSteps 2000
namespace Wk
open PySem PySem.Spec PyProof.Rows L2 Evl
theorem bk0 {G : Hp} {kvs : List (L2.Key × V)} {ks : List Int} {n : Nat} {bk : Bk} (h : BkD G kvs ks n bk) (h0 : ∀ j, bk j = none) : kvs.length = 0 := by
  have hl : ks = [] := by
    cases ks with
    | nil => rfl
    | cons k r =>
      have hk := (h.rg k List.mem_cons_self).1
      have hj : k = ((k.toNat : Nat) : Int) := by omega
      obtain ⟨e, he⟩ := (h.mem k.toNat).mp (by rw [← hj]; exact List.mem_cons_self)
      rw [h0] at he
      cases he
  have := congrArg List.length h.nk.1
  rw [hl] at this
  simpa using this
section
variable {P : Program} {w : World} {K : PySem.W.Frag} {mg : Str → Option Value} {base : Heap} {f : Addr} {fd : FuncData} {CF CB CD CN CW : Addr}
/-! _law_no_router -/
/-- what isinstance tells of a NoRouter -/
structure EKn (K : PySem.W.Frag) (C CW CB : Addr) : Prop where
  ex : ExcC K C
  k1 : PySem.W.kitOne K (.ref C) (.ref CW) = some true
  k2 : PySem.W.kitOne K (.ref C) (.ref CB) = some false
def spNoR (CF : Addr) : Sp := fun vs H Q _ => ∃ (G : Hp) (x pa la : Addr) (v : V) (n m : Nat) (B : Nat → Bk) (cs : Nat → Option Nat) (d : PyData) (bb : Bool), vs = [.ref x, v, .bl bb] ∧ Ex G H ∧ FdA CF G H x pa la n m B cs ∧ n ≤ 8 ∧ Dq H v d ∧ isR (n : Int) d = false ∧ (∀ K, Shw K H v d) ∧ ∀ H', Ex H H' → Q (.bl true) H'
abbrev sNoR : Stmt := top 43
abbrev nNoR : List Str := ["_law_flood", "_law_thing", "_law_book", "_law_found", "e"]
theorem scNoR : FnScope nNoR ["_law_flood", "_law_thing", "_law_book"] (defScope sNoR) := ⟨rfl, rfl, rfl, by decide +kernel, rfl, by decide +kernel, by decide +kernel⟩
theorem ok_noR (B : Bl mg) (X : FX K CF) (T : ErrF P w K mg base "NoRouter" CN "router") (EN : EKn K CN CW CB) (gW : mg "WishError" = some (.ref CW)) (gB : mg "BadFlood" = some (.ref CB)) (hrp : mg "repr" = none)
    (MB : MskX P w K mg base CF "book" ["self", "router"] 5 (spBook2 CF CN)) (MC : MskX P w K mg base CF "content" ["self", "router"] 5 (spCont2 CF CN)) (F : FnP K "_law_no_router" sNoR f fd) : FnG P w K mg base 6 f fd ["_law_flood", "_law_thing", "_law_book"] (spNoR CF) := by
  obtain ⟨f1, fd1, me1, F1, b1⟩ := MB.ex
  obtain ⟨f2, fd2, me2, F2, b2⟩ := MC.ex
  refine okG F scNoR (fun vs H Q E h => ?_) (fun cdv A outer s H vs Q E hr hg h => ?_)
  · obtain ⟨G, x, pa, la, v, n, m, B, cs, d, bb, rfl, _⟩ := h
    rfl
  · obtain ⟨G, x, pa, la, v, n, m, Bk, cs, d, bb, rfl, eG, hF, hn, hd, hR, hS, k⟩ := h
    have hu : (A.deeper (envOfC "_law_no_router" (defScope sNoR) s.heap.objs.size f cdv)).units + 64 < cLine := by have := hr.un; omega
    have hu0 : (A.deeper (envOfC "_law_no_router" (defScope sNoR) s.heap.objs.size f cdv)).units < cLine := by omega
    refine ⟨_, pss_cons (ps_set (i := 3) scNoR.nd rfl (Or.inl rfl) pe_non)
      (pss_cons (ps_try_as (i := 4) rfl rfl scNoR.nd rfl rfl ⟨rfl, by decide, .inl T.g⟩ takes0
          (fun W pn xe tk _ => pss_one (ps_if (pt_val (pv 2)) (pss_one (ps_expr (pe_meAt (W := WE W) (pv 0) X.cl me1 F1 hr b1 (fun σ => passAt tk σ) (pa_cons (pv 1) pa_nil)))) (pss_one (ps_expr (pe_meAt (W := WE W) (pv 0) X.cl me2 F2 hr b2 (fun σ => passAt tk σ) (pa_cons (pv 1) pa_nil))))))
          (fun a oe cls d pn hz hf => pss_one (ps_set (i := 3) scNoR.nd rfl (Or.inl rfl) (pe_tup (pa_cons (pe_callB (call_reprX (K := K) rfl hg hu) (by rfl) hrp boot_repr (pa_cons (pe_xf T.xf T.no hz hf (pv 4)) pa_nil))
            (pa_cons (pe_callB (call_isFo (K := K) rfl EN.ex hz hf) (by rfl) B.isi boot_isinstance (pa_cons (pv 4) (pa_cons (pe_glob (v := .ref CW) (by rfl) gW rfl) pa_nil)))
            (pa_cons (pe_callB (call_isFo (K := K) rfl EN.ex hz hf) (by rfl) B.isi boot_isinstance (pa_cons (pv 4) (pa_cons (pe_glob (v := .ref CB) (by rfl) gB rfl) pa_nil))) pa_nil)))))))
      (pss_one (ps_ret (pe_cmpR (op_eqSm (K := K) rfl hu0) (pv 3) (pe_tup (pa_cons (pe_callB (call_reprX (K := K) rfl hg hu) (by rfl) hrp boot_repr (pa_cons (pv 1) pa_nil)) (pa_cons pe_bl (pa_cons pe_bl pa_nil)))) (nomark _))))), ?_⟩
    obtain ⟨dx, fs, st, hx, ff, hst⟩ := hF.ob
    refine q_c ?_
    change tIfS _ _ _ _ [some (.ref x), some v, some (.bl bb), some .non, none] H
    have ev2 : EvT (tB (tVar 2)) [some (.ref x), some v, some (.bl bb), some .non, none] H bb := et_B (ev_var rfl)
    refine s_if ev2 (fun hb H1 e1 => ⟨.ref x, rfl, x, dx, fs, rfl, e1 _ _ hx, ff.n3, v, rfl, G, x, pa, la, v, n, m, Bk, cs, rfl, eG.trans e1, hF.ext e1, hn, .inr ⟨d, hd.mono e1, hR, fun dy H2 h0 e2 hy => ?_⟩⟩) (fun hb H1 e1 => ⟨.ref x, rfl, x, dx, fs, rfl, e1 _ _ hx, ff.n4, v, rfl, G, x, pa, la, v, n, m, Bk, cs, rfl, eG.trans e1, hF.ext e1, hn, .inr ⟨d, hd.mono e1, hR, fun dy H2 h0 e2 hy => ?_⟩⟩)
    all_goals
      refine ⟨true, T.te, fun _ a ha => ?_, fun z => Bool.noConfusion z⟩
      have e02 := e1.trans e2
      have hS2 := (hS K).mono e02
      refine ⟨.ref a, rfl, rfl, rfl, dy, _, v, rfl, hy, rfl, v, d, rfl, hS2, ?_⟩
      refine ⟨.ref a, rfl, rfl, dy, rfl, .ref CW, .ref CW, true, _, rfl, .own CW, EN.k1, hy, ?_⟩
      refine ⟨.ref a, rfl, rfl, dy, rfl, .ref CB, .ref CB, false, _, rfl, .own CB, EN.k2, hy, ?_⟩
      refine ⟨by show 3 ≤ sizeLine; decide, fun p2 hp2 => ?_⟩
      have e3 := Ex.new (o := .tup [V.str d.shown, .bl true, .bl false]) hp2
      have h2 : (upd H2 p2 (.tup [V.str d.shown, .bl true, .bl false])) p2 = some (.tup [V.str d.shown, .bl true, .bl false]) := upd_same
      generalize upd H2 p2 (.tup [V.str d.shown, .bl true, .bl false]) = H3 at *
      refine g_name ?_
      refine ⟨.ref p2, rfl, v, rfl, v, d, rfl, hS2.mono e3, by show 3 ≤ sizeLine; decide, fun p3 hp3 => ?_⟩
      have e4 := Ex.new (o := .tup [V.str d.shown, .bl true, .bl false]) hp3
      exact ⟨p2, p3, [.str d.shown, .bl true, .bl false], rfl, rfl, st_of (e4 _ _ h2), st_of upd_same, rfl, fun z hz => by
        rcases List.mem_cons.mp hz with q | hz
        · rw [q]; simp [eqV]
        · rcases List.mem_cons.mp hz with q | hz
          · rw [q]; simp [eqV]
          · rw [List.mem_singleton.mp hz]; simp [eqV], k _ ((e02.trans e3).trans e4)⟩
end
end Wk

set_option Elab.async false
set_option linter.all false
set_option maxRecDepth 100000
set_option maxHeartbeats 4000000
set_option pp.maxSteps 2000
namespace Wk
open PySem PySem.Spec PyProof.Rows L2 Evl
section
variable {P : Program} {w : World} {K : PySem.W.Frag} {mg : Str → Option Value} {base : Heap} {f : Addr} {fd : FuncData} {CF CB CD CN CW : Addr}
/-! _law_empty -/
def spEmp (CF : Addr) : Sp := fun vs H Q _ => ∃ (G : Hp) (x pa la : Addr) (n m : Nat) (us : List V) (js : List Wy), vs = [.ref x, .int (n : Int), .int (m : Int)] ∧ Ex G H ∧ Em CF G H x pa la n m us js ∧ ∀ H', Ex H H' → Q (.bl true) H'
abbrev sEmp : Stmt := top 44
abbrev nEmp : List Str := ["_law_flood", "_law_size", "_law_many", "_law_router", "_law_book"]
theorem scEmp : FnScope nEmp ["_law_flood", "_law_size", "_law_many"] (defScope sEmp) := ⟨rfl, rfl, rfl, by decide +kernel, rfl, by decide +kernel, by decide +kernel⟩
theorem ok_emp (B : Bl mg) (hdi : mg "dict" = none) (X : FX K CF) (MB : Msk P w K mg base CF "book" ["self", "router"] 5 (spBook CF)) (MC : Msk P w K mg base CF "content" ["self", "router"] 5 (spCont CF)) (MI : Msk P w K mg base CF "is_calm" ["self"] 4 (spCalm CF)) (CI : Cal P w K mg base "_law_is_integer" ["_law_thing"] 1 spIsInt)
    (F : FnP K "_law_empty" sEmp f fd) : FnOk P w K mg base CX0 6 f fd ["_law_flood", "_law_size", "_law_many"] (spEmp CF) := by
  obtain ⟨f1, fd1, me1, F1, b1⟩ := MB.ex
  obtain ⟨f2, fd2, me2, F2, b2⟩ := MC.ex
  obtain ⟨f3, fd3, me3, F3, b3⟩ := MI.ex
  refine F.ok scEmp (fun vs H Q E h => ?_) (fun cdv A outer s H vs Q E hr h => ?_)
  · obtain ⟨G, x, pa, la, n, m, us, js, rfl, _⟩ := h
    rfl
  · obtain ⟨G, x, pa, la, n, m, us, js, rfl, eG, hE, k⟩ := h
    have r5 : Room 5 _ := hr.mono (by decide)
    have r4 : Room 4 _ := hr.mono (by decide)
    refine ⟨_, pss_cons (ps_for (passes_of rfl) rfl (pi_range1 (by rfl) B.range (pa_cons (pv 1) pa_nil)) (pg_name (i := 3) scEmp.nd rfl (Or.inl rfl))
        (pss_cons (ps_set (i := 4) scEmp.nd rfl (Or.inl rfl) (pe_meth (pv 0) X.cl me1 F1 r5 b1 .nil pass0 (pa_cons (pv 3) pa_nil)))
        (pss_one (ps_if (PW.pt (pw_or (pt_not (pt_val (pe_callB call_isi (by rfl) B.isi boot_isinstance (pa_cons (pv 4) (pa_cons (pe_bltn (v := .ty "dict") (by rfl) hdi PyProof.Rows.boot_dict rfl) pa_nil)))))
          (pw_or (pt_cmpR op_ne (pe_callB call_lenD (by rfl) B.len PySem.boot_len (pa_cons (pv 4) pa_nil)) pe_int (nomark _))
          (pw_or1 (pt_cmpR op_notN (pe_meth (pv 0) X.cl me2 F2 r5 b2 .nil pass0 (pa_cons (pv 3) pa_nil)) pe_non (nomark _)))))) (pss_one (ps_ret pe_bl)) pss_nil))))
      (pss_one (ps_ret (pe_and (pe_cal CI hr (by rfl) (pa_cons (pe_fld (pv 0) rfl) pa_nil)) (pe_and (pe_cmpR op_eq (pe_fld (pv 0) rfl) (pv 2) (nomark _))
        (pe_one (pe_cmpR op_is_bl (pe_meth0 (pv 0) X.cl me3 F3 r4 b3 .nil pass0) pe_bl (nomark _))))))), ?_⟩
    have hn8 := hE.n8
    obtain ⟨dx, fs, st, hx, ff, _⟩ := hE.f.ob
    refine q_forR1 (ea_cons (ev_var rfl) ea_nil) (n := (n : Int)) (by omega) (fun i σ' H' => ∃ o3 o4, σ' = [some (.ref x), some (.int (n : Int)), some (.int (m : Int)), o3, o4] ∧ Ex H H') (fun H1 e1 => ⟨_, _, rfl, e1⟩) ?_ ?_
    · rintro i σ' H1 hi ⟨o3, o4, rfl, e1⟩
      have hin : i < n := by omega
      change tSeq _ _ _ [some (.ref x), some (.int (n : Int)), some (.int (m : Int)), some (.int (i : Int)), o4] H1
      refine ⟨.ref x, rfl, x, dx, fs, rfl, e1 _ _ hx, ff.n3, .int (i : Int), rfl, G, x, pa, la, n, m, i, B0, C0, rfl, eG.trans e1, hE.f.ext e1, hn8, hin, fun H2 D kvs ks e12 nD hD hbd hpw => ?_⟩
      have e02 := e1.trans e12
      refine g_name ?_
      dsimp only
      change tIfS _ _ _ _ [some (.ref x), some (.int (n : Int)), some (.int (m : Int)), some (.int (i : Int)), some (.ref D)] H2
      have hl0 := bk0 hbd (fun _ => rfl)
      have v4 : Ev (tVar 4) [some (.ref x), some (.int (n : Int)), some (.int (m : Int)), some (.int (i : Int)), some (.ref D)] H2 (.ref D) := ev_var rfl
      have c1 := et_not (et_B (ev_isiD (K := K) v4 hD))
      have c2 : EvT (tTest (tOp rNe (tCB (fun xs H Q => ∃ a kvs, xs = [V.ref a] ∧ H a = some (.dK kvs) ∧ Q (.int kvs.length) H) (tCons (tVar 4) tNil)) (tC (.int 0)))) [some (.ref x), some (.int (n : Int)), some (.int (m : Int)), some (.int (i : Int)), some (.ref D)] H2 false := by
        refine et_test (ev_is (ev_op (r := rNe) (x := .int (kvs.length : Int)) (fun H3 e3 Q3 q => ⟨.ref D, rfl, D, kvs, rfl, e3 _ _ hD, q H3 (Ex.refl _)⟩) ev_c (rv_ne rfl)) ?_)
        rw [hl0]
        rfl
      refine s_when (b := !true || (false || false)) (et_or c1 fun _ => et_or c2 fun _ => et_test (fun H3 e3 Q3 q => ⟨.ref x, rfl, x, dx, fs, rfl, (e02.trans e3) _ _ hx, ff.n4, .int (i : Int), rfl, G, x, pa, la, n, m, i, B0, C0, rfl, eG.trans (e02.trans e3), hE.f.ext (e02.trans e3), hn8, hin, fun H4 e34 => ⟨rfl, q H4 e34⟩⟩)) (fun z => by cases z) fun _ H3 e3 => ⟨_, _, rfl, e02.trans e3⟩
    · rintro σ' H1 ⟨o3, o4, rfl, e1⟩
      have fM : Ev (tFld K (tVar 0) "many") [some (.ref x), some (.int (n : Int)), some (.int (m : Int)), o3, o4] H1 (.int (m : Int)) := fun H2 e2 Q2 q => ⟨.ref x, rfl, x, CF, dx, _, _, rfl, (e1.trans e2) _ _ hx, X.cl, X.nM, ff.mn, q H2 (Ex.refl H2)⟩
      have c1 : Ev (tCall spIsInt [] E0 (tCons (tFld K (tVar 0) "many") tNil)) [some (.ref x), some (.int (n : Int)), some (.int (m : Int)), o3, o4] H1 (.bl true) := ev_call (ea_cons fM ea_nil) (spP_v fun H2 e => ⟨_, .int (m : Int), rfl, .int _, rfl⟩)
      have c2 := ev_op (r := rEq) fM (ev_var (i := 2) (v := .int (m : Int)) rfl) (rv_eq rfl)
      rw [decide_eq_true rfl] at c2
      refine s_ret (ev_andV c1 fun _ => ev_andV c2 fun _ => fun H2 e2 Q2 q => ⟨.ref x, rfl, x, dx, fs, rfl, (e1.trans e2) _ _ hx, ff.n5, G, x, pa, la, n, m, B0, C0, us, js, rfl, eG.trans (e1.trans e2), hE.f.ext (e1.trans e2), hn8, hE.la, hE.us, hE.pr, hE.jl, fun a b hab z => by simp [newer, B0] at z, fun H4 e4 => ⟨calmB n B0 C0 js, true, rfl, rfl, ?_⟩⟩) fun H2 e2 => k H2 (e1.trans e2)
      rw [calm0]
      exact q H4 e4
end
end Wk

set_option Elab.async false
set_option linter.all false
set_option maxRecDepth 100000
set_option maxHeartbeats 4000000
set_option pp.maxSteps 2000
namespace Wk
open PySem PySem.Spec PyProof.Rows L2 Evl
/-! {k: v}, k a tuple -/
def tDispT (tk tv : TE) : TE := fun σ H Q => ∀ D, H D = none → tk σ (upd H D (.dT [])) fun y H1 => tv σ H1 fun z H2 => ∃ Hn, DPut H2 D y z Hn ∧ Q (.ref D) Hn
theorem pe_dispT {X : Cx} {pos : Pos} {k v : Expr} {tk tv : TE} (hu : X.A.units < cLine) (hk : PE X k tk) (hv : PE X v tv) : PE X (.Dict [some k] [v] pos) (tDispT tk tv) := by
  refine ⟨fun pins s σ H Q I q => ?_⟩
  have hn := I.hok.fresh (Nat.le_refl s.heap.objs.size)
  have I1 := I.laid (a := s.heap.objs.size) (o := .dT []) (h' := s.heap.push { cls := .type "dict", data := .dict #[] }) (t' := s.toks) (fun _ _ q => Heap.get?_push_of_some _ q) (Nat.le_refl _) (dt_empty s.heap I.big)
  refine wpAny_Dict_any rfl rfl (by simp) (by simp) (pairTrees_cons_walk (thn (hk.run pins _ σ _ _ I1 (q _ hn)) fun u s1 ⟨x, H1, I1, rx, q1⟩ => thn (hv.run pins s1 σ H1 _ I1 q1) fun w2 s2 ⟨y, H2, I2, ry, q2⟩ => pairTrees_nil_walk ?_))
  obtain ⟨Hn, g, q3⟩ := q2
  unfold storeAll
  rw [List.forIn_cons]
  refine wpAny_bind (wpAny_bind (put_dp hu I2 g rx ry fun s' I' => wpAny_pure ?_))
  simp only [List.forIn_nil]
  exact wpAny_pure ⟨.ref s.heap.objs.size, Hn, I', rfl, q3⟩
section
variable {p q : Addr} {σ : L2.St} {te : TE} {d : PyData} {v : V}
theorem ed_ev (h : ∀ H, Ev te σ H v) (hd : ∀ G, Dq G v d) : EvDt p q te σ d := fun G H hP Q k => h H H (Ex.refl _) _ fun H1 e => k G H1 v (Gr.ext hP e) (hd G)
theorem ed_pow : EvDt p q (tOp (rI CPow fun i j => .int (i ^ j.toNat)) (tC (.int 10)) (tC (.int 29))) σ (.int ((10 : Int) ^ (29 : Int).toNat)) :=
  ed_ev (fun H H1 e Q q => ⟨10, 29, rfl, rfl, ⟨by decide, by decide, by decide⟩, q H1 (Ex.refl _)⟩) fun _ => .int _
theorem ed_neg : EvDt p q (tUn (rU fun i => .int (-i)) (tC (.int 1))) σ (.int (-1)) := ed_ev (fun H => ev_un (r := rU fun i => .int (-i)) (ev_c (v := .int 1)) (fun H1 _ Q q => ⟨1, rfl, q H1 (Ex.refl H1)⟩)) fun _ => .int _
end

section
variable {p q : Addr} {σ : L2.St} {te : TE} {d : PyData} {v : V}
theorem ed_inc {i : Nat} {a : Int} (h : σ[i]? = some (some (.int a))) : EvDt p q (tOp (rI0 fun i j => .int (i + j)) (tVar i) (tC (.int 1))) σ (.int (a + 1)) :=
  ed_ev (fun H => ev_op (ev_var h) ev_c rv_I0) fun _ => .int _
theorem ed_str {i : Nat} {a : Int} (h : σ[i]? = some (some (.int a))) (h0 : 0 ≤ a) (h9 : a ≤ 9) : EvDt p q (tCB (fun xs H Q => ∃ i, xs = [V.int i] ∧ i.natAbs.log2 < 1920 ∧ Q (.str (toString i)) H) (tCons (tOp (rI0 fun i j => .int (i + j)) (tVar i) (tC (.int 1))) tNil)) σ (.str (toString (a + 1))) := fun G H hP Q k => by
  have z : Ev (tOp (rI0 fun i j => .int (i + j)) (tVar i) (tC (.int 1))) σ H (.int (a + 1)) := ev_op (ev_var h) ev_c rv_I0
  refine z H (Ex.refl _) _ fun H1 e => ⟨a + 1, rfl, ?_, k G H1 _ (Gr.ext hP e) (.str _)⟩
  have := Nat.log2_le_self (a + 1).natAbs
  omega
end
/-! what is no size, no link, no row -/
def nsD (r : Int) : List PyData := [.int 0, .int 9, .int (-r), .int (8 + r), .int ((10 : Int) ^ (29 : Int).toNat), .bool true, .none, .str "3", .tuple [.int 3], .list [.int 3], .dict []]
theorem sz_lo {i : Int} (h : i ≤ 0 ∨ 9 ≤ i) : szB (.int i) = false := by
  show (true && (decide (1 ≤ i) && decide (i ≤ 8))) = false
  rcases h with h | h
  · rw [decide_eq_false (show ¬ 1 ≤ i by omega)]
    rfl
  · rw [decide_eq_false (show ¬ i ≤ 8 by omega), Bool.and_false]
    rfl
theorem ns_no {r : Int} (hr : 1 ≤ r) : ∀ d ∈ nsD r, szB d = false := by
  intro d hd
  unfold nsD at hd
  simp only [List.mem_cons, List.not_mem_nil, or_false] at hd
  rcases hd with rfl | rfl | rfl | rfl | rfl | rfl | rfl | rfl | rfl | rfl | rfl
  · exact sz_lo (by omega)
  · exact sz_lo (by omega)
  · exact sz_lo (by omega)
  · exact sz_lo (by omega)
  · exact sz_lo (.inr (by decide))
  all_goals rfl
def nl0 (n : Nat) (a : Int) : List PyData := [.tuple [.int a, .int a], .tuple [.int a, .int (n : Int)], .tuple [.int (n : Int), .int a], .tuple [.int (-1), .int a], .tuple [.int a, .bool true], .tuple [.bool false, .int a], .list [.int a, .int (a + 1)], .tuple [.int a], .tuple [.int a, .int (a + 1), .int a]]
def nl1 (a : Int) : List PyData := [.none, .str "01", .int a, .dict [], .tuple [.int a, .str (toString (a + 1))], .tuple [.int a, .tuple [.int a]], .tuple []]
theorem nl_no {n : Nat} {a : Int} : ∀ d ∈ nl0 n a ++ nl1 a, prD (n : Int) d = false := by
  intro d hd
  unfold nl0 nl1 at hd
  simp only [List.mem_append, List.mem_cons, List.not_mem_nil, or_false] at hd
  rcases hd with (rfl | rfl | rfl | rfl | rfl | rfl | rfl | rfl | rfl) | (rfl | rfl | rfl | rfl | rfl | rfl | rfl) <;> first | rfl | (simp [prD, rpD, isR, isI, valI, isTu, itemsT]; done) | (simp [prD, rpD, isR, isI, valI, isTu, itemsT]; omega)
section
variable {P : Program} {w : World} {K : PySem.W.Frag} {mg : Str → Option Value} {base : Heap} {f : Addr} {fd : FuncData}
/-! _law_no_size -/
def spNoS : Sp := fun vs H Q _ => ∃ (G : Hp) (p q : Addr), vs = [.ref p] ∧ Pm G H p q ∧ ∀ G' H' v d, Gr p q G H G' H' → Dq G' v d → szB d = false → Q v H'
abbrev sNoS : Stmt := top 38
abbrev nNoS : List Str := ["_law_pool_here", "_law_far", "_law_things"]
theorem scNoS : FnScope nNoS ["_law_pool_here"] (defScope sNoS) := ⟨rfl, rfl, rfl, by decide +kernel, rfl, by decide +kernel, by decide +kernel⟩
theorem ok_noS (B : Bl mg) (C : Cal P w K mg base "_law_draw" ["_law_pool_here", "_law_limit"] 2 spDraw) (F : FnP K "_law_no_size" sNoS f fd) : FnOk P w K mg base CX0 3 f fd ["_law_pool_here"] spNoS := by
  refine F.ok scNoS (fun vs H Q E h => ?_) (fun cdv A outer s H vs Q E hr h => ?_)
  · obtain ⟨G, p, q, rfl, _⟩ := h
    rfl
  · obtain ⟨G, p, q, rfl, hP, k⟩ := h
    refine ⟨_, pss_cons (ps_set (i := 1) scNoS.nd rfl (Or.inl rfl) (pe_op op_add pe_int (pe_cal C hr (by rfl) (pa_cons (pv 0) (pa_cons (pe_op op_pow pe_int pe_int) pa_nil)))))
      (pss_cons (ps_set (i := 2) scNoS.nd rfl (Or.inl rfl) (pe_lst (pa_cons pe_int (pa_cons pe_int (pa_cons (pe_un un_neg (pv 1)) (pa_cons (pe_op op_add pe_int (pv 1)) (pa_cons (pe_op op_pow pe_int pe_int) (pa_cons pe_bl (pa_cons pe_non (pa_cons pe_str (pa_cons (pe_tup (pa_cons pe_int pa_nil)) (pa_cons (pe_lst (pa_cons pe_int pa_nil)) (pa_cons pe_dnewK pa_nil)))))))))))))
      (pss_one (ps_ret (pe_ix ix_list (pv 2) (pe_cal C hr (by rfl) (pa_cons (pv 0) (pa_cons pe_int pa_nil))) (fun _ _ => rfl))))), ?_⟩
    refine ⟨.ref p, rfl, 10, 9, rfl, rfl, ⟨by decide, by decide, by decide⟩, ⟨_, p, q, _, rfl, hP.hd, by decide, by decide, fun H1 a h1 ha0 ha1 => ?_⟩⟩
    have g1 := Gr.draw hP h1
    refine ⟨1, a, rfl, rfl, ?_⟩
    refine g_name ?_
    dsimp only
    change tSeq _ _ _ [some (.ref p), some (.int (1 + a)), none] H1
    have hr1 : 1 ≤ 1 + a := by omega
    generalize 1 + a = r at *
    refine q_asgD (p := p) (q := q) (d := .list (nsD r)) (ed_lst (ed_cons (ed_c fun _ => .int _) (ed_cons (ed_c fun _ => .int _) (ed_cons (ed_ev (fun H => ev_un (r := rU fun i => .int (-i)) (ev_var (i := 1) rfl) (fun H1 _ Q q => ⟨r, rfl, q H1 (Ex.refl H1)⟩)) fun _ => .int _) (ed_cons (ed_ev (fun H => ev_op (r := rI0 fun i j => .int (i + j)) ev_c (ev_var (i := 1) rfl) rv_I0) fun _ => .int _) (ed_cons ed_pow (ed_cons (ed_c fun _ => .bl _) (ed_cons (ed_c fun _ => .non) (ed_cons (ed_c fun _ => .str _) (ed_cons (ed_tup (ed_cons (ed_c fun _ => .int _) ed_nil) (by simp)) (ed_cons (ed_lst (ed_cons (ed_c fun _ => .int _) ed_nil) (by simp)) (ed_cons ed_dict ed_nil))))))))))) (by simp [nsD])) g1.pl fun G4 H4 v4 g4 hv4 => ?_
    change tRet _ _ [some (.ref p), some (.int r), some v4] H4
    have f10 := g1.trans g4
    have hno := ns_no hr1
    have hlen : (nsD r).length = 11 := rfl
    generalize nsD r = ds at *
    cases hv4 with
    | @lst A xs _ a1 a2 =>
      refine ⟨.ref A, rfl, .ref p, rfl, ⟨_, p, q, 11, rfl, f10.pl.hd, by decide, by decide, fun H11 j h11 hj0 hj1 => ?_⟩⟩
      have f11 := f10.trans (Gr.draw f10.pl h11)
      have l1 := a2.length
      obtain ⟨m, rfl⟩ : ∃ m : Nat, j = (m : Int) := ⟨j.toNat, by omega⟩
      have hm : m < ds.length := by omega
      obtain ⟨u, hu1, hu2⟩ := a2.at (List.getElem?_eq_getElem hm)
      exact ⟨A, xs, (m : Int), u, rfl, rfl, sq_of (f11.pl.ex _ _ a1), atI_nat hu1, k _ H11 u _ f11 hu2 (hno _ (List.getElem_mem hm))⟩
/-! _law_no_link -/
def spNoL : Sp := fun vs H Q _ => ∃ (G : Hp) (p q : Addr) (n : Nat), vs = [.ref p, .int (n : Int)] ∧ Pm G H p q ∧ 1 ≤ n ∧ n ≤ 8 ∧ ∀ G' H' v d, Gr p q G H G' H' → Dq G' v d → prD (n : Int) d = false → Q v H'
abbrev sNoL : Stmt := top 39
abbrev nNoL : List Str := ["_law_pool_here", "_law_size", "_law_a", "_law_things"]
theorem scNoL : FnScope nNoL ["_law_pool_here", "_law_size"] (defScope sNoL) := ⟨rfl, rfl, rfl, by decide +kernel, rfl, by decide +kernel, by decide +kernel⟩
theorem ok_noL (B : Bl mg) (C : Cal P w K mg base "_law_draw" ["_law_pool_here", "_law_limit"] 2 spDraw) (F : FnP K "_law_no_link" sNoL f fd) : FnOk P w K mg base CX0 3 f fd ["_law_pool_here", "_law_size"] spNoL := by
  refine F.ok scNoL (fun vs H Q E h => ?_) (fun cdv A outer s H vs Q E hr h => ?_)
  · obtain ⟨G, p, q, n, rfl, _⟩ := h
    rfl
  · obtain ⟨G, p, q, n, rfl, hP, hn1, hn8, k⟩ := h
    refine ⟨_, pss_cons (ps_set (i := 2) scNoL.nd rfl (Or.inl rfl) (pe_cal C hr (by rfl) (pa_cons (pv 0) (pa_cons (pv 1) pa_nil))))
      (pss_cons (ps_set (i := 3) scNoL.nd rfl (Or.inl rfl) (pe_lst (pa_cons (pe_tup (pa_cons (pv 2) (pa_cons (pv 2) pa_nil))) (pa_cons (pe_tup (pa_cons (pv 2) (pa_cons (pv 1) pa_nil))) (pa_cons (pe_tup (pa_cons (pv 1) (pa_cons (pv 2) pa_nil))) (pa_cons (pe_tup (pa_cons (pe_un un_neg pe_int) (pa_cons (pv 2) pa_nil))) (pa_cons (pe_tup (pa_cons (pv 2) (pa_cons pe_bl pa_nil))) (pa_cons (pe_tup (pa_cons pe_bl (pa_cons (pv 2) pa_nil))) (pa_cons (pe_lst (pa_cons (pv 2) (pa_cons (pe_op op_add (pv 2) pe_int) pa_nil))) (pa_cons (pe_tup (pa_cons (pv 2) pa_nil)) (pa_cons (pe_tup (pa_cons (pv 2) (pa_cons (pe_op op_add (pv 2) pe_int) (pa_cons (pv 2) pa_nil)))) pa_nil)))))))))))
      (pss_cons (ps_set (i := 3) scNoL.nd rfl (Or.inl rfl) (pe_op op_cat (pv 3) (pe_lst (pa_cons pe_non (pa_cons pe_str (pa_cons (pv 2) (pa_cons pe_dnewK (pa_cons (pe_tup (pa_cons (pv 2) (pa_cons (pe_callTy call_str_int (by rfl) B.str PyProof.Rows.boot_str (pa_cons (pe_op op_add (pv 2) pe_int) pa_nil)) pa_nil))) (pa_cons (pe_tup (pa_cons (pv 2) (pa_cons (pe_tup (pa_cons (pv 2) pa_nil)) pa_nil))) (pa_cons (pe_tup pa_nil) pa_nil))))))))))
      (pss_one (ps_ret (pe_ix ix_list (pv 3) (pe_cal C hr (by rfl) (pa_cons (pv 0) (pa_cons pe_int pa_nil))) (fun _ _ => rfl)))))), ?_⟩
    refine ⟨.ref p, rfl, .int (n : Int), rfl, ⟨_, p, q, _, rfl, hP.hd, by omega, by omega, fun H1 a h1 ha0 ha1 => ?_⟩⟩
    have g1 := Gr.draw hP h1
    refine g_name ?_
    dsimp only
    change tSeq _ _ _ [some (.ref p), some (.int (n : Int)), some (.int a), none] H1
    have i2 : ([some (V.ref p), some (.int (n : Int)), some (.int a), none] : L2.St)[2]? = some (some (.int a)) := rfl
    refine q_asgD (p := p) (q := q) (d := .list (nl0 n a)) (ed_lst (ed_cons (ed_tup (ed_cons (ed_int rfl) (ed_cons (ed_int rfl) ed_nil)) (by simp)) (ed_cons (ed_tup (ed_cons (ed_int rfl) (ed_cons (ed_int rfl) ed_nil)) (by simp)) (ed_cons (ed_tup (ed_cons (ed_int rfl) (ed_cons (ed_int rfl) ed_nil)) (by simp)) (ed_cons (ed_tup (ed_cons ed_neg (ed_cons (ed_int rfl) ed_nil)) (by simp)) (ed_cons (ed_tup (ed_cons (ed_int rfl) (ed_cons (ed_c fun _ => .bl _) ed_nil)) (by simp)) (ed_cons (ed_tup (ed_cons (ed_c fun _ => .bl _) (ed_cons (ed_int rfl) ed_nil)) (by simp)) (ed_cons (ed_lst (ed_cons (ed_int rfl) (ed_cons (ed_inc i2) ed_nil)) (by simp)) (ed_cons (ed_tup (ed_cons (ed_int rfl) ed_nil) (by simp)) (ed_cons (ed_tup (ed_cons (ed_int rfl) (ed_cons (ed_inc i2) (ed_cons (ed_int rfl) ed_nil))) (by simp)) ed_nil))))))))) (by simp [nl0])) g1.pl fun G4 H4 v4 g4 hv4 => ?_
    change tSeq _ _ _ [some (.ref p), some (.int (n : Int)), some (.int a), some v4] H4
    have f4 := g1.trans g4
    have i2 : ([some (V.ref p), some (.int (n : Int)), some (.int a), some v4] : L2.St)[2]? = some (some (.int a)) := rfl
    refine q_catD (p := p) (q := q) (es := nl1 a) G4 (v := v4) rfl hv4 (ed_lst (ed_cons (ed_c fun _ => .non) (ed_cons (ed_c fun _ => .str _) (ed_cons (ed_int rfl) (ed_cons ed_dict (ed_cons (ed_tup (ed_cons (ed_int rfl) (ed_cons (ed_str i2 ha0 (by omega)) ed_nil)) (by simp)) (ed_cons (ed_tup (ed_cons (ed_int rfl) (ed_cons (ed_tup (ed_cons (ed_int rfl) ed_nil) (by simp)) ed_nil)) (by simp)) (ed_cons (ed_tup ed_nil (by simp)) ed_nil))))))) (by simp [nl1])) (by simp [nl0, nl1]) f4.pl fun G5 H5 v5 g5 hv5 => ?_
    change tRet _ _ [some (.ref p), some (.int (n : Int)), some (.int a), some v5] H5
    have f10 := f4.trans g5
    clear hv4
    have hno := nl_no (n := n) (a := a)
    have hlen : (nl0 n a ++ nl1 a).length = 16 := rfl
    generalize nl0 n a ++ nl1 a = ds at *
    cases hv5 with
    | @lst A xs _ a1 a2 =>
      refine ⟨.ref A, rfl, .ref p, rfl, ⟨_, p, q, 16, rfl, f10.pl.hd, by decide, by decide, fun H11 j h11 hj0 hj1 => ?_⟩⟩
      have f11 := f10.trans (Gr.draw f10.pl h11)
      have l1 := a2.length
      obtain ⟨m, rfl⟩ : ∃ m : Nat, j = (m : Int) := ⟨j.toNat, by omega⟩
      have hm : m < ds.length := by omega
      obtain ⟨u, hu1, hu2⟩ := a2.at (List.getElem?_eq_getElem hm)
      exact ⟨A, xs, (m : Int), u, rfl, rfl, sq_of (f11.pl.ex _ _ a1), atI_nat hu1, k _ H11 u _ f11 hu2 (hno _ (List.getElem_mem hm))⟩
/-! _law_no_row -/
def spNoW : Sp := fun vs H Q _ => ∃ (G : Hp) (p q : Addr), vs = [.ref p] ∧ Pm G H p q ∧ ∀ H' v d, Gr p q G H G H' → Tg H' v d → rowD d = false → itemsR d = [] → Q v H'
abbrev sNoW : Stmt := top 40
abbrev nNoW : List Str := ["_law_pool_here", "_law_things"]
theorem scNoW : FnScope nNoW ["_law_pool_here"] (defScope sNoW) := ⟨rfl, rfl, rfl, by decide +kernel, rfl, by decide +kernel, by decide +kernel⟩
theorem ok_noW (B : Bl mg) (C : Cal P w K mg base "_law_draw" ["_law_pool_here", "_law_limit"] 2 spDraw) (F : FnP K "_law_no_row" sNoW f fd) : FnOk P w K mg base CX0 3 f fd ["_law_pool_here"] spNoW := by
  refine F.ok scNoW (fun vs H Q E h => ?_) (fun cdv A outer s H vs Q E hr h => ?_)
  · obtain ⟨G, p, q, rfl, _⟩ := h
    rfl
  · obtain ⟨G, p, q, rfl, hP, k⟩ := h
    have hu : (A.deeper (envOfC "_law_no_row" (defScope sNoW) s.heap.objs.size f cdv)).units < cLine := by have := hr.un; omega
    refine ⟨_, pss_cons (ps_set (i := 1) scNoW.nd rfl (Or.inl rfl) (pe_lst (pa_cons pe_non (pa_cons pe_str (pa_cons pe_dnewK (pa_cons pe_int (pa_cons pe_bl (pa_cons (pe_dispT hu (pe_tup (pa_cons pe_int (pa_cons pe_int pa_nil))) pe_bl) (pa_cons pe_str pa_nil)))))))))
      (pss_one (ps_ret (pe_ix ix_list (pv 1) (pe_cal C hr (by rfl) (pa_cons (pv 0) (pa_cons pe_int pa_nil))) (fun _ _ => rfl)))), ?_⟩
    intro D1 n1 D2 n2
    have e1 := Ex.new (o := .dK []) n1
    have h1 : (upd H D1 (.dK [])) D1 = some (.dK []) := upd_same
    generalize upd H D1 (.dK []) = H1 at *
    have n20 := fresh_back e1 n2
    have e2 := e1.trans (Ex.new (o := .dT []) n2)
    have d1p := ne_of_none h1 n2
    have h1' : (upd H1 D2 (.dT [])) D1 = some (.dK []) := by rw [upd_ne d1p]; exact h1
    have h2 : (upd H1 D2 (.dT [])) D2 = some (.dT []) := upd_same
    generalize upd H1 D2 (.dT []) = H2 at *
    refine ⟨by show 2 ≤ sizeLine; decide, fun t nt => ?_⟩
    have et := Ex.new (o := .tup [V.int 0, .int 1]) nt
    have e3 := e2.trans et
    have h13 := et _ _ h1'
    have h23 := et _ _ h2
    have ht3 : (upd H2 t (.tup [V.int 0, .int 1])) t = some (.tup (([.inl 0, .inl 1] : List L2.Key).map kV)) := upd_same
    generalize upd H2 t (.tup [V.int 0, .int 1]) = H3 at *
    refine ⟨_, DPut.t (k := [.inl 0, .inl 1]) h23 ht3 (by show 0 < sizeLine; decide), ?_⟩
    have e4 : Ex H (upd H3 D2 (.dT (putK [] [.inl 0, .inl 1] (V.bl true)))) := Ex.mut e3 n20
    have h14 : (upd H3 D2 (.dT (putK [] [.inl 0, .inl 1] (V.bl true)))) D1 = some (.dK []) := by rw [upd_ne d1p]; exact h13
    have h24 : (upd H3 D2 (.dT (putK [] [.inl 0, .inl 1] (V.bl true)))) D2 = some (.dT (putK [] [.inl 0, .inl 1] (V.bl true))) := upd_same
    generalize upd H3 D2 (.dT (putK [] [.inl 0, .inl 1] (V.bl true))) = H4 at *
    refine ⟨by show 7 ≤ sizeLine; decide, fun L nL => ?_⟩
    have eL := Ex.new (o := .lst [V.non, .str "01", .ref D1, .int 7, .bl true, .ref D2, .str ""]) nL
    have e5 := e4.trans eL
    have h15 := eL _ _ h14
    have h25 := eL _ _ h24
    have hL5 : (upd H4 L (.lst [V.non, .str "01", .ref D1, .int 7, .bl true, .ref D2, .str ""])) L = some (.lst [V.non, .str "01", .ref D1, .int 7, .bl true, .ref D2, .str ""]) := upd_same
    generalize upd H4 L (.lst [V.non, .str "01", .ref D1, .int 7, .bl true, .ref D2, .str ""]) = H5 at *
    have g5 := Gr.ext hP e5
    have np : ∀ {b : Addr} {u : HO}, H5 b = some u → (∀ xs, u ≠ .lst xs) → b ≠ p := fun {b u} hb hu z => by
      obtain ⟨_, _, _, p1, _⟩ := g5.pl.at_
      rw [z, p1] at hb
      cases hb
      exact hu _ rfl
    have Lp : L ≠ p := fun z => by
      obtain ⟨_, _, _, p1, _⟩ := (hP.ext e4).at_
      rw [z, p1] at nL
      cases nL
    refine g_name ?_
    dsimp only
    change tRet _ _ [some (.ref p), some (.ref L)] H5
    refine ⟨.ref L, rfl, .ref p, rfl, ⟨_, p, q, 7, rfl, g5.pl.hd, by decide, by decide, fun H6 j h6 hj0 hj1 => ?_⟩⟩
    have g6 := g5.trans (Gr.draw g5.pl h6)
    have hL6 := h6.off _ _ Lp hL5
    have h16 := h6.off _ _ (np h15 fun _ z => by cases z) h15
    have h26 := h6.off _ _ (np h25 fun _ z => by cases z) h25
    rcases (show j = 0 ∨ j = 1 ∨ j = 2 ∨ j = 3 ∨ j = 4 ∨ j = 5 ∨ j = 6 by omega) with rfl | rfl | rfl | rfl | rfl | rfl | rfl
    · exact ⟨L, _, 0, _, rfl, rfl, sq_of hL6, atI_nat (j := 0) rfl, k H6 _ .none g6 (.inl .non) rfl rfl⟩
    · exact ⟨L, _, 1, _, rfl, rfl, sq_of hL6, atI_nat (j := 1) rfl, k H6 _ (.str "01") g6 (.inl (.str _)) rfl rfl⟩
    · exact ⟨L, _, 2, _, rfl, rfl, sq_of hL6, atI_nat (j := 2) rfl, k H6 _ (.dict []) g6 (.inl (.dic h16)) rfl rfl⟩
    · exact ⟨L, _, 3, _, rfl, rfl, sq_of hL6, atI_nat (j := 3) rfl, k H6 _ (.int 7) g6 (.inl (.int _)) rfl rfl⟩
    · exact ⟨L, _, 4, _, rfl, rfl, sq_of hL6, atI_nat (j := 4) rfl, k H6 _ (.bool true) g6 (.inl (.bl _)) rfl rfl⟩
    · exact ⟨L, _, 5, _, rfl, rfl, sq_of hL6, atI_nat (j := 5) rfl, k H6 _ (.dict []) g6 (.inr ⟨rfl, D2, _, rfl, h26⟩) rfl rfl⟩
    · exact ⟨L, _, 6, _, rfl, rfl, sq_of hL6, atI_nat (j := 6) rfl, k H6 _ (.str "") g6 (.inl (.str _)) rfl rfl⟩
end
end Wk

set_option Elab.async false
set_option linter.all false
set_option maxRecDepth 100000
set_option maxHeartbeats 4000000
set_option pp.maxSteps 2000
namespace Wk
open PySem PySem.Spec PyProof.Rows L2 Evl
open Classical in
/-- what stays: what stood, what is new, and tuples -/
noncomputable def NewK (G H H' : Hp) : Hp := fun b => if (∀ u, H b = some u → ∃ xs, u = .tup xs) then H' b else G b
section
variable {G H H' : Hp} {b : Addr} {u : HO}
theorem newK_ex (eG : Ex G H) (e : Ex H H') : Ex G (NewK G H H') := fun b u hb => by
  unfold NewK
  split
  · exact e _ _ (eG _ _ hb)
  · exact hb
theorem newK_sub (eG : Ex G H) (e : Ex H H') : Ex (NewK G H H') H' := fun b u hb => by
  unfold NewK at hb
  split at hb
  · exact hb
  · exact e _ _ (eG _ _ hb)
theorem newK_new (h : H b = none) : NewK G H H' b = H' b := by
  unfold NewK
  rw [if_pos (fun u hu => by rw [h] at hu; cases hu)]
theorem newK_tup {xs : List V} (e : Ex H H') (h : H' b = some (.tup xs)) : NewK G H H' b = some (.tup xs) := by
  unfold NewK
  rw [if_pos (fun u hu => by rw [e b u hu] at h; cases h; exact ⟨_, rfl⟩), h]
theorem newK_no (hg : G b = none) (h : H b = some u) (hu : ∀ xs, u ≠ .tup xs) : NewK G H H' b = none := by
  unfold NewK
  rw [if_neg (fun z => by obtain ⟨xs, e⟩ := z u h; exact hu xs e), hg]
theorem newK_wds {us : List V} {ws : List Wy} (e : Ex H H') (h : DqA H' us (ws.map wd)) : DqA (NewK G H H') us (ws.map wd) := by
  obtain ⟨ks, k1, k2, k3⟩ := wds_ks h
  rw [k1, ← k2]
  exact ks_wds fun q hq => newK_tup e (k3 q hq)
end
theorem FdA.keep {CF : Addr} {G H G' H' : Hp} {x pa la : Addr} {n m : Nat} {B : Nat → Bk} {cs : Nat → Option Nat} (h : FdA CF G H x pa la n m B cs) (eG : Ex G G') (gx : G' x = none) (gp : G' pa = none) (hx : ∀ u, H x = some u → H' x = some u) (hp : ∀ u, H pa = some u → H' pa = some u) : FdA CF G' H' x pa la n m B cs := by
  obtain ⟨dx, fs, st, h1, h2, h3⟩ := h.ob
  obtain ⟨us, h4, h5⟩ := h.ps
  exact ⟨⟨dx, fs, st, hx _ h1, h2, h3.mono eG⟩, ⟨us, hp _ h4, h5⟩, gx, gp, h.ne⟩
theorem Em.keep {CF : Addr} {G H G' H' : Hp} {x pa la : Addr} {n m : Nat} {us : List V} {js : List Wy} (h : Em CF G H x pa la n m us js) (eG : Ex G G') (gx : G' x = none) (gp : G' pa = none) (hx : ∀ u, H x = some u → H' x = some u) (hp : ∀ u, H pa = some u → H' pa = some u) : Em CF G' H' x pa la n m us js :=
  ⟨h.f.keep eG gx gp hx hp, h.n8, eG _ _ h.la, h.us.mono eG, h.pr, h.jl⟩
theorem Em.at_ {CF : Addr} {G H : Hp} {x pa la : Addr} {n m : Nat} {us : List V} {js : List Wy} (h : Em CF G H x pa la n m us js) : (∃ dx fs, H x = some (.ins CF dx fs)) ∧ ∃ ps, H pa = some (.lst ps) := by
  obtain ⟨dx, fs, st, h1, h2, h3⟩ := h.f.ob
  obtain ⟨us, h4, h5⟩ := h.f.ps
  exact ⟨⟨dx, fs, h1⟩, us, h4⟩
/-- two floods beside each other -/
structure Tw (CF : Addr) (G H : Hp) (x1 pa1 la1 x2 pa2 la2 : Addr) (n m : Nat) (us1 us2 : List V) (js : List Wy) : Prop where
  ex : Ex G H
  a : Em CF G H x1 pa1 la1 n 0 us1 js
  b : Em CF G H x2 pa2 la2 n m us2 js
  d : x1 ≠ x2 ∧ x1 ≠ pa2 ∧ pa1 ≠ x2 ∧ pa1 ≠ pa2
section
variable {CF : Addr} {G H G' H' : Hp} {x1 pa1 la1 x2 pa2 la2 : Addr} {n m m' : Nat} {us1 us2 : List V} {js : List Wy}
theorem Tw.ext (h : Tw CF G H x1 pa1 la1 x2 pa2 la2 n m us1 us2 js) (e : Ex H H') : Tw CF G H' x1 pa1 la1 x2 pa2 la2 n m us1 us2 js := ⟨h.ex.trans e, h.a.ext e, h.b.ext e, h.d⟩
theorem Tw.go (h : Tw CF G H x1 pa1 la1 x2 pa2 la2 n m us1 us2 js) (g : Gm x2 pa2 G H G' H') (hb : Em CF G' H' x2 pa2 la2 n m' us2 js) : Tw CF G' H' x1 pa1 la1 x2 pa2 la2 n m' us1 us2 js := by
  obtain ⟨⟨dx, fs, h1⟩, ps, h2⟩ := h.a.at_
  exact ⟨g.sub, h.a.keep g.ex (g.nw _ _ h.a.f.gx h1 fun _ z => by cases z) (g.nw _ _ h.a.f.gp h2 fun _ z => by cases z) (fun u hu => g.off _ _ h.d.1 h.d.2.1 hu) (fun u hu => g.off _ _ h.d.2.2.1 h.d.2.2.2 hu), hb, h.d⟩
theorem Tw.more (h : Tw CF G H x1 pa1 la1 x2 pa2 la2 n m us1 us2 js) (e : Ex H H') : Tw CF (NewK G H H') H' x1 pa1 la1 x2 pa2 la2 n m us1 us2 js := by
  obtain ⟨⟨dx, fs, h1⟩, ps, h2⟩ := h.a.at_
  obtain ⟨⟨dx2, fs2, h3⟩, ps2, h4⟩ := h.b.at_
  exact ⟨newK_sub h.ex e, h.a.keep (newK_ex h.ex e) (newK_no h.a.f.gx h1 fun _ z => by cases z) (newK_no h.a.f.gp h2 fun _ z => by cases z) (fun u hu => e _ _ hu) (fun u hu => e _ _ hu),
    h.b.keep (newK_ex h.ex e) (newK_no h.b.f.gx h3 fun _ z => by cases z) (newK_no h.b.f.gp h4 fun _ z => by cases z) (fun u hu => e _ _ hu) (fun u hu => e _ _ hu), h.d⟩
theorem Tw.mut (h : Tw CF G H x1 pa1 la1 x2 pa2 la2 n m us1 us2 js) {b : Addr} (o : HO) (hg : G b = none) (b1 : b ≠ x1) (b2 : b ≠ pa1) (b3 : b ≠ x2) (b4 : b ≠ pa2) : Tw CF G (upd H b o) x1 pa1 la1 x2 pa2 la2 n m us1 us2 js :=
  ⟨Ex.mut h.ex hg, h.a.keep (Ex.refl _) h.a.f.gx h.a.f.gp (fun u hu => by rw [upd_ne (Ne.symm b1)]; exact hu) (fun u hu => by rw [upd_ne (Ne.symm b2)]; exact hu),
    h.b.keep (Ex.refl _) h.b.f.gx h.b.f.gp (fun u hu => by rw [upd_ne (Ne.symm b3)]; exact hu) (fun u hu => by rw [upd_ne (Ne.symm b4)]; exact hu), h.d⟩
end
theorem eqv_wds (ws : List Wy) : PyData.eqv (.list (ws.map wd)) (.list (ws.map wd)) = true := by
  show PyData.eqvAll (ws.map wd) (ws.map wd) = true
  induction ws with
  | nil => simp [PyData.eqvAll]
  | cons w ws ih =>
    rw [List.map_cons]
    unfold PyData.eqvAll
    rw [ih, eqv_wd, decide_eq_true rfl]
    rfl
/-! ten things that are no router -/
def things (n : Nat) : List PyData := [.int (n : Int), .int (-1), .int ((n : Int) + (10 : Int) ^ (20 : Int).toNat), .bool true, .bool false, .none, .str "0", .tuple [.int 0], .list [.int 0], .dict []]
/-- what is said of a thing -/
def ThOk (n : Nat) (d : PyData) : Prop := isR (n : Int) d = false ∧ (d = .dict [] ∨ (d.canLay0 = true ∧ d.showable = true ∧ d.hasDict = false ∧ d.depth ≤ 60 ∧ d.shown.length ≤ sizeLine))
theorem things_no {n : Nat} (h1 : 1 ≤ n) (h8 : n ≤ 8) : ∀ d ∈ things n, ThOk n d := by
  have h : n = 1 ∨ n = 2 ∨ n = 3 ∨ n = 4 ∨ n = 5 ∨ n = 6 ∨ n = 7 ∨ n = 8 := by omega
  intro d hd
  unfold things at hd
  simp only [List.mem_cons, List.not_mem_nil, or_false] at hd
  rcases h with rfl | rfl | rfl | rfl | rfl | rfl | rfl | rfl <;> rcases hd with rfl | rfl | rfl | rfl | rfl | rfl | rfl | rfl | rfl | rfl <;>
    first | exact ⟨by decide +kernel, .inl rfl⟩ | exact ⟨by decide +kernel, .inr ⟨by decide +kernel, by decide +kernel, by decide +kernel, by decide +kernel, by decide +kernel⟩⟩
theorem ThOk.shw {n : Nat} {d : PyData} {H : Hp} {v : V} (h : ThOk n d) (hd : Dq H v d) : ∀ K, Shw K H v d := fun K => by
  rcases h.2 with rfl | h
  · cases hd with
    | dic ha => exact .inr ⟨rfl, _, rfl, ha⟩
  · exact .inl ⟨hd, h⟩
end Wk

set_option Elab.async false
set_option linter.all false
set_option maxRecDepth 100000
set_option maxHeartbeats 4000000
set_option pp.maxSteps 2000
namespace Wk
open PySem PySem.Spec PyProof.Rows L2 Evl
structure Jn (CF : Addr) (G H : Hp) (x1 pa1 la1 x2 pa2 la2 : Addr) (n m : Nat) (us1 us2 : List V) (js : List Wy) (lj : Addr) (uj : List V) : Prop where
  w : Tw CF G H x1 pa1 la1 x2 pa2 la2 n m us1 us2 js
  j : G lj = some (.lst uj)
  u : DqA G uj (js.map wd)
section
variable {CF : Addr} {G H G' H' : Hp} {x1 pa1 la1 x2 pa2 la2 lj : Addr} {n m m' : Nat} {us1 us2 uj : List V} {js : List Wy}
theorem Jn.ext (h : Jn CF G H x1 pa1 la1 x2 pa2 la2 n m us1 us2 js lj uj) (e : Ex H H') : Jn CF G H' x1 pa1 la1 x2 pa2 la2 n m us1 us2 js lj uj := ⟨h.w.ext e, h.j, h.u⟩
theorem Jn.go (h : Jn CF G H x1 pa1 la1 x2 pa2 la2 n m us1 us2 js lj uj) (g : Gm x2 pa2 G H G' H') (hb : Em CF G' H' x2 pa2 la2 n m' us2 js) : Jn CF G' H' x1 pa1 la1 x2 pa2 la2 n m' us1 us2 js lj uj := ⟨h.w.go g hb, g.ex _ _ h.j, h.u.mono g.ex⟩
end
theorem ne_wds {K : PySem.W.Frag} {H : Hp} {a b : Addr} {us vs : List V} {ws : List Wy} {Q : VK} (ha : H a = some (.lst us)) (hus : DqA H us (ws.map wd)) (hb : H b = some (.lst vs)) (hvs : DqA H vs (ws.map wd)) (q : Q (.bl false) H) : rNeD K (.ref a) (.ref b) H Q := by
  have hl : (PyData.list (ws.map wd)).canLay0 = true := by simp [PyData.canLay0, lay_wds]
  refine ⟨.list (ws.map wd), .list (ws.map wd), Dq.dp hl (.lst ha hus), Dq.dp hl (.lst hb hvs), shaped_wds ws, shaped_wds ws, ?_⟩
  rw [eqv_wds]
  exact q
theorem ne_told {K : PySem.W.Frag} {H : Hp} {a b : Addr} {Q : VK} (ha : H a = some (.tup [.str "told", .bl true])) (hb : H b = some (.tup [.str "told", .bl true])) (q : Q (.bl false) H) : rNeD K (.ref a) (.ref b) H Q :=
  ⟨.tuple [.str "told", .bool true], .tuple [.str "told", .bool true], Dq.dp (by decide +kernel) (.tup ha (.cons (.str _) (.cons (.bl _) .nil))), Dq.dp (by decide +kernel) (.tup hb (.cons (.str _) (.cons (.bl _) .nil))), by decide +kernel, by decide +kernel, by
    rw [show PyData.eqv (.tuple [.str "told", .bool true]) (.tuple [.str "told", .bool true]) = true by decide +kernel]
    exact q⟩
theorem ne_ref {K : PySem.W.Frag} {H : Hp} {a b : Addr} {Q : VK} (ha : H a = some (.tup [.str "refused"])) (hb : H b = some (.tup [.str "refused"])) (q : Q (.bl false) H) : rNeD K (.ref a) (.ref b) H Q :=
  ⟨.tuple [.str "refused"], .tuple [.str "refused"], Dq.dp (by decide +kernel) (.tup ha (.cons (.str _) .nil)), Dq.dp (by decide +kernel) (.tup hb (.cons (.str _) .nil)), by decide +kernel, by decide +kernel, by
    rw [show PyData.eqv (.tuple [.str "refused"]) (.tuple [.str "refused"]) = true by decide +kernel]
    exact q⟩
/-- for x in a list that is made on the way -/
theorem q_forC {K : PySem.W.Frag} {tl : TE} {g : TG} {tu tz : TS} {D : Ends} {σ : L2.St} {H : Hp} (C : Addr → List V → Hp → Prop) (h : ∀ Q : VK, (∀ l xs H1, C l xs H1 → Q (.ref l) H1) → tl σ H Q)
    (hC : ∀ l xs H1, C l xs H1 → SqL K H1 l xs ∧ ∃ Pv : Nat → L2.St → Hp → Prop, Pv 0 σ H1 ∧ (∀ i σ' H', i ≤ xs.length → Pv i σ' H' → SqL K H' l xs) ∧ (∀ i x σ' H', xs[i]? = some x → Pv i σ' H' → g x σ' H' fun σ2 H2 => tu { D with nx := Pv (i + 1), ct := Pv (i + 1), bk := tz D } σ2 H2) ∧ (∀ σ' H', Pv xs.length σ' H' → tz D σ' H')) : tSeq (tFor (iList K tl) g tu) tz D σ H :=
  h _ fun l xs H1 c => by
    obtain ⟨hs, Pv, h0, hl, ht, hd⟩ := hC l xs H1 c
    exact ⟨l, rfl, ⟨xs, hs⟩, for_list Pv h0 hl ht hd⟩
section
variable {P : Program} {w : World} {K : PySem.W.Frag} {mg : Str → Option Value} {base : Heap} {f : Addr} {fd : FuncData} {CF CB : Addr}
/-! _law_let -/
structure Cl (P : Program) (w : World) (K : PySem.W.Frag) (mg : Str → Option Value) (base : Heap) (CF CB : Addr) : Prop where
  mkF : MkF P w K mg base CF CB
  pairs : Cal P w K mg base "_law_pairs" ["_law_links_here"] 1 spPairs
  over : Cal P w K mg base "_law_over" ["_law_flood", "_law_word", "_law_a", "_law_b"] 6 (spOver CF)
  emp : Cal P w K mg base "_law_empty" ["_law_flood", "_law_size", "_law_many"] 6 (spEmp CF)
  isI : Cal P w K mg base "_law_is_integer" ["_law_thing"] 1 spIsInt
  noR : CalG P w K mg base "_law_no_router" ["_law_flood", "_law_thing", "_law_book"] 6 (spNoR CF)
  rou : Msk P w K mg base CF "rounds" ["self"] 5 (spRou0 CF)
def spLet : Sp := fun vs H Q _ => ∃ (l R : Addr) (n : Nat) (us : List V) (prs : List Wy), vs = [.int (n : Int), .ref l, .ref R] ∧ H l = some (.lst us) ∧ Row H R us ∧ DqA H us (prs.map wd) ∧ (∀ w ∈ prs, PrOk n w) ∧ prs.length ≤ 22 ∧ 1 ≤ n ∧ n ≤ 8 ∧ ∀ H', Q (.bl true) H'
abbrev sLet : Stmt := top 45
abbrev nLet : List Str := ["_law_size", "_law_links_here", "_law_row", "_law_handed", "_law_flood", "_law_other", "_law_joined", "_law_many", "_law_a", "_law_b", "_law_word", "_law_due", "_law_rounds", "_law_thing"]
theorem scLet : FnScope nLet ["_law_size", "_law_links_here", "_law_row"] (defScope sLet) := ⟨rfl, rfl, rfl, by decide +kernel, rfl, by decide +kernel, by decide +kernel⟩
theorem ok_let (B : Bl mg) (X : FX K CF) (S : Cl P w K mg base CF CB) (F : FnP K "_law_let" sLet f fd) : FnG P w K mg base 9 f fd ["_law_size", "_law_links_here", "_law_row"] spLet := by
  obtain ⟨fI, fdI, mk, FI, bI⟩ := S.mkF.ex
  obtain ⟨f1, fd1, me1, F1, b1⟩ := S.rou.ex
  refine okG F scLet (fun vs H Q E h => ?_) (fun cdv A outer s H vs Q E hr hg h => ?_)
  · obtain ⟨l, R, n, us, prs, rfl, _⟩ := h
    rfl
  · obtain ⟨l, R, n, us, prs, rfl, hl, hR, hus, hok, hpl, hn1, hn8, k⟩ := h
    have r6 : Room 6 _ := hr.mono (by decide)
    have r5 : Room 5 _ := hr.mono (by decide)
    have r1 : Room 1 _ := hr.mono (by decide)
    have hu : (A.deeper (envOfC "_law_let" (defScope sLet) s.heap.objs.size f cdv)).units + 64 < cLine := by have := hr.un; omega
    have hu5 : (A.deeper (envOfC "_law_let" (defScope sLet) s.heap.objs.size f cdv)).units + 65 < cLine := by have := hr.un; omega
    refine ⟨_, pss_cons (ps_set (i := 3) scLet.nd rfl (Or.inl rfl) (pe_callTy (call_listK2 (K := K) rfl) (by rfl) B.list PyProof.Rows.boot_list (pa_cons (pv 2) pa_nil)))
      (pss_cons (ps_set (i := 4) scLet.nd rfl (Or.inl rfl) (pe_mkAt mk FI hr (by rfl) S.mkF.g bI (fun σ => passAt takes0 σ) (pa_cons (pv 0) (pa_cons (pv 2) pa_nil))))
      (pss_cons (ps_set (i := 5) scLet.nd rfl (Or.inl rfl) (pe_mkAt mk FI hr (by rfl) S.mkF.g bI (fun σ => passAt takes0 σ) (pa_cons (pv 0) (pa_cons (pv 3) pa_nil))))
      (pss_cons (ps_if (PW.pt (pw_or (pt_cmpR (op_neD hu) (pe_callTy (call_listK2 (K := K) rfl) (by rfl) B.list PyProof.Rows.boot_list (pa_cons (pv 2) pa_nil)) (pv 1) (nomark _)) (pw_or1 (pt_cmpR (op_neD hu) (pv 3) (pv 1) (nomark _))))) (pss_one (ps_ret pe_bl)) pss_nil)
      (pss_cons (ps_expr (pe_bm0 PySem.F.plainAttrs_list PySem.F.slot_list_clear PySem.F.type_list_clear mt_clear (pv 3)))
      (pss_cons (ps_set (i := 6) scLet.nd rfl (Or.inl rfl) (pe_cal S.pairs r1 (by rfl) (pa_cons (pv 1) pa_nil)))
      (pss_cons (ps_set (i := 7) scLet.nd rfl (Or.inl rfl) pe_int)
      (pss_cons (ps_for (passes_of rfl) rfl (pi_range1 (by rfl) B.range (pa_cons (pv 0) pa_nil)) (pg_name (i := 8) scLet.nd rfl (Or.inl rfl))
        (pss_one (ps_for (passes_of rfl) rfl (pi_range1 (by rfl) B.range (pa_cons (pv 0) pa_nil)) (pg_name (i := 9) scLet.nd rfl (Or.inl rfl))
          (pss_one (ps_for (passes_of rfl) rfl (pi_list (pe_lst (pa_cons pe_str (pa_cons pe_str pa_nil)))) (pg_name (i := 10) scLet.nd rfl (Or.inl rfl))
            (pss_cons (ps_set (i := 11) scLet.nd rfl (Or.inl rfl) (pe_tup (pa_cons pe_str pa_nil)))
            (pss_cons (ps_if (pt_cmpR (op_inD hu5) (pe_tup (pa_cons (pv 8) (pa_cons (pv 9) pa_nil))) (pv 6) rfl)
                (pss_cons (ps_set (i := 11) scLet.nd rfl (Or.inl rfl) (pe_tup (pa_cons pe_str (pa_cons pe_bl pa_nil)))) (pss_one (ps_set (i := 7) scLet.nd rfl (Or.inl rfl) (pe_op op_add (pv 7) pe_int)))) pss_nil)
            (pss_one (ps_if (pt_cmpR (op_neD hu) (pe_cal S.over r6 (by rfl) (pa_cons (pv 5) (pa_cons (pv 10) (pa_cons (pv 8) (pa_cons (pv 9) pa_nil))))) (pv 11) (nomark _)) (pss_one (ps_ret pe_bl)) pss_nil)))))))))
      (pss_cons (ps_if (PW.pt (pw_or (pt_not (pt_val (pe_cal S.emp r6 (by rfl) (pa_cons (pv 5) (pa_cons (pv 0) (pa_cons (pv 7) pa_nil)))))) (pw_or1 (pt_not (pt_val (pe_cal S.emp r6 (by rfl) (pa_cons (pv 4) (pa_cons (pv 0) (pa_cons pe_int pa_nil))))))))) (pss_one (ps_ret pe_bl)) pss_nil)
      (pss_cons (ps_set (i := 12) scLet.nd rfl (Or.inl rfl) (pe_meth0 (pv 4) X.cl me1 F1 r5 b1 .nil pass0))
      (pss_cons (ps_if (PW.pt (pw_or (pt_not (pt_val (pe_cal S.isI r1 (by rfl) (pa_cons (pv 12) pa_nil)))) (pw_or (pt_cmpR op_ne (pv 12) pe_int (nomark _)) (pw_or1 (pt_not (pt_val (pe_cal S.emp r6 (by rfl) (pa_cons (pv 4) (pa_cons (pv 0) (pa_cons pe_int pa_nil)))))))))) (pss_one (ps_ret pe_bl)) pss_nil)
      (pss_cons (ps_for (passes_of rfl) rfl (pi_list (pe_lst (pa_cons (pv 0) (pa_cons (pe_un un_neg pe_int) (pa_cons (pe_op op_add (pv 0) (pe_op op_pow pe_int pe_int)) (pa_cons pe_bl (pa_cons pe_bl (pa_cons pe_non (pa_cons pe_str (pa_cons (pe_tup (pa_cons pe_int pa_nil)) (pa_cons (pe_lst (pa_cons pe_int pa_nil)) (pa_cons pe_dnewK pa_nil)))))))))))) (pg_name (i := 13) scLet.nd rfl (Or.inl rfl))
        (pss_one (ps_if (PW.pt (pw_or (pt_not (pt_val (pe_calG S.noR r6 hg (by rfl) (pa_cons (pv 5) (pa_cons (pv 13) (pa_cons pe_bl pa_nil)))))) (pw_or1 (pt_not (pt_val (pe_calG S.noR r6 hg (by rfl) (pa_cons (pv 5) (pa_cons (pv 13) (pa_cons pe_bl pa_nil))))))))) (pss_one (ps_ret pe_bl)) pss_nil)))
      (pss_one (ps_ret pe_bl))))))))))))), ?_⟩
    -- the handed row
    refine ⟨.ref R, rfl, R, us, rfl, hR.imp sq_of st_of, fun L0 nL0 => ?_⟩
    refine g_name ?_
    dsimp only
    have e1 := Ex.new (o := .lst us) nL0
    have hL1 : (upd H L0 (.lst us)) L0 = some (.lst us) := upd_same
    generalize upd H L0 (.lst us) = H1 at *
    -- the first flood
    refine ⟨.int (n : Int), rfl, .ref R, rfl, fun x1 dx1 nx1 ndx1 nex1 => ?_⟩
    have e2 : Ex H1 (upd (upd H1 dx1 (.own x1)) x1 (.ins CF dx1 [])) := fun b o hb => by
      rw [upd_ne (ne_of_none hb nx1), upd_ne (ne_of_none hb ndx1)]
      exact hb
    have hx2 : (upd (upd H1 dx1 (.own x1)) x1 (.ins CF dx1 [])) x1 = some (.ins CF dx1 []) := upd_same
    refine ⟨H, x1, dx1, _, _, rfl, hx2, e1.trans e2, fresh_back e1 nx1, .inl ⟨R, n, us, prs, rfl, rfl, hR.mono (e1.trans e2), hus, hok, hpl, hn1, hn8, fun G1 H3 pa1 la1 us1 eG1 eGH1 o1 nw1 npa1 hF1 hla1 hus1 => ⟨rfl, ?_⟩⟩⟩
    have hL2 := e2 _ _ hL1
    generalize upd (upd H1 dx1 (.own x1)) x1 (.ins CF dx1 []) = H2 at *
    have lx1 : L0 ≠ x1 := ne_of_none hL1 nx1
    have lp1 : L0 ≠ pa1 := ne_of_none hL2 npa1
    have hL3 := o1 _ _ lx1 hL2
    have gL1 : G1 L0 = none := nw1 _ _ nL0 hL2 fun _ z => by cases z
    refine g_name ?_
    dsimp only
    change tSeq _ _ _ [some (V.int (n : Int)), some (.ref l), some (.ref R), some (.ref L0), some (.ref x1), none, none, none, none, none, none, none, none, none] H3
    -- the second flood
    refine ⟨.int (n : Int), rfl, .ref L0, rfl, fun x2 dx2 nx2 ndx2 nex2 => ?_⟩
    have e4 : Ex H3 (upd (upd H3 dx2 (.own x2)) x2 (.ins CF dx2 [])) := fun b o hb => by
      rw [upd_ne (ne_of_none hb nx2), upd_ne (ne_of_none hb ndx2)]
      exact hb
    have hx4 : (upd (upd H3 dx2 (.own x2)) x2 (.ins CF dx2 [])) x2 = some (.ins CF dx2 []) := upd_same
    have hL4 := e4 _ _ hL3
    refine ⟨G1, x2, dx2, _, _, rfl, hx4, eGH1.trans e4, fresh_back eGH1 nx2, .inl ⟨L0, n, us, prs, rfl, rfl, .inl hL4, hus.mono eG1, hok, hpl, hn1, hn8, fun G2 H5 pa2 la2 us2 eG2 eGH2 o2 nw2 npa2 hF2 hla2 hus2 => ⟨rfl, ?_⟩⟩⟩
    obtain ⟨da, fa, sa, xa1, xa2, xa3⟩ := hF1.ob
    obtain ⟨ua, pa1h, ua2⟩ := hF1.ps
    have xa4 := e4 _ _ xa1
    have pa4 := e4 _ _ pa1h
    generalize upd (upd H3 dx2 (.own x2)) x2 (.ins CF dx2 []) = H4 at *
    have lx2 : L0 ≠ x2 := ne_of_none hL3 nx2
    have lp2 : L0 ≠ pa2 := ne_of_none hL4 npa2
    have hL5 := o2 _ _ lx2 hL4
    have gL2 : G2 L0 = none := nw2 _ _ gL1 hL4 fun _ z => by cases z
    have d1 : x1 ≠ x2 := ne_of_none xa1 nx2
    have d2 : x1 ≠ pa2 := ne_of_none xa4 npa2
    have d3 : pa1 ≠ x2 := ne_of_none pa1h nx2
    have d4 : pa1 ≠ pa2 := ne_of_none pa4 npa2
    have hjs := join_ok hn8 hok
    have hjl : (joinW prs).length ≤ 64 := asc_len (prs ++ prs.map swW)
    have W5 : Tw CF G2 H5 x1 pa1 la1 x2 pa2 la2 n 0 us1 us2 (joinW prs) :=
      ⟨eGH2, ⟨hF1.keep eG2 (nw2 _ _ hF1.gx xa4 fun _ z => by cases z) (nw2 _ _ hF1.gp pa4 fun _ z => by cases z) (fun u hu => o2 _ _ d1 (e4 _ _ hu)) (fun u hu => o2 _ _ d3 (e4 _ _ hu)), hn8, eG2 _ _ hla1, hus1.mono eG2, hjs, hjl⟩, ⟨hF2, hn8, hla2, hus2, hjs, hjl⟩, d1, d2, d3, d4⟩
    have hl2 := eG2 _ _ (eG1 _ _ hl)
    have hR2 := (hR.mono eG1).mono eG2
    have hu2 := (hus.mono eG1).mono eG2
    clear o1 o2 nw1 nw2 hF1 hF2 xa1 xa2 xa3 pa1h ua2 xa4 pa4 e4 hx4 nx2 ndx2 nex2 nx1 ndx1 nex1 e2 hx2 hL1 hL2 hL3 hL4 npa1 npa2 eGH1 hla1 hus1 hla2 hus2
    refine g_name ?_
    dsimp only
    change tSeq _ _ _ [some (V.int (n : Int)), some (.ref l), some (.ref R), some (.ref L0), some (.ref x1), some (.ref x2), none, none, none, none, none, none, none, none] H5
    -- the row is as it was
    have c1 : EvT (tTest (tOp (rNeD K) (tCB (fun xs H Q => ∃ p ys, xs = [V.ref p] ∧ (SqL K H p ys ∨ SqT K H p ys) ∧ ∀ l, H l = none → Q (.ref l) (upd H l (.lst ys))) (tCons (tVar 2) tNil)) (tVar 1))) [some (V.int (n : Int)), some (.ref l), some (.ref R), some (.ref L0), some (.ref x1), some (.ref x2), none, none, none, none, none, none, none, none] H5 false :=
      et_test fun H6 e6 Q6 q => ⟨.ref R, rfl, R, us, rfl, ((hR2.mono eGH2).mono e6).imp sq_of st_of, fun L nL => ⟨.ref l, rfl, ne_wds (ws := prs) upd_same (((hu2.mono eGH2).mono e6).mono (Ex.new nL)) (Ex.new nL _ _ (e6 _ _ (eGH2 _ _ hl2))) (((hu2.mono eGH2).mono e6).mono (Ex.new nL)) (q _ (Ex.new nL))⟩⟩
    have c2 : EvT (tTest (tOp (rNeD K) (tVar 3) (tVar 1))) [some (V.int (n : Int)), some (.ref l), some (.ref R), some (.ref L0), some (.ref x1), some (.ref x2), none, none, none, none, none, none, none, none] H5 false :=
      et_test fun H6 e6 Q6 q => ⟨.ref L0, rfl, .ref l, rfl, ne_wds (ws := prs) (e6 _ _ hL5) ((hu2.mono eGH2).mono e6) (e6 _ _ (eGH2 _ _ hl2)) ((hu2.mono eGH2).mono e6) (q H6 (Ex.refl _))⟩
    refine q_when (b := false || false) (et_or c1 fun _ => c2) (fun z => by cases z) fun _ H6 e6 => ?_
    clear c1 c2
    have W6 := W5.ext e6
    have hL6 := e6 _ _ hL5
    refine ⟨.ref L0, rfl, Or.inl ⟨rfl, us, sq_of hL6⟩, L0, us, rfl, rfl, hL6, ?_⟩
    have W7 := W6.mut (.lst []) gL2 lx1 lp1 lx2 lp2
    generalize upd H6 L0 (.lst []) = H7 at *
    clear W5 W6 hL5 hL6 e6 gL2 gL1
    have hprs8 : ∀ w ∈ prs, PrOk 8 w := fun w hw => by
      obtain ⟨u, v, e, h1, h2, h3⟩ := hok w hw
      exact ⟨u, v, e, by omega, by omega, h3⟩
    refine ⟨.ref l, rfl, l, us, prs, rfl, W7.ex _ _ hl2, hu2.mono W7.ex, hprs8, hpl, fun H8 lj uj e8 nlj hlj huj => ?_⟩
    refine g_name ?_
    dsimp only
    change tSeq _ _ _ [some (V.int (n : Int)), some (.ref l), some (.ref R), some (.ref L0), some (.ref x1), some (.ref x2), some (.ref lj), none, none, none, none, none, none, none] H8
    have W8 := W7.more e8
    have glj : NewK G2 H7 H8 lj = some (.lst uj) := by rw [newK_new nlj]; exact hlj
    have J8 : Jn CF (NewK G2 H7 H8) H8 x1 pa1 la1 x2 pa2 la2 n 0 us1 us2 (joinW prs) lj uj := ⟨W8, glj, newK_wds e8 huj⟩
    clear hlj huj glj W8 W7
    generalize NewK G2 H7 H8 = G8 at *
    refine q_asg (v := .int 0) ev_c fun H9 e9 => ?_
    have J9 := J8.ext e9
    change tSeq _ _ _ [some (V.int (n : Int)), some (.ref l), some (.ref R), some (.ref L0), some (.ref x1), some (.ref x2), some (.ref lj), some (.int 0), none, none, none, none, none, none] H9
    refine q_forR1 (ea_cons (ev_var rfl) ea_nil) (n := (n : Int)) (by omega) (fun i σ' H' => ∃ (m : Nat) (G' : Hp) (o8 o9 o10 o11 : Option V), σ' = [some (V.int (n : Int)), some (.ref l), some (.ref R), some (.ref L0), some (.ref x1), some (.ref x2), some (.ref lj), some (.int (m : Int)), o8, o9, o10, o11, none, none] ∧ m ≤ 16 * i ∧ Jn CF G' H' x1 pa1 la1 x2 pa2 la2 n m us1 us2 (joinW prs) lj uj) (fun H10 e10 => ⟨0, G8, none, none, none, none, rfl, by omega, J9.ext e10⟩) ?_ ?_
    · rintro i σ' H10 hi ⟨m, G10, o8, o9, o10, o11, rfl, hm, J10⟩
      have hin : i < n := by omega
      change tFor _ _ _ _ [some (V.int (n : Int)), some (.ref l), some (.ref R), some (.ref L0), some (.ref x1), some (.ref x2), some (.ref lj), some (.int (m : Int)), some (.int (i : Int)), o9, o10, o11, none, none] H10
      refine s_forR1 (ea_cons (ev_var rfl) ea_nil) (n := (n : Int)) (by omega) (fun j σ' H' => ∃ (m : Nat) (G' : Hp) (o9 o10 o11 : Option V), σ' = [some (V.int (n : Int)), some (.ref l), some (.ref R), some (.ref L0), some (.ref x1), some (.ref x2), some (.ref lj), some (.int (m : Int)), some (.int (i : Int)), o9, o10, o11, none, none] ∧ m ≤ 16 * i + 2 * j ∧ Jn CF G' H' x1 pa1 la1 x2 pa2 la2 n m us1 us2 (joinW prs) lj uj) (fun H11 e11 => ⟨m, G10, o9, o10, o11, rfl, by omega, J10.ext e11⟩) ?_ (fun σ' H' ⟨m, G', o9, o10, o11, e, hm, hJ⟩ => ⟨m, G', _, o9, o10, o11, e, by omega, hJ⟩)
      rintro j σ' H11 hj ⟨m, G11, o9, o10, o11, rfl, hm, J11⟩
      have hjn : j < n := by omega
      change tFor _ _ _ _ [some (V.int (n : Int)), some (.ref l), some (.ref R), some (.ref L0), some (.ref x1), some (.ref x2), some (.ref lj), some (.int (m : Int)), some (.int (i : Int)), some (.int (j : Int)), o10, o11, none, none] H11
      clear J8 J9 J10 e8 e9
      refine s_forNL (K := K) (el_lst (vs := [.str "pass", .str "lose"]) (ea_cons ev_c (ea_cons ev_c ea_nil)) (by decide)) (fun p kk σ' H' => ∃ (m : Nat) (G' : Hp) (o10 o11 : Option V), σ' = [some (V.int (n : Int)), some (.ref l), some (.ref R), some (.ref L0), some (.ref x1), some (.ref x2), some (.ref lj), some (.int (m : Int)), some (.int (i : Int)), some (.int (j : Int)), o10, o11, none, none] ∧ m ≤ 16 * i + 2 * j + kk ∧ H' p = some (.lst [.str "pass", .str "lose"]) ∧ p ≠ x2 ∧ p ≠ pa2 ∧ Jn CF G' H' x1 pa1 la1 x2 pa2 la2 n m us1 us2 (joinW prs) lj uj) (fun p H12 np e12 hp => ?_) (fun p kk σ' H' _ h => ?_) ?_ (fun p σ' H' ⟨m, G', o10, o11, e, hm, _, _, _, hJ⟩ => ⟨m, G', _, o10, o11, e, (by simp at hm; omega), hJ⟩)
      · obtain ⟨⟨dx, fs, h1⟩, ps, h2⟩ := J11.w.b.at_
        exact ⟨m, G11, o10, o11, rfl, by omega, hp, Ne.symm (ne_of_none h1 np), Ne.symm (ne_of_none h2 np), J11.ext e12⟩
      · obtain ⟨_, _, _, _, _, _, h, _⟩ := h
        exact sq_of h
      rintro p kk x σ' H12 hx ⟨m, G12, o10, o11, rfl, hm, hp, hpx, hpp, J12⟩
      obtain ⟨wd', rfl, hw⟩ : ∃ wd' : Str, x = .str wd' ∧ (wd' = "pass" ∨ wd' = "lose") := by
        match kk, hx with
        | 0, hx => exact ⟨"pass", (Option.some.inj hx).symm, .inl rfl⟩
        | 1, hx => exact ⟨"lose", (Option.some.inj hx).symm, .inr rfl⟩
      have hkk : kk < 2 := (List.getElem?_eq_some_iff.mp hx).1
      clear hx
      refine g_name ?_
      change tSeq _ _ _ [some (V.int (n : Int)), some (.ref l), some (.ref R), some (.ref L0), some (.ref x1), some (.ref x2), some (.ref lj), some (.int (m : Int)), some (.int (i : Int)), some (.int (j : Int)), some (.str wd'), o11, none, none] H12
      refine q_asgU (xs := [.str "refused"]) (eu_tup (ea_cons ev_c ea_nil) (by decide)) fun t1 H13 nt1 e13 ht1 => ?_
      change tSeq _ _ _ [some (V.int (n : Int)), some (.ref l), some (.ref R), some (.ref L0), some (.ref x1), some (.ref x2), some (.ref lj), some (.int (m : Int)), some (.int (i : Int)), some (.int (j : Int)), some (.str wd'), some (.ref t1), none, none] H13
      have J13 := J12.ext e13
      have lim : m < 10000 := by omega
      refine q_when (b := decide ([(i : Int), (j : Int)] ∈ joinW prs)) (et_test (ev_inDw (x := [(i : Int), (j : Int)]) (es_tup (ea_cons (ev_var rfl) (ea_cons (ev_var rfl) ea_nil)) (by show 2 ≤ 100000; decide)) (ev_var rfl) (J13.w.ex _ _ J13.j) (J13.u.mono J13.w.ex))) (fun hb H14 e14 => ?_) (fun hb H14 e14 => ?_)
      · have hb := of_decide_eq_true hb
        refine q_asgU (xs := [.str "told", .bl true]) (eu_tup (ea_cons ev_c (ea_cons ev_c ea_nil)) (by decide)) fun t2 H15 nt2 e15 ht2 => ?_
        refine s_asg (v := .int ((m + 1 : Nat) : Int)) (ev_op (x := .int (m : Int)) (y := .int 1) (r := rI0 fun i j => .int (i + j)) (ev_var rfl) ev_c rv_I0) fun H16 e16 => ?_
        have J16 := ((J13.ext e14).ext e15).ext e16
        have ht16 := e16 _ _ ht2
        have hp16 := e16 _ _ (e15 _ _ (e14 _ _ (e13 _ _ hp)))
        dsimp only
        change tIfS _ _ _ _ [some (V.int (n : Int)), some (.ref l), some (.ref R), some (.ref L0), some (.ref x1), some (.ref x2), some (.ref lj), some (.int ((m + 1 : Nat) : Int)), some (.int (i : Int)), some (.int (j : Int)), some (.str wd'), some (.ref t2), none, none] H16
        obtain ⟨⟨dx, fs, z1⟩, ps, z2⟩ := J16.w.b.at_
        have tx : t2 ≠ x2 := fun z => by rw [z, z1] at ht16; cases ht16
        have tp : t2 ≠ pa2 := fun z => by rw [z, z2] at ht16; cases ht16
        refine ⟨.ref x2, rfl, .str wd', rfl, .int (i : Int), rfl, .int (j : Int), rfl, G12, x2, pa2, la2, n, m, us2, joinW prs, wd', i, j, rfl, J16.w.ex, J16.w.b, lim, hw, hin, hjn, .inl ⟨hb, fun G17 H17 t gm hE ht => ⟨.ref t2, rfl, ne_told ht (gm.off _ _ tx tp ht16) ⟨false, rfl, ?_⟩⟩⟩⟩
        refine ite2 (fun z => absurd z (by decide)) (fun _ => ⟨m + 1, G17, _, _, rfl, by omega, gm.off _ _ hpx hpp hp16, hpx, hpp, J16.go gm hE⟩)
      · have hb := of_decide_eq_false hb
        have J16 := J13.ext e14
        have ht16 := e14 _ _ ht1
        have hp16 := e14 _ _ (e13 _ _ hp)
        refine ⟨.ref x2, rfl, .str wd', rfl, .int (i : Int), rfl, .int (j : Int), rfl, G12, x2, pa2, la2, n, m, us2, joinW prs, wd', i, j, rfl, J16.w.ex, J16.w.b, lim, hw, hin, hjn, .inr ⟨hb, fun H17 t e17 ht => ⟨.ref t1, rfl, ne_ref ht (e17 _ _ ht16) ⟨false, rfl, ?_⟩⟩⟩⟩
        refine ite2 (fun z => absurd z (by decide)) (fun _ => ⟨m, G12, _, _, rfl, by omega, e17 _ _ hp16, hpx, hpp, J16.ext e17⟩)
    rintro σ' H10 ⟨m, G10, o8, o9, o10, o11, rfl, hm, J10⟩
    clear J8 J9 e8 e9
    have em2 : ∀ {σ : L2.St} {H' : Hp}, Ex H10 H' → σ[5]? = some (some (.ref x2)) → σ[0]? = some (some (.int (n : Int))) → σ[7]? = some (some (.int (m : Int))) → Ev (tCall (spEmp CF) [] E0 (tCons (tVar 5) (tCons (tVar 0) (tCons (tVar 7) tNil)))) σ H' (.bl true) := fun e h1 h2 h3 =>
      ev_call (ea_cons (ev_var h1) (ea_cons (ev_var h2) (ea_cons (ev_var h3) ea_nil))) fun H2 e2 Q2 q2 E2 => ⟨G10, x2, pa2, la2, n, m, us2, joinW prs, rfl, (J10.w.ex.trans e).trans e2, (J10.w.b.ext e).ext e2, q2⟩
    have em1 : ∀ {σ : L2.St} {H' : Hp}, Ex H10 H' → σ[4]? = some (some (.ref x1)) → σ[0]? = some (some (.int (n : Int))) → Ev (tCall (spEmp CF) [] E0 (tCons (tVar 4) (tCons (tVar 0) (tCons (tC (.int 0)) tNil)))) σ H' (.bl true) := fun e h1 h2 =>
      ev_call (ea_cons (ev_var h1) (ea_cons (ev_var h2) (ea_cons ev_c ea_nil))) fun H2 e2 Q2 q2 E2 => ⟨G10, x1, pa1, la1, n, 0, us1, joinW prs, rfl, (J10.w.ex.trans e).trans e2, (J10.w.a.ext e).ext e2, q2⟩
    refine q_when (b := !true || !true) (et_or (et_not (et_B (em2 (Ex.refl _) rfl rfl rfl))) fun _ => et_not (et_B (em1 (Ex.refl _) rfl rfl))) (fun z => by cases z) fun _ H11 e11 => ?_
    have J11 := J10.ext e11
    obtain ⟨dx, fs, st, hx, ff, _⟩ := J11.w.a.f.ob
    refine q_asg (v := .int 0) (fun H2 e2 Q2 q => ⟨.ref x1, rfl, x1, dx, fs, rfl, e2 _ _ hx, ff.n6, G10, x1, pa1, la1, n, 0, us1, joinW prs, rfl, J11.w.ex.trans e2, J11.w.a.ext e2, fun H4 e4 => q H4 e4⟩) fun H12 e12 => ?_
    change tSeq _ _ _ [some (V.int (n : Int)), some (.ref l), some (.ref R), some (.ref L0), some (.ref x1), some (.ref x2), some (.ref lj), some (.int (m : Int)), o8, o9, o10, o11, some (.int 0), none] H12
    have c1 : Ev (tCall spIsInt [] E0 (tCons (tVar 12) tNil)) [some (V.int (n : Int)), some (.ref l), some (.ref R), some (.ref L0), some (.ref x1), some (.ref x2), some (.ref lj), some (.int (m : Int)), o8, o9, o10, o11, some (.int 0), none] H12 (.bl true) := ev_call (ea_cons (ev_var (v := .int 0) rfl) ea_nil) (spP_v fun H2 e => ⟨_, .int 0, rfl, .int _, rfl⟩)
    have c2 : EvT (tTest (tOp rNe (tVar 12) (tC (.int 0)))) [some (V.int (n : Int)), some (.ref l), some (.ref R), some (.ref L0), some (.ref x1), some (.ref x2), some (.ref lj), some (.int (m : Int)), o8, o9, o10, o11, some (.int 0), none] H12 false := et_test (ev_is (ev_op (r := rNe) (ev_var (v := .int 0) rfl) (ev_c (v := .int 0)) (rv_ne rfl)) rfl)
    refine q_when (b := !true || (false || !true)) (et_or (et_not (et_B c1)) fun _ => et_or c2 fun _ => et_not (et_B (em1 (e11.trans e12) rfl rfl))) (fun z => by cases z) fun _ H13 e13 => ?_
    have J13 := (J11.ext e12).ext e13
    clear c1 c2 em1 em2 J10 J11 hx
    refine q_forC (K := K) (fun L xs H' => Ex H13 H' ∧ H' L = some (.lst xs) ∧ DqA H' xs (things n)) (fun Q2 kk => ?_) ?_
    · refine ⟨.int (n : Int), rfl, 1, rfl, .int (n : Int), rfl, 10, 20, rfl, rfl, ⟨by decide, by decide, by decide⟩, (n : Int), (10 : Int) ^ (20 : Int).toNat, rfl, rfl, by show 1 ≤ sizeLine; decide, fun t nt => ?_⟩
      have et := Ex.new (o := .tup [V.int 0]) nt
      have ht : (upd H13 t (.tup [V.int 0])) t = some (.tup [V.int 0]) := upd_same
      generalize upd H13 t (.tup [V.int 0]) = H14 at *
      refine ⟨by show 1 ≤ sizeLine; decide, fun u nu => ?_⟩
      have eu := Ex.new (o := .lst [V.int 0]) nu
      have hu' : (upd H14 u (.lst [V.int 0])) u = some (.lst [V.int 0]) := upd_same
      have ht' := eu _ _ ht
      generalize upd H14 u (.lst [V.int 0]) = H15 at *
      intro D nD
      have eD := Ex.new (o := .dK []) nD
      have hD : (upd H15 D (.dK [])) D = some (.dK []) := upd_same
      have hu2 := eD _ _ hu'
      have ht2 := eD _ _ ht'
      generalize upd H15 D (.dK []) = H16 at *
      refine ⟨by show 10 ≤ sizeLine; decide, fun L nL => ?_⟩
      have eL := Ex.new (o := .lst [V.int (n : Int), .int (-1), .int ((n : Int) + (10 : Int) ^ (20 : Int).toNat), .bl true, .bl false, .non, .str "0", .ref t, .ref u, .ref D]) nL
      exact kk L _ _ ⟨((et.trans eu).trans eD).trans eL, upd_same, .cons (.int _) (.cons (.int _) (.cons (.int _) (.cons (.bl _) (.cons (.bl _) (.cons .non (.cons (.str _) (.cons (.tup (eL _ _ ht2) (.cons (.int _) .nil)) (.cons (.lst (eL _ _ hu2) (.cons (.int _) .nil)) (.cons (.dic (eL _ _ hD)) .nil)))))))))⟩
    rintro L ys H14 ⟨e14, hL, hys⟩
    have J14 := J13.ext e14
    refine ⟨sq_of hL, fun i σ' H' => Ex H14 H' ∧ ∃ o, σ' = [some (V.int (n : Int)), some (.ref l), some (.ref R), some (.ref L0), some (.ref x1), some (.ref x2), some (.ref lj), some (.int (m : Int)), o8, o9, o10, o11, some (.int 0), o], ⟨Ex.refl _, _, rfl⟩, (fun i σ' H' _ h => sq_of (h.1 _ _ hL)), ?_, ?_⟩
    · rintro i y σ' H15 hy ⟨e15, o, rfl⟩
      obtain ⟨dy, edy, hdy⟩ := hys.get hy
      have hth := things_no hn1 hn8 dy (List.mem_of_getElem? edy)
      have hdy := hdy.mono e15
      have J15 := J14.ext e15
      refine g_name ?_
      change tIfS _ _ _ _ [some (V.int (n : Int)), some (.ref l), some (.ref R), some (.ref L0), some (.ref x1), some (.ref x2), some (.ref lj), some (.int (m : Int)), o8, o9, o10, o11, some (.int 0), some y] H15
      have nr : ∀ bb : Bool, Ev (tCall (spNoR CF) [] E0 (tCons (tVar 5) (tCons (tVar 13) (tCons (tC (.bl bb)) tNil)))) [some (V.int (n : Int)), some (.ref l), some (.ref R), some (.ref L0), some (.ref x1), some (.ref x2), some (.ref lj), some (.int (m : Int)), o8, o9, o10, o11, some (.int 0), some y] H15 (.bl true) := fun bb =>
        ev_call (ea_cons (x := .ref x2) (ev_var rfl) (ea_cons (x := y) (ev_var rfl) (ea_cons ev_c ea_nil))) fun H16 e16 Q2 q2 E2 => ⟨G10, x2, pa2, la2, y, n, m, B0, C0, dy, bb, rfl, J15.w.ex.trans e16, (J15.w.b.ext e16).f, hn8, hdy.mono e16, hth.1, hth.shw (hdy.mono e16), q2⟩
      refine s_when (b := !true || !true) (et_or (et_not (et_B (nr true))) fun _ => et_not (et_B (nr false))) (fun z => by cases z) fun _ H16 e16 => ⟨e15.trans e16, _, rfl⟩
    · rintro σ' H15 ⟨e15, o, rfl⟩
      exact k H15
end
end Wk

set_option Elab.async false
set_option linter.all false
set_option maxRecDepth 100000
set_option maxHeartbeats 4000000
namespace Wk
open PySem PySem.Spec PyProof.Rows L2 Evl
section
variable {P : Program} {w : World} {K : PySem.W.Frag} {mg : Str → Option Value} {base : Heap} {f : Addr} {fd : FuncData}
/-! _law_links -/
def spLinksN : Sp := fun vs H Q _ => ∃ (G : Hp) (p q : Addr) (n : Nat), vs = [.ref p, .int (n : Int)] ∧ Pm G H p q ∧ 1 ≤ n ∧ n ≤ 8 ∧
  ∀ G' H' (l : Addr) (us : List V) (prs : List Wy), Ex G G' → Pm G' H' p q → G l = none → l ≠ p → G' l = some (.lst us) → DqA G' us (prs.map wd) → (∀ w ∈ prs, PrOk n w) → prs.length ≤ 22 → Q (.ref l) H'
theorem ok_linksN (B : Bl mg) (C : Cal P w K mg base "_law_draw" ["_law_pool_here", "_law_limit"] 2 spDraw) (C2 : Cal P w K mg base "_law_shuffled" ["_law_pool_here", "_law_items"] 3 spShuf) (F : FnP K "_law_links" sLinks f fd) : FnOk P w K mg base CX0 4 f fd ["_law_pool_here", "_law_size"] spLinksN := by
  refine F.ok scLinks (fun vs H Q E h => ?_) (fun cdv A outer s H vs Q E hr h => ?_)
  · obtain ⟨G, p, q, n, rfl, _⟩ := h
    rfl
  · obtain ⟨G, p, q, n, rfl, hP, hn1, hn8, k⟩ := h
    refine ⟨_, pss_cons (ps_set (i := 2) scLinks.nd rfl (Or.inl rfl) (pe_cal C2 hr (by rfl) (pa_cons (pv 0) (pa_cons (pe_listRg rfl (by rfl) B.list (prg_1 (by rfl) B.range (pv 1))) pa_nil))))
      (pss_cons (ps_set (i := 3) scLinks.nd rfl (Or.inl rfl) (pe_cal C hr (by rfl) (pa_cons (pv 0) (pa_cons pe_int pa_nil))))
      (pss_cons (ps_set (i := 4) scLinks.nd rfl (Or.inl rfl) (pe_lst pa_nil))
      (pss_cut (ps_for (passes_of rfl) rfl (pi_range1 (by rfl) B.range (pa_cons (pe_op op_sub (pv 1) pe_int) pa_nil)) (pg_name (i := 5) scLinks.nd rfl (Or.inl rfl))
        (pss_one (ps_if (pt_cmpR op_ne (pv 3) pe_int (nomark _)) (pss_one (ps_expr (pe_bm PySem.F.plainAttrs_list PySem.F.slot_list_append PySem.F.type_list_append mt_append (pv 4) (pa_cons
          (pe_tup (pa_cons (pe_ix ix_list (pv 2) (pv 5) (fun _ _ => rfl)) (pa_cons (pe_ix ix_list (pv 2) (pe_op op_add (pv 5) pe_int) (fun _ _ => rfl)) pa_nil))) pa_nil)))) pss_nil)))
      (pss_cut (ps_for (passes_of rfl) rfl (pi_range1 (by rfl) B.range (pa_cons (pe_cal C hr (by rfl) (pa_cons (pv 0) (pa_cons (pe_op op_mul pe_int (pv 1)) pa_nil))) pa_nil)) (pg_name (i := 5) scLinks.nd rfl (Or.inl rfl))
        (pss_one (ps_if (PW.pt (pw_and (pt_cmpR op_gt (pv 1) pe_int (nomark _)) (pw_and1 (pt_cmpR op_ne (pv 3) pe_int (nomark _)))))
          (pss_cons (ps_set (i := 6) scLinks.nd rfl (Or.inl rfl) (pe_cal C hr (by rfl) (pa_cons (pv 0) (pa_cons (pv 1) pa_nil))))
          (pss_cons (ps_set (i := 7) scLinks.nd rfl (Or.inl rfl) (pe_op op_mod (pe_callTy call_int1 (by rfl) B.int PyProof.Rows.boot_int (pa_cons (pe_op op_add (pe_op op_add (pv 6) pe_int) (pe_cal C hr (by rfl) (pa_cons (pv 0) (pa_cons (pe_op op_sub (pv 1) pe_int) pa_nil)))) pa_nil)) (pv 1)))
          (pss_one (ps_expr (pe_bm PySem.F.plainAttrs_list PySem.F.slot_list_append PySem.F.type_list_append mt_append (pv 4) (pa_cons (pe_tup (pa_cons (pv 6) (pa_cons (pv 7) pa_nil))) pa_nil)))))) pss_nil)))
      (pss_one (ps_ret (pe_cal C2 hr (by rfl) (pa_cons (pv 0) (pa_cons (pv 4) pa_nil))))))))), ?_⟩
    refine ⟨.ref p, rfl, .int (n : Int), rfl, (n : Int), rfl, RgOk.of_le (by decide) (by omega) (by decide) (by omega), fun a0 ha0 => ?_⟩
    have e0 : rgV 0 (n : Int) = ((List.range n).map fun (i : Nat) => (i : Int)).map V.int := by
      unfold rgV
      rw [show ((n : Int) - 0).toNat = n by omega, List.map_map]
      refine List.map_congr_left fun i _ => ?_
      show V.int ((0 : Int) + (i : Int)) = V.int (i : Int)
      rw [Int.zero_add]
    have ga0 := fresh_back hP.ex ha0
    have hP0 := hP.new (o := .lst (rgV 0 (n : Int))) ha0
    refine ⟨_, p, q, a0, _, rfl, hP0, upd_same, by rw [e0]; simp; omega, fun H1 l ys hP1 hl0 nlp hl hpm => ?_⟩
    rw [e0] at hpm
    obtain ⟨os, hos, rfl⟩ := perm_ints hpm
    have gl := fresh_back hP0.ex hl0
    have hol : os.length = n := by rw [hos.length_eq]; simp
    have hrg : ∀ x ∈ os, 0 ≤ x ∧ x < (n : Int) := fun x hx => by
      obtain ⟨i, hi, rfl⟩ := List.mem_map.mp (hos.mem_iff.mp hx)
      have := List.mem_range.mp hi
      omega
    have hnd : os.Nodup := hos.nodup_iff.mpr (by
      rw [List.nodup_iff_pairwise_ne, List.pairwise_map]
      exact List.Pairwise.imp (fun h => by omega) List.pairwise_lt_range)
    have eG0 : Ex G (upd G a0 (.lst (rgV 0 (n : Int)))) := Ex.new ga0
    have hP2 := hP1.hold hl nlp gl
    have eG1 : Ex (upd G a0 (.lst (rgV 0 (n : Int)))) (upd (upd G a0 (.lst (rgV 0 (n : Int)))) l (.lst (os.map V.int))) := Ex.new gl
    have hGl : (upd (upd G a0 (.lst (rgV 0 (n : Int)))) l (.lst (os.map V.int))) l = some (.lst (os.map V.int)) := upd_same
    have eG := eG0.trans eG1
    generalize upd (upd G a0 (.lst (rgV 0 (n : Int)))) l (.lst (os.map V.int)) = G1 at *
    clear eG0 eG1 hP1 hP0
    refine g_name ?_
    refine ⟨.ref p, rfl, ⟨_, p, q, _, rfl, hP2.hd, by decide, by decide, fun H2 kd hP30 hk0 hk1 => ?_⟩⟩
    have hP3 := hP2.back hP30
    have hO2 := hP30.off
    refine g_name ?_
    refine ⟨by show 0 ≤ sizeLine; decide, fun D hD => ?_⟩
    have gD := fresh_back hP3.ex hD
    have nD := hP3.np hD
    have hW0 : LsW n G1 (upd H2 D (.lst [])) p q D [] [] := ⟨hP3.ext (Ex.new hD), upd_same, gD, nD, .nil, fun w hw => by cases hw⟩
    refine g_name ?_
    dsimp only
    generalize upd H2 D (.lst []) = H3 at *
    refine q_cut (M := fun σ' H' => ∃ (G' : Hp) (us : List V) (prs : List Wy) (o5 : Option V), σ' = [some (.ref p), some (.int (n : Int)), some (.ref l), some (.int kd), some (.ref D), o5, none, none] ∧ Ex G1 G' ∧ LsW n G' H' p q D us prs ∧ prs.length ≤ 7) ?_ ?_
    · change tFor _ _ _ _ [some (.ref p), some (.int (n : Int)), some (.ref l), some (.int kd), some (.ref D), none, none, none] H3
      refine s_forR1 (ea_cons (ev_op (ev_var rfl) ev_c rv_I0) ea_nil) (n := (n : Int) - 1) (by omega) (fun i σ' H' => ∃ (G' : Hp) (us : List V) (prs : List Wy) (o5 : Option V), σ' = [some (.ref p), some (.int (n : Int)), some (.ref l), some (.int kd), some (.ref D), o5, none, none] ∧ Ex G1 G' ∧ LsW n G' H' p q D us prs ∧ prs.length ≤ i) (fun H4 e4 => ⟨G1, [], [], none, rfl, Ex.refl _, hW0.ext e4, Nat.zero_le _⟩) ?_ (fun σ' H' ⟨G', us, prs, o5, h1, h2, h3, h4⟩ => ⟨G', us, prs, o5, h1, h2, h3, by omega⟩)
      rintro i σ' H4 hi ⟨G', us, prs, o5, rfl, eG', hW, hl4⟩
      change tIfS _ _ _ _ [some (.ref p), some (.int (n : Int)), some (.ref l), some (.int kd), some (.ref D), some (.int (i : Int)), none, none] H4
      refine s_when (b := !decide (V.int kd = V.int 1)) (et_test (ev_op (ev_var rfl) ev_c (rv_ne rfl))) (fun _ H5 e5 => ?_) (fun _ H5 e5 => ⟨G', us, prs, _, rfl, eG', hW.ext e5, by omega⟩)
      have hW5 := hW.ext e5
      have hL : H5 l = some (.lst (os.map V.int)) := hW5.pm.ex _ _ (eG' _ _ hGl)
      have hi1 : i < os.length := by omega
      have hi2 : i + 1 < os.length := by omega
      have at1 := at_ints hi1
      have at2 := at_ints hi2
      rw [show ((i + 1 : Nat) : Int) = (i : Int) + 1 by omega] at at2
      have r1 := hrg os[i] (List.getElem_mem hi1)
      have r2 := hrg os[i + 1] (List.getElem_mem hi2)
      have rn : os[i] ≠ os[i + 1] := (List.pairwise_iff_getElem.mp hnd) i (i + 1) hi1 hi2 (by omega)
      generalize os[i] = x1 at *
      generalize os[i + 1] = x2 at *
      have hul := hW5.dq.length
      rw [List.length_map] at hul
      refine ⟨.ref D, rfl, .inl ⟨rfl, _, sq_of hW5.at_⟩, .ref l, rfl, .int (i : Int), rfl, l, _, (i : Int), .int x1, rfl, rfl, sq_of hL, at1, .ref l, rfl, .int (i : Int), rfl, (i : Int), 1, rfl, rfl, l, _, (i : Int) + 1, .int x2, rfl, rfl, sq_of hL, at2, by show 2 ≤ sizeLine; decide, fun t ht => ?_⟩
      obtain ⟨eg, hW6⟩ := hW5.put ht (w := [x1, x2]) (prOk_of r1.1 r1.2 r2.1 r2.2 rn)
      exact ⟨D, us, .ref t, rfl, rfl, by rw [upd_ne (ne_of_none hW5.at_ ht)]; exact hW5.at_, by rw [sizeLine_eq]; omega, _, _, _, _, rfl, eG'.trans eg, hW6, by simp; omega⟩
    rintro σ' H4 ⟨G', us, prs, o5, rfl, eG', hW, hl4⟩
    refine q_cut (M := fun σ' H' => ∃ (G' : Hp) (us : List V) (prs : List Wy) (o5 o6 o7 : Option V), σ' = [some (.ref p), some (.int (n : Int)), some (.ref l), some (.int kd), some (.ref D), o5, o6, o7] ∧ Ex G1 G' ∧ LsW n G' H' p q D us prs ∧ prs.length ≤ 22) ?_ ?_
    · refine ⟨.ref p, rfl, .int (n : Int), rfl, 2, (n : Int), rfl, rfl, .inl ⟨by decide, by decide⟩, ⟨_, p, q, _, rfl, hW.pm.hd, by omega, by omega, fun H5 j hP50 hj0 hj1 => ?_⟩⟩
      have hP5 := hW.pm.back hP50
      have hO5 := hP50.off
      have hW5 := hW.off hP5 hO5
      refine ⟨j, rfl, by omega, by omega, for_range (lo := 0) (n := j.toNat) (fun i σ' H' => ∃ (G' : Hp) (us : List V) (prs : List Wy) (o5 o6 o7 : Option V), σ' = [some (.ref p), some (.int (n : Int)), some (.ref l), some (.int kd), some (.ref D), o5, o6, o7] ∧ Ex G1 G' ∧ LsW n G' H' p q D us prs ∧ prs.length ≤ 7 + i) ⟨G', us, prs, _, _, _, rfl, eG', hW5, by omega⟩ ?_ (fun σ' H' ⟨G', us, prs, o5, o6, o7, h1, h2, h3, h4⟩ => ⟨G', us, prs, o5, o6, o7, h1, h2, h3, by omega⟩)⟩
      rintro i σ' H6 hi ⟨G6, us6, prs6, o5, o6, o7, rfl, eG6, hW6, hl6⟩
      refine g_name ?_
      dsimp only
      have stay : ∀ H7, Ex H6 H7 → ∃ (G' : Hp) (us : List V) (prs : List Wy) (p5 p6 p7 : Option V), [some (.ref p), some (.int (n : Int)), some (.ref l), some (.int kd), some (.ref D), some (.int (0 + (i : Int))), o6, o7] = [some (.ref p), some (.int (n : Int)), some (.ref l), some (.int kd), some (.ref D), p5, p6, p7] ∧ Ex G1 G' ∧ LsW n G' H7 p q D us prs ∧ prs.length ≤ 7 + (i + 1) := fun H7 e7 => ⟨G6, us6, prs6, _, _, _, rfl, eG6, hW6.ext e7, by omega⟩
      change tIfS _ _ _ _ [some (.ref p), some (.int (n : Int)), some (.ref l), some (.int kd), some (.ref D), some (.int (0 + (i : Int))), o6, o7] H6
      refine s_when (b := decide ((n : Int) > 1) && !decide (V.int kd = V.int 0)) (et_and (et_test (ev_op (ev_var rfl) ev_c rv_I0)) fun _ => et_test (ev_op (ev_var rfl) ev_c (rv_ne rfl))) (fun hb H7 e7 => ?_) (fun _ H7 e7 => stay H7 e7)
      have hn2 : (n : Int) > 1 := of_decide_eq_true (Bool.and_eq_true_iff.mp hb).1
      have hW7 := hW6.ext e7
      refine ⟨.ref p, rfl, .int (n : Int), rfl, ⟨_, p, q, _, rfl, hW7.pm.hd, by omega, by omega, fun H8 a hP80 ha0 ha1 => ?_⟩⟩
      have hP8 := hW7.pm.back hP80
      have hO8 := hP80.off
      have hW8 := hW7.off hP8 hO8
      refine g_name ?_
      dsimp only
      refine ⟨.int a, rfl, a, 1, rfl, rfl, .ref p, rfl, .int (n : Int), rfl, (n : Int), 1, rfl, rfl, ⟨_, p, q, _, rfl, hW8.pm.hd, by omega, by omega, fun H9 d hP90 hd0 hd1 => ?_⟩⟩
      have hP9 := hW8.pm.back hP90
      have hO9 := hP90.off
      have hW9 := hW8.off hP9 hO9
      refine ⟨_, d, rfl, rfl, .inl ⟨_, rfl, .int (n : Int), rfl, _, (n : Int), rfl, rfl, (show (0 : Int) < (n : Int) by omega), ?_⟩⟩
      have mb := modP (a + 1 + d) (n : Int) (by omega)
      have nb := next_ne ha0 ha1 hd0 hd1
      refine g_name ?_
      dsimp only
      generalize (a + 1 + d) % (n : Int) = b at mb nb ⊢
      have hul := hW9.dq.length
      rw [List.length_map] at hul
      refine ⟨.ref D, rfl, .inl ⟨rfl, _, sq_of hW9.at_⟩, .int a, rfl, .int b, rfl, by show 2 ≤ sizeLine; decide, fun t ht => ?_⟩
      obtain ⟨eg, hW10⟩ := hW9.put ht (w := [a, b]) (prOk_of ha0 ha1 mb.1 mb.2 (Ne.symm nb))
      exact ⟨D, us6, .ref t, rfl, rfl, by rw [upd_ne (ne_of_none hW9.at_ ht)]; exact hW9.at_, by rw [sizeLine_eq]; omega, _, _, _, _, _, _, rfl, eG6.trans eg, hW10, by simp; omega⟩
    rintro σ' H5 ⟨G5, us5, prs5, o5, o6, o7, rfl, eG5, hW5, hl5⟩
    have hul := hW5.dq.length
    rw [List.length_map] at hul
    have hP5 := hW5.pm.hold hW5.at_ hW5.np hW5.gD
    have eD : Ex G5 (upd G5 D (.lst us5)) := Ex.new hW5.gD
    refine ⟨.ref p, rfl, .ref D, rfl, _, p, q, D, us5, rfl, hP5, upd_same, by omega, fun H6 l2 ys2 hP6 hl20 nl2 hl2 hpm2 => ?_⟩
    have gl2 := fresh_back hP5.ex hl20
    obtain ⟨es, hes, hdq⟩ := DqA.perm hpm2 (hW5.dq.mono eD)
    obtain ⟨ws, hws, rfl⟩ := perm_wds hes
    have e2 : Ex (upd G5 D (.lst us5)) (upd (upd G5 D (.lst us5)) l2 (.lst ys2)) := Ex.new gl2
    exact k _ H6 l2 ys2 ws ((eG.trans eG5).trans (eD.trans e2)) (hP6.hold hl2 nl2 gl2) (fresh_back ((eG.trans eG5).trans eD) gl2) nl2 upd_same (hdq.mono e2) (fun w hw => hW5.ok w (hws.mem_iff.mp hw)) (by rw [hws.length_eq]; exact hl5)
end
end Wk

set_option Elab.async false
set_option linter.all false
set_option maxRecDepth 100000
set_option maxHeartbeats 4000000
set_option pp.maxSteps 2000
namespace Wk
open PySem PySem.Spec PyProof.Rows L2 Evl
theorem fdue_size {d1 d2 : PyData} (h : szB d1 = false) : fdue d1 d2 = some "size" := by unfold fdue; rw [h]; rfl
theorem fdue_links {n : Nat} {d2 : PyData} (h1 : 1 ≤ n) (h8 : n ≤ 8) (h : unlD (n : Int) d2 = false) : fdue (.int (n : Int)) d2 = some "links" := by
  have e1 : szB (.int (n : Int)) = true := by
    show (true && (decide ((1 : Int) ≤ (n : Int)) && decide ((n : Int) ≤ 8))) = true
    rw [decide_eq_true (show (1 : Int) ≤ n by omega), decide_eq_true (show (n : Int) ≤ 8 by omega)]
    rfl
  unfold fdue
  rw [e1, show valI (.int (n : Int)) = (n : Int) from rfl, h]
  rfl
theorem unl_row {n : Int} {ds : List PyData} {d : PyData} (hd : d = .list ds ∨ d = .tuple ds) (h : ds.all (prD n) = false) : unlD n d = false := by
  rcases hd with rfl | rfl
  · show (true && ds.all (prD n)) = false
    rw [h]
    rfl
  · show (true && ds.all (prD n)) = false
    rw [h]
    rfl
section
variable {P : Program} {w : World} {K : PySem.W.Frag} {mg : Str → Option Value} {base : Heap} {f : Addr} {fd : FuncData} {CF CB : Addr}
/-! law -/
/-- what is asked and what is due, after the size -/
def Ask (n : Nat) (G : Hp) (sp : Int) (v1 : V) (dv : V) (ds : List PyData) (xs us : List V) : Prop :=
  (dv = .non ∧ v1 = .int (n : Int) ∧ xs = us) ∨ (dv = .str "links" ∧ v1 = .int (n : Int) ∧ ds.all (prD (n : Int)) = false) ∨ (dv = .str "size" ∧ (sp = 1 ∨ sp = 3) ∧ ∃ d1, Dq G v1 d1 ∧ szB d1 = false)
def spLaw (K : PySem.W.Frag) : Sp := fun vs H Q _ => ∃ (a : Addr) (ns : List Int), vs = [.ref a] ∧ SqL K H a (ns.map V.int) ∧ ns.length ≤ 63 ∧ ∀ H', Q (.bl true) H'
abbrev sLaw : Stmt := top 46
abbrev nLaw : List Str := ["_law_script", "_law_pool_here", "_law_spoil", "_law_size", "_law_links_here", "_law_asked", "_law_due", "_law_row"]
theorem scLaw : FnScope nLaw ["_law_script"] (defScope sLaw) := ⟨rfl, rfl, rfl, by decide +kernel, rfl, by decide +kernel, by decide +kernel⟩
structure Cs (P : Program) (w : World) (K : PySem.W.Frag) (mg : Str → Option Value) (base : Heap) (CF CB : Addr) : Prop where
  pool : Cal P w K mg base "_law_pool" ["_law_script"] 1 (spPool K)
  draw : Cal P w K mg base "_law_draw" ["_law_pool_here", "_law_limit"] 2 spDraw
  links : Cal P w K mg base "_law_links" ["_law_pool_here", "_law_size"] 4 spLinksN
  noS : Cal P w K mg base "_law_no_size" ["_law_pool_here"] 3 spNoS
  noL : Cal P w K mg base "_law_no_link" ["_law_pool_here", "_law_size"] 3 spNoL
  noW : Cal P w K mg base "_law_no_row" ["_law_pool_here"] 3 spNoW
  told : Cal P w K mg base "_law_told" ["_law_size", "_law_row"] 9 spTold
  let_ : CalG P w K mg base "_law_let" ["_law_size", "_law_links_here", "_law_row"] 9 spLet
theorem ok_law (B : Bl mg) (S : Cs P w K mg base CF CB) (F : FnP K "law" sLaw f fd) : FnG P w K mg base 10 f fd ["_law_script"] (spLaw K) := by
  refine okG F scLaw (fun vs H Q E h => ?_) (fun cdv A outer s H vs Q E hr hg h => ?_)
  · obtain ⟨a, ns, rfl, _⟩ := h
    rfl
  · obtain ⟨a0, ns, rfl, hS, hns, k⟩ := h
    have r1 : Room 1 _ := hr.mono (by decide)
    have r2 : Room 2 _ := hr.mono (by decide)
    have r3 : Room 3 _ := hr.mono (by decide)
    have r4 : Room 4 _ := hr.mono (by decide)
    have hu : (A.deeper (envOfC "law" (defScope sLaw) s.heap.objs.size f cdv)).units < cLine := by have := hr.un; omega
    refine ⟨_, pss_cons (ps_set (i := 1) scLaw.nd rfl (Or.inl rfl) (pe_cal S.pool r1 (by rfl) (pa_cons (pv 0) pa_nil)))
      (pss_cons (ps_set (i := 2) scLaw.nd rfl (Or.inl rfl) (pe_cal S.draw r2 (by rfl) (pa_cons (pv 1) (pa_cons pe_int pa_nil))))
      (pss_cons (ps_set (i := 3) scLaw.nd rfl (Or.inl rfl) (pe_op op_add pe_int (pe_cal S.draw r2 (by rfl) (pa_cons (pv 1) (pa_cons pe_int pa_nil)))))
      (pss_cons (ps_set (i := 4) scLaw.nd rfl (Or.inl rfl) (pe_cal S.links r4 (by rfl) (pa_cons (pv 1) (pa_cons (pv 3) pa_nil))))
      (pss_cons (ps_set (i := 5) scLaw.nd rfl (Or.inl rfl) (pv 3))
      (pss_cons (ps_set (i := 6) scLaw.nd rfl (Or.inl rfl) pe_non)
      (pss_cons (ps_set (i := 7) scLaw.nd rfl (Or.inl rfl) (pe_callTy (call_listK2 (K := K) rfl) (by rfl) B.list PyProof.Rows.boot_list (pa_cons (pv 4) pa_nil)))
      (pss_cut (ps_if (PW.pt (pw_or (pt_cmpR op_eq (pv 2) pe_int (nomark _)) (pw_or1 (pt_cmpR op_eq (pv 2) pe_int (nomark _)))))
          (pss_cons (ps_expr (pe_bm PySem.F.plainAttrs_list PySem.F.slot_list_insert PySem.F.type_list_insert mt_insert (pv 7) (pa_cons (pe_cal S.draw r2 (by rfl) (pa_cons (pv 1) (pa_cons (pe_op op_add (pe_callB call_len_seq (by rfl) B.len PySem.boot_len (pa_cons (pv 7) pa_nil)) pe_int) pa_nil)))
            (pa_cons (pe_cal S.noL r3 (by rfl) (pa_cons (pv 1) (pa_cons (pv 3) pa_nil))) pa_nil))))
          (pss_one (ps_set (i := 6) scLaw.nd rfl (Or.inl rfl) pe_str))) pss_nil)
      (pss_cut (ps_if (PW.pt (pw_or (pt_cmpR op_eq (pv 2) pe_int (nomark _)) (pw_or1 (pt_cmpR op_eq (pv 2) pe_int (nomark _)))))
          (pss_cons (ps_set (i := 5) scLaw.nd rfl (Or.inl rfl) (pe_cal S.noS r3 (by rfl) (pa_cons (pv 1) pa_nil)))
          (pss_one (ps_set (i := 6) scLaw.nd rfl (Or.inl rfl) pe_str))) pss_nil)
      (pss_cut (ps_if (pt_cmpR op_eq (pe_cal S.draw r2 (by rfl) (pa_cons (pv 1) (pa_cons pe_int pa_nil))) pe_int (nomark _))
          (pss_one (ps_set (i := 7) scLaw.nd rfl (Or.inl rfl) (pe_callTy (call_tupleK (K := K) rfl) (by rfl) B.tuple PyProof.Rows.boot_tuple (pa_cons (pv 7) pa_nil)))) pss_nil)
      (pss_cut (ps_if (pt_cmpR op_eq (pv 2) pe_int (nomark _))
          (pss_cons (ps_set (i := 7) scLaw.nd rfl (Or.inl rfl) (pe_cal S.noW r3 (by rfl) (pa_cons (pv 1) pa_nil)))
          (pss_one (ps_set (i := 6) scLaw.nd rfl (Or.inl rfl) pe_str))) pss_nil)
      (pss_cons (ps_if (pt_cmp (pc_notN (pv 6)))
          (pss_one (ps_ret (pe_cmpR (op_eqSm (K := K) rfl hu) (pe_cal S.told hr (by rfl) (pa_cons (pv 5) (pa_cons (pv 7) pa_nil))) (pe_tup (pa_cons pe_str (pa_cons (pv 6) (pa_cons pe_bl (pa_cons pe_bl pa_nil))))) (nomark _)))) pss_nil)
      (pss_one (ps_ret (pe_calG S.let_ hr hg (by rfl) (pa_cons (pv 3) (pa_cons (pv 4) (pa_cons (pv 7) pa_nil))))))))))))))))), ?_⟩
    refine ⟨.ref a0, rfl, a0, ns, rfl, hS, hns, fun G1 H1 p q _ hP1 => ?_⟩
    refine g_name ?_
    refine ⟨.ref p, rfl, ⟨_, p, q, 8, rfl, hP1.hd, by decide, by decide, fun H2 sp h2 hs0 hs1 => ?_⟩⟩
    have hP2 := hP1.back h2
    refine g_name ?_
    refine ⟨.ref p, rfl, ⟨_, p, q, 8, rfl, hP2.hd, by decide, by decide, fun H3 y h3 hy0 hy1 => ⟨1, y, rfl, rfl, ?_⟩⟩⟩
    have hP3 := hP2.back h3
    obtain ⟨n, hn⟩ : ∃ n : Nat, (1 : Int) + y = (n : Int) := ⟨(1 + y).toNat, by omega⟩
    refine g_name ?_
    dsimp only
    rw [hn]
    have hn1 : 1 ≤ n := by omega
    have hn8 : n ≤ 8 := by omega
    refine ⟨.ref p, rfl, .int (n : Int), rfl, G1, p, q, n, rfl, hP3, hn1, hn8, fun G4 H4 l us prs e4 hP4 _ nlp gl hus hok hpl => ?_⟩
    refine g_name ?_
    dsimp only
    change tSeq _ _ _ [some (V.ref a0), some (.ref p), some (.int sp), some (.int (n : Int)), some (.ref l), none, none, none] H4
    clear hP1 hP2 hP3 h2 h3 e4 hn
    refine q_asg (v := .int (n : Int)) (ev_var rfl) fun H5 e5 => ?_
    refine q_asg (v := .non) ev_c fun H6 e6 => ?_
    change tSeq _ _ _ [some (V.ref a0), some (.ref p), some (.int sp), some (.int (n : Int)), some (.ref l), some (.int (n : Int)), some (.non), none] H6
    have hP6 := (hP4.ext e5).ext e6
    clear hP4
    have hul := hus.length
    rw [List.length_map] at hul
    refine ⟨.ref l, rfl, l, us, rfl, .inl (sq_of (hP6.ex _ _ gl)), fun R0 nR0 => ?_⟩
    refine g_name ?_
    dsimp only
    have gR0 := fresh_back hP6.ex nR0
    have hP7 := hP6.ext (Ex.new (o := .lst us) nR0)
    have hR7 : (upd H6 R0 (.lst us)) R0 = some (.lst us) := upd_same
    have Rp : R0 ≠ p := hP6.np nR0
    generalize upd H6 R0 (.lst us) = H7 at *
    clear hP6 nR0 e5 e6
    change tCut _ _ _ [some (V.ref a0), some (.ref p), some (.int sp), some (.int (n : Int)), some (.ref l), some (.int (n : Int)), some (.non), some (.ref R0)] H7
    -- a wrong link
    refine q_cut (M := fun σ' H' => ∃ (G' : Hp) (R : Addr) (xs : List V) (ds : List PyData) (dv : V), σ' = [some (V.ref a0), some (.ref p), some (.int sp), some (.int (n : Int)), some (.ref l), some (.int (n : Int)), some dv, some (.ref R)] ∧ Pm G' H' p q ∧ G' l = some (.lst us) ∧ DqA G' us (prs.map wd) ∧ G' R = some (.lst xs) ∧ DqA G' xs ds ∧ ds.length ≤ 23 ∧ ((dv = .non ∧ xs = us) ∨ (dv = .str "links" ∧ ds.all (prD (n : Int)) = false))) ?_ ?_
    · have c1 : EvT (tTest (tOp rEq (tVar 2) (tC (.int 2)))) [some (V.ref a0), some (.ref p), some (.int sp), some (.int (n : Int)), some (.ref l), some (.int (n : Int)), some (.non), some (.ref R0)] H7 (decide (V.int sp = V.int 2)) := et_test (ev_op (r := rEq) (ev_var rfl) ev_c (rv_eq rfl))
      have c2 : EvT (tTest (tOp rEq (tVar 2) (tC (.int 3)))) [some (V.ref a0), some (.ref p), some (.int sp), some (.int (n : Int)), some (.ref l), some (.int (n : Int)), some (.non), some (.ref R0)] H7 (decide (V.int sp = V.int 3)) := et_test (ev_op (r := rEq) (ev_var rfl) ev_c (rv_eq rfl))
      refine s_when (b := decide (V.int sp = V.int 2) || decide (V.int sp = V.int 3)) (et_or c1 fun _ => c2) (fun hb H8 e8 => ?_) (fun hb H8 e8 => ?_)
      · have z : Ev (tOp (rI0 fun i j => .int (i + j)) (tCB (rLenS K) (tCons (tVar 7) tNil)) (tC (.int 1))) [some (V.ref a0), some (.ref p), some (.int sp), some (.int (n : Int)), some (.ref l), some (.int (n : Int)), some (.non), some (.ref R0)] H8 (.int ((us.length : Int) + 1)) := ev_op (ev_len (ev_var rfl) (sq_of (e8 _ _ hR7))) ev_c rv_I0
        have hP8 := hP7.ext e8
        have hR8 := e8 _ _ hR7
        refine ⟨.ref R0, rfl, Or.inl ⟨rfl, us, sq_of hR8⟩, .ref p, rfl, z H8 (Ex.refl _) _ fun H9 e9 => ?_⟩
        have hP9 := hP8.ext e9
        have hR9 := e9 _ _ hR8
        refine ⟨_, p, q, _, rfl, hP9.hd, by omega, by omega, fun H10 i h10 hi0 hi1 => ?_⟩
        have hR10 := h10.off _ _ Rp hR9
        have hP10 := hP9.back h10
        refine ⟨.ref p, rfl, .int (n : Int), rfl, G4, p, q, n, rfl, hP10, hn1, hn8, fun G11 H11 v d g11 hd hno => ?_⟩
        have hR11 := g11.off _ _ Rp hR10
        have gR11 := g11.nw _ gR0 (by rw [hR10]; simp)
        refine ⟨R0, us, i, v, rfl, rfl, hR11, by rw [sizeLine_eq]; omega, hi0, by omega, ?_⟩
        have hP12 := (g11.pl.mut (o := .lst (us.take i.toNat ++ [v] ++ us.drop i.toNat)) gR11 Rp)
        have hP13 := hP12.hold (o := .lst (us.take i.toNat ++ [v] ++ us.drop i.toNat)) upd_same Rp gR11
        have eG : Ex G11 (upd G11 R0 (.lst (us.take i.toNat ++ [v] ++ us.drop i.toNat))) := Ex.new gR11
        dsimp only
        refine s_asg (v := .str "links") ev_c fun H14 e14 => ?_
        refine ⟨_, R0, us.take i.toNat ++ [v] ++ us.drop i.toNat, (prs.map wd).take i.toNat ++ [d] ++ (prs.map wd).drop i.toNat, .str "links", rfl, hP13.ext e14, eG _ _ (g11.ex _ _ gl), (hus.mono g11.ex).mono eG, upd_same, ?_, ?_, .inr ⟨rfl, ?_⟩⟩
        · exact ((((hus.mono g11.ex).take _).append (.cons hd .nil)).append ((hus.mono g11.ex).drop _)).mono eG
        · simp
          omega
        · rw [List.all_append, List.all_append]
          simp [hno]
      · exact ⟨upd G4 R0 (.lst us), R0, us, prs.map wd, .non, rfl, (hP7.hold hR7 Rp gR0).ext e8, (Ex.new gR0) _ _ gl, hus.mono (Ex.new gR0), upd_same, hus.mono (Ex.new gR0), by rw [List.length_map]; omega, .inl ⟨rfl, rfl⟩⟩
    clear hP7 hR7 gR0 Rp hus gl
    rintro σ' H8 ⟨G8, R, xs, ds, dv, rfl, hP8, gl, hus, gR, hxs, hdl, hcase⟩
    -- a wrong size
    refine q_cut (M := fun σ' H' => ∃ (G' : Hp) (v1 dv : V), σ' = [some (V.ref a0), some (.ref p), some (.int sp), some (.int (n : Int)), some (.ref l), some v1, some dv, some (.ref R)] ∧ Pm G' H' p q ∧ G' l = some (.lst us) ∧ DqA G' us (prs.map wd) ∧ G' R = some (.lst xs) ∧ DqA G' xs ds ∧ Ask n G' sp v1 dv ds xs us) ?_ ?_
    · have c1 : EvT (tTest (tOp rEq (tVar 2) (tC (.int 1)))) [some (V.ref a0), some (.ref p), some (.int sp), some (.int (n : Int)), some (.ref l), some (.int (n : Int)), some dv, some (.ref R)] H8 (decide (V.int sp = V.int 1)) := et_test (ev_op (r := rEq) (ev_var rfl) ev_c (rv_eq rfl))
      have c2 : EvT (tTest (tOp rEq (tVar 2) (tC (.int 3)))) [some (V.ref a0), some (.ref p), some (.int sp), some (.int (n : Int)), some (.ref l), some (.int (n : Int)), some dv, some (.ref R)] H8 (decide (V.int sp = V.int 3)) := et_test (ev_op (r := rEq) (ev_var rfl) ev_c (rv_eq rfl))
      refine s_when (b := decide (V.int sp = V.int 1) || decide (V.int sp = V.int 3)) (et_or c1 fun _ => c2) (fun hb H9 e9 => ?_) (fun hb H9 e9 => ?_)
      · have hsp : sp = 1 ∨ sp = 3 := by simpa using hb
        refine ⟨.ref p, rfl, G8, p, q, rfl, hP8.ext e9, fun G10 H10 v d g10 hd hno => ?_⟩
        refine g_name ?_
        dsimp only
        refine s_asg (v := .str "size") ev_c fun H11 e11 => ?_
        exact ⟨G10, v, .str "size", rfl, g10.pl.ext e11, g10.ex _ _ gl, hus.mono g10.ex, g10.ex _ _ gR, hxs.mono g10.ex, .inr (.inr ⟨rfl, hsp, d, hd, hno⟩)⟩
      · refine ⟨G8, .int (n : Int), dv, rfl, hP8.ext e9, gl, hus, gR, hxs, ?_⟩
        rcases hcase with ⟨h1, h2⟩ | ⟨h1, h2⟩
        · exact .inl ⟨h1, rfl, h2⟩
        · exact .inr (.inl ⟨h1, rfl, h2⟩)
    clear hP8 gl hus gR hxs hcase
    rintro σ' H9 ⟨G9, v1, dv9, rfl, hP9, gl, hus, gR, hxs, hask⟩
    -- a list or a tuple
    refine q_cut (M := fun σ' H' => ∃ (G' : Hp) (R : Addr), σ' = [some (V.ref a0), some (.ref p), some (.int sp), some (.int (n : Int)), some (.ref l), some v1, some dv9, some (.ref R)] ∧ Pm G' H' p q ∧ G' l = some (.lst us) ∧ DqA G' us (prs.map wd) ∧ Row G' R xs ∧ DqA G' xs ds ∧ Ask n G' sp v1 dv9 ds xs us) ?_ ?_
    · refine ⟨.ref p, rfl, ⟨_, p, q, 2, rfl, hP9.hd, by decide, by decide, fun H10 y h10 hy0 hy1 => ?_⟩⟩
      have hP10 := hP9.back h10
      refine ⟨rfl, _, rfl, ?_⟩
      refine ite2 (fun _ => ?_) (fun _ => ⟨G9, R, rfl, hP10, gl, hus, .inl gR, hxs, hask⟩)
      refine ⟨.ref R, rfl, R, xs, rfl, .inl ⟨sq_of (hP10.ex _ _ gR), fun T nT => ?_⟩⟩
      refine g_name ?_
      have eT : Ex G9 (upd G9 T (.tup xs)) := Ex.new (fresh_back hP10.ex nT)
      refine ⟨upd G9 T (.tup xs), T, rfl, hP10.new nT, eT _ _ gl, hus.mono eT, .inr upd_same, hxs.mono eT, ?_⟩
      rcases hask with h | h | ⟨h1, h2, d1, h3, h4⟩
      · exact .inl h
      · exact .inr (.inl h)
      · exact .inr (.inr ⟨h1, h2, d1, h3.mono eT, h4⟩)
    clear hP9 gl hus gR hxs hask
    rintro σ' H10 ⟨G10, R', rfl, hP10, gl, hus, gR, hxs, hask⟩
    -- no row
    refine q_cut (M := fun σ' H' => ∃ (dv v2 : V), σ' = [some (V.ref a0), some (.ref p), some (.int sp), some (.int (n : Int)), some (.ref l), some v1, some dv, some v2] ∧ ((dv = .non ∧ v1 = .int (n : Int) ∧ H' l = some (.lst us) ∧ DqA H' us (prs.map wd) ∧ ∃ R, v2 = .ref R ∧ Row H' R us) ∨ ∃ (s : Str) (d1 d2 : PyData), dv = .str s ∧ Dq H' v1 d1 ∧ Tg H' v2 d2 ∧ (itemsR d2).length ≤ 1000 ∧ fdue d1 d2 = some s)) ?_ ?_
    · refine s_when (b := decide (V.int sp = V.int 4)) (et_test (ev_op (r := rEq) (ev_var rfl) ev_c (rv_eq rfl))) (fun hb H11 e11 => ?_) (fun hb H11 e11 => ?_)
      · have hsp : sp = 4 := by simpa using hb
        refine ⟨.ref p, rfl, G10, p, q, rfl, hP10.ext e11, fun H12 v d g12 hd hro hit => ?_⟩
        refine g_name ?_
        dsimp only
        refine s_asg (v := .str "links") ev_c fun H13 e13 => ?_
        have e1 : v1 = .int (n : Int) := by
          rcases hask with ⟨_, h, _⟩ | ⟨_, h, _⟩ | ⟨_, h, _⟩
          · exact h
          · exact h
          · omega
        refine ⟨.str "links", v, rfl, .inr ⟨"links", .int (n : Int), d, rfl, by rw [e1]; exact .int _, hd.mono e13, by rw [hit]; decide, fdue_links hn1 hn8 (by unfold unlD; rw [hro]; rfl)⟩⟩
      · have eG := hP10.ex.trans e11
        obtain ⟨d2, hd2, hdi, hdd⟩ := row_tg (gR.mono eG) (hxs.mono eG)
        refine ⟨dv9, .ref R', rfl, ?_⟩
        rcases hask with ⟨h1, h2, h3⟩ | ⟨h1, h2, h3⟩ | ⟨h1, h2, d1, h3, h4⟩
        · refine .inl ⟨h1, h2, eG _ _ gl, hus.mono eG, R', rfl, ?_⟩
          rw [← h3]
          exact gR.mono eG
        · exact .inr ⟨"links", .int (n : Int), d2, h1, by rw [h2]; exact .int _, hd2, by rw [hdi]; omega, fdue_links hn1 hn8 (unl_row hdd h3)⟩
        · exact .inr ⟨"size", d1, d2, h1, h3.mono eG, hd2, by rw [hdi]; omega, fdue_size h4⟩
    clear hP10 gl hus gR hxs hask
    rintro σ' H11 ⟨dv, v2, rfl, hfin⟩
    rcases hfin with ⟨rfl, rfl, hl, hus, R2, rfl, hR⟩ | ⟨s', d1, d2, rfl, hd1, hd2, hd2l, hdue⟩
    · refine q_when (b := false) (et_test (fun H6 e6 Q2 q => ⟨.non, rfl, q H6 (Ex.refl H6)⟩)) (fun z => by cases z) (fun _ H12 e12 => ?_)
      exact ⟨.int (n : Int), rfl, .ref l, rfl, .ref R2, rfl, l, R2, n, us, prs, rfl, e12 _ _ hl, hR.mono e12, hus.mono e12, hok, hpl, hn1, hn8, k⟩
    · refine q_when (b := true) (et_test (fun H6 e6 Q2 q => ⟨.str s', rfl, q H6 (Ex.refl H6)⟩)) (fun _ H12 e12 => ?_) (fun z => by cases z)
      refine ⟨v1, rfl, v2, rfl, v1, v2, d1, d2, s', rfl, hd1.mono e12, hd2.mono e12, hd2l, hdue, fun H13 t e13 ht => ⟨.str s', rfl, by show 4 ≤ sizeLine; decide, fun t2 nt2 => ?_⟩⟩
      have e14 := Ex.new (o := .tup [V.str "refused", .str s', .bl true, .bl false]) nt2
      exact ⟨t, t2, [.str "refused", .str s', .bl true, .bl false], rfl, rfl, st_of (e14 _ _ ht), st_of upd_same, rfl, fun z hz => by
        simp only [List.mem_cons, List.not_mem_nil, or_false] at hz
        rcases hz with rfl | rfl | rfl | rfl <;> simp [eqV], k _⟩
end
end Wk

set_option Elab.async false
set_option linter.all false
set_option maxRecDepth 100000
set_option maxHeartbeats 4000000
namespace Wk
open PySem PySem.Spec PyProof.Rows L2 Evl
/-! the head's facts with more of them -/
abbrev AlX : Type := He.AlD × Bool
def obsX (n : Nat) (fa : List He.Fa) (fn : List He.DefD) (eb : PySem.W.Frag → Bool) (g : Addr → Option Obj) : AlX := (He.obsDG n fa fn g, eb (He.frG g (He.asD g n)))
def hookX (n : Nat) (fa : List He.Fa) (fn : List He.DefD) (eb : PySem.W.Frag → Bool) : PySem.W.Hook where
  α := AlX
  obs := fun s => obsX n fa fn eb s.heap.get?
  val := fun _ => (He.valD fn, true)
  says := fun _ h => ∃ K : PySem.W.Frag, K.In h ∧ He.SaysD fa fn K ∧ eb K = true
  of := fun _ _ e => ⟨_, He.frG_in, congrArg Prod.fst e, congrArg Prod.snd e⟩
  keeps := fun _ _ _ ⟨K, hK, c⟩ k => ⟨K, PySem.W.Frag.In.keeps hK k, c⟩
theorem obsX_eq {n : Nat} {fa : List He.Fa} {fn : List He.DefD} {eb : PySem.W.Frag → Bool} {g : Addr → Option Obj} {s : Shared} (h : ∀ a, g a = s.heap.get? a) : obsX n fa fn eb g = (hookX n fa fn eb).obs s := by
  have e : g = s.heap.get? := funext h
  rw [e]
  rfl
theorem calOf {P : Program} {w : World} {K : PySem.W.Frag} {mg : Str → Option Value} {base : Heap} {x q : Str} {params : Arguments} {body : List Stmt} {scope : Scope} {f : Addr} {fd : FuncData} {ps : List Str} {k : Nat} {sp : Sp} (F : FunD K x q params body scope [] [] f fd) (o : FnOk P w K mg base CX0 k f fd ps sp) (g : mg x = some (.ref f)) (b : Binds K fd ps []) : Cal P w K mg base x ps k sp := ⟨⟨f, fd, o, g, F.kp, b⟩⟩
def dG (x : Str) (i : Nat) : He.DefD := ⟨(x, none), x, x, defArgs (top i), defBody (top i), defScope (top i), [], []⟩
def dM (c m q : Str) (i j : Nat) : He.DefD := ⟨(c, some m), m, q, defArgs (inClass (top i) j), defBody (inClass (top i) j), defScope (inClass (top i) j), [], []⟩
end Wk

set_option Elab.async false
set_option linter.all false
set_option maxRecDepth 100000
set_option maxHeartbeats 2000000
namespace Wk
open PySem PySem.Spec PyProof.Rows L2 Evl
/-! more facts: a thing of an own class, an error without arguments -/
def errB (K : PySem.W.Frag) (C : Addr) : Bool := PySem.W.excIn K C [.type "ValueError", .type "Exception", .type "BaseException", .type "object"] "ValueError.__new__" && (PySem.W.keepIn K (.ref C) && (decide (PySem.W.subIn K (.ref C) (.type "BaseException") = some true) && decide (PySem.W.typeIn K (.ref C) = some (.type "type"))))
theorem errB_ok {K : PySem.W.Frag} {mg : Str → Option Value} {x : Str} {C : Addr} (h : errB K C = true) (g : mg x = some (.ref C)) : ErrN K mg x C := by
  obtain ⟨h1, h⟩ := He.ba h
  obtain ⟨h2, h⟩ := He.ba h
  obtain ⟨h3, h4⟩ := He.ba h
  exact ⟨g, h1, h2, of_decide_eq_true h3, of_decide_eq_true h4⟩
def excB (K : PySem.W.Frag) (C : Addr) : Bool := He.eqO (PySem.W.findIn K (.ref C) "__getattribute__") (some (some (.builtin "BaseException.__getattribute__"))) && (He.eqO (PySem.W.findIn K (.ref C) "__getattr__") (some none) && (decide (PySem.W.subIn K (.ref C) (.type "BaseException") = some true) && (PySem.W.hasDictIn K C &&
  (He.eqO (PySem.W.findIn K (.ref C) "__class__") (some (some (.builtin "object.__class__"))) && (He.eqO (PySem.W.specialIn K (.builtin "object.__class__") "__get__") (some (some (.builtin "getset_descriptor.__get__"))) && (decide (PySem.W.takesIn K (.builtin "object.__class__") = some true) && decide (PySem.W.mroIn K C (.type "object") = some true)))))))
theorem excB_ok {K : PySem.W.Frag} {C : Addr} (h : excB K C = true) : ExcC K C := by
  obtain ⟨h1, h⟩ := He.ba h
  obtain ⟨h2, h⟩ := He.ba h
  obtain ⟨h3, h⟩ := He.ba h
  obtain ⟨h4, h⟩ := He.ba h
  obtain ⟨h5, h⟩ := He.ba h
  obtain ⟨h6, h⟩ := He.ba h
  obtain ⟨h7, h8⟩ := He.ba h
  exact ⟨He.eqO_ok h1, He.eqO_ok h2, of_decide_eq_true h3, h4, He.eqO_ok h5, He.eqO_ok h6, of_decide_eq_true h7, of_decide_eq_true h8⟩
def ekbB (K : PySem.W.Frag) (C CW CD CN : Addr) : Bool := excB K C && (decide (PySem.W.kitOne K (.ref C) (.ref CW) = some true) && (decide (PySem.W.kitOne K (.ref C) (.ref CD) = some false) && decide (PySem.W.kitOne K (.ref C) (.ref CN) = some false)))
theorem ekbB_ok {K : PySem.W.Frag} {C CW CD CN : Addr} (h : ekbB K C CW CD CN = true) : EKb K C CW CD CN := by
  obtain ⟨h1, h⟩ := He.ba h
  obtain ⟨h2, h⟩ := He.ba h
  obtain ⟨h3, h4⟩ := He.ba h
  exact ⟨excB_ok h1, of_decide_eq_true h2, of_decide_eq_true h3, of_decide_eq_true h4⟩
def eknB (K : PySem.W.Frag) (C CW CB : Addr) : Bool := excB K C && (decide (PySem.W.kitOne K (.ref C) (.ref CW) = some true) && decide (PySem.W.kitOne K (.ref C) (.ref CB) = some false))
theorem eknB_ok {K : PySem.W.Frag} {C CW CB : Addr} (h : eknB K C CW CB = true) : EKn K C CW CB := by
  obtain ⟨h1, h⟩ := He.ba h
  obtain ⟨h2, h3⟩ := He.ba h
  exact ⟨excB_ok h1, of_decide_eq_true h2, of_decide_eq_true h3⟩
/-! the end: the law is called where no repr is under way -/
abbrev scO (vs : List Value) : Obj := { cls := .type "list", data := .seq vs.toArray }
section
variable {P : Program} {w : World} {K : PySem.W.Frag} {mg mb : Str → Option Value} {k : Nat} {fa a : Addr} {fd : FuncData} {x : Str} {sp : Sp} {s : Shared} {vs : List Value}
theorem gcall (kx : K.In s.heap) (g1 : s.heap.Ns mainGlobals mg) (g2 : s.heap.Ns builtinsNs mb) (g3 : ∀ y : Str, y ≠ "__name__" → mb y = bootBuiltins y) (g4 : s.heap.NoLimit) (g5 : s.gens = #[])
    (oa : s.heap.get? a = some (scO vs)) (room : Room k callerA) (Fn : ∀ base : Heap, K.In base → base.Ns mainGlobals mg → FnG P w K mg base k fa fd [x] sp) (bd : ∀ (t : Shared) (u : Value), BindsTo t fd ⟨[u], []⟩ [(x, u)])
    (H : Hp) (only : ∀ b, H b = none ∨ (b = a ∧ ∃ o xs, H b = some (.frz o (.lst xs)))) (hok : HOk P w H s.heap) (kh : H a ≠ none → K.lookup a = none) (hq : sp [.ref a] H (fun v _ => v = .bl true) fun _ _ _ => False) :
    codeAny (model P w) callerA (.call (.ref fa) ⟨[.ref a], []⟩) (fun r t => r = .ok (.ret (.bool true)) ∧ OldK s.heap t.heap ∧ t.os = s.os ∧ AllBare t.gens) s := by
  have off : ∀ b, b ≠ a → H b = none := fun b nb => (only b).elim id fun z => absurd z.1 nb
  have ns : ∀ {b : Addr} {m : Str → Option Value}, s.heap.Ns b m → (hidT s.heap H).Ns b m := fun {b m} z => by
    obtain ⟨o, es, ep, e, d, r⟩ := z
    refine ⟨o, es, ep, hidT_get e (off b fun c => ?_), d, r⟩
    rw [c, oa] at e
    cases e
    cases (show Data.seq vs.toArray _ = Data.dict es ep from d)
  have ki : K.In (hidT s.heap H) := fun b o e => by
    by_cases c : b = a
    · subst c
      cases z : H b with
      | none => exact hidT_get (kx b o e) z
      | some u =>
        rw [kh (by rw [z]; simp)] at e
        cases e
    · exact hidT_get (kx b o e) (off b c)
  have md : Mod K mg (hidT s.heap H) := ⟨ki, ns g1, ⟨mb, ns g2, g3⟩, g4.elim fun mc z => ⟨mc, ns z.1, z.2⟩⟩
  have ev : Env0 P w K mg (hidT s.heap H) callerA [] s H := ⟨rfl, md, fun b o e => of_hidT e, Nat.le_of_eq (hidT_size _ _), trivial, fun b hb => absurd (show b ∈ ([] : List Addr) from hb) (by simp), hok, .of_eq g5⟩
  have go := (Fn _ ki (ns g1)).run callerA [] s H ⟨[.ref a], []⟩ [.ref a] [.ref a] (fun v _ => v = .bl true) (fun _ _ _ => False) room rfl ev (bd s (.ref a)) (.cons rfl .nil) hq
  refine codeAny_mono go fun r t out => ?_
  match r, out with
  | .error e, out => exact False.elim out
  | .ok .next, out => exact False.elim out
  | .ok .brk, out => exact False.elim out
  | .ok .cont, out => exact False.elim out
  | .ok (.ret u), out =>
    obtain ⟨v, H', os, bare, un, hok', rv, q⟩ := out
    have q2 : v = .bl true := q
    subst q2
    have eu : u = Value.bool true := rv
    subst eu
    refine ⟨rfl, OldK.of_keep fun b o e => ?_, os, bare⟩
    rcases only b with z | ⟨_, ob, xs, z⟩
    · exact un.keep b o e z (by intro c; exact absurd (show b ∈ ([] : List Addr) from c) (by simp)) (by simp)
    · have e1 := (hok b _ z).1
      have e2 := (hok' b _ (un.frzs b ob _ z)).1
      rw [e] at e1
      cases e1
      exact e2
theorem gcall_all {ns : List Int} (kx : K.In s.heap) (g1 : s.heap.Ns mainGlobals mg) (g2 : s.heap.Ns builtinsNs mb) (g3 : ∀ y : Str, y ≠ "__name__" → mb y = bootBuiltins y) (g4 : s.heap.NoLimit) (g5 : s.gens = #[])
    (oa : s.heap.get? a = some (scO vs)) (hi : IntsAre vs ns) (hl : ns.length ≤ sizeLine) (room : Room k callerA) (Fn : ∀ base : Heap, K.In base → base.Ns mainGlobals mg → FnG P w K mg base k fa fd [x] sp) (bd : ∀ (t : Shared) (u : Value), BindsTo t fd ⟨[u], []⟩ [(x, u)])
    (hq : ∀ H : Hp, SqL K H a (ns.map V.int) → sp [.ref a] H (fun v _ => v = .bl true) fun _ _ _ => False) :
    codeAny (model P w) callerA (.call (.ref fa) ⟨[.ref a], []⟩) (fun r t => r = .ok (.ret (.bool true)) ∧ OldK s.heap t.heap ∧ t.os = s.os ∧ AllBare t.gens) s := by
  have rv := vals_ints hi
  have lv := hi.length
  by_cases hk : K.lookup a = none
  · refine gcall kx g1 g2 g3 g4 g5 oa room Fn bd (fun b => if b = a then some (.frz (scO vs) (.lst (ns.map V.int))) else none) (fun b => ?_) (fun b u z => ?_) (fun _ => hk) (hq _ (.inl (.inr ⟨scO vs, if_pos rfl⟩)))
    · by_cases c : b = a
      · exact .inr ⟨c, _, _, if_pos c⟩
      · exact .inl (if_neg c)
    · by_cases c : b = a
      · subst c
        have z2 := (if_pos rfl).symm.trans z
        cases z2
        exact ⟨oa, by rw [List.length_map]; exact hl, vs, _, rv, oa⟩
      · have z2 := (if_neg c).symm.trans z
        cases z2
  · obtain ⟨o, ho⟩ := Option.ne_none_iff_exists'.mp hk
    have e := kx a o ho
    rw [oa] at e
    cases e
    exact gcall kx g1 g2 g3 g4 g5 oa room Fn bd (fun _ => none) (fun _ => .inl rfl) (fun b u z => by cases z) (fun z => absurd rfl z) (hq _ (.inr ⟨_, vs.toArray, _, ho, rfl, rfl, rfl, by rw [List.size_toArray, lv]; exact hl, by simpa using rv⟩))
end
/-- from the promise of the law's def to what the head leaves -/
theorem walkG {l : PySem.W.OpenLaw} {n k : Nat} {q : Program} {loose : List Str} {XP : (Str → Option Value) → Heap → Prop} {YP : World → Heap → Prop} {d : DefRec} {x : Str} (hn : l.most = some n) (hn2 : n ≤ sizeLine) (hd : d.params.defaults = []) (hr : Room k callerA)
    (F : ∀ (w : World) (mg : Str → Option Value) (fa : Addr) (h : Heap), YP w h → h.Ns mainGlobals mg → mg d.name = some (.ref fa) → ∃ (K : PySem.W.Frag) (fd : FuncData) (sp : Sp), K.In h ∧ (∀ (t : Shared) (u : Value), BindsTo t fd ⟨[u], []⟩ [(x, u)]) ∧
      (∀ (H : Hp) (a : Addr) (ns : List Int), ns.length ≤ n → SqL K H a (ns.map V.int) → sp [.ref a] H (fun v _ => v = .bl true) fun _ _ _ => False) ∧ ∀ base : Heap, K.In base → base.Ns mainGlobals mg → FnG l.prog w K mg base k fa fd [x] sp) :
    PySem.W.WalkO q loose XP YP l.row.toRowW d [] (fun f vs => PySem.call f vs) := by
  refine Att.attach_call hn hd fun w s₀ s₁ mg mb fa o pm cd doc a vs ns G Y _ _ _ hmg hobj hints hlen hg => ?_
  obtain ⟨K, fd, sp, kx, hb, hsp, hF⟩ := F w mg fa _ Y G.T.g hmg
  exact gcall_all kx G.T.g G.T.b G.T.builtins G.T.nolimit hg hobj hints (Nat.le_trans hlen hn2) hr hF hb fun H hS => hsp H a ns hlen hS
/-! facts of own errors -/
def exB (K : PySem.W.Frag) (C : Addr) : Bool := (match K.lookup C with
  | some o => (match o.cls, o.data, o.slots.toList with
    | .type t, .cls cd, [_, _, _, _, some (.builtin n), _] => decide (t = "type") && (decide (n = "ValueError.__new__") && (cd.hasDict && (!cd.hasDel && (match cd.mro with
      | .ref c :: bm => decide (c = C) && PySem.HandSPX.refsVE bm
      | _ => false))))
    | _, _, _ => false)
  | none => false) && (He.eqO (PySem.W.findIn K (.ref C) "__setattr__") (some (some (.builtin "object.__setattr__"))) && (decide (PySem.W.subIn K (.ref C) (.type "BaseException") = some true) && (decide (PySem.W.typeIn K (.ref C) = some (.type "type")) && (PySem.W.keepIn K (.ref C) && xfB K C))))
theorem exB_ok {K : PySem.W.Frag} {C : Addr} (h : exB K C = true) : OexC K C ∧ XfC K C := by
  unfold exB at h
  obtain ⟨h1, h⟩ := He.ba h
  obtain ⟨h2, h⟩ := He.ba h
  obtain ⟨h3, h⟩ := He.ba h
  obtain ⟨h4, h⟩ := He.ba h
  obtain ⟨h5, h6⟩ := He.ba h
  refine ⟨⟨?_, He.eqO_ok h2, of_decide_eq_true h3, of_decide_eq_true h4, h5⟩, xfB_ok h6⟩
  cases hl : K.lookup C with
  | none =>
    rw [hl] at h1
    cases h1
  | some o =>
    rw [hl] at h1
    obtain ⟨oc, od, dt, ⟨sl⟩⟩ := o
    dsimp only at h1
    split at h1
    · rename_i t cd k0 k1 k2 k3 n k5
      obtain ⟨z1, h1⟩ := He.ba h1
      obtain ⟨z2, h1⟩ := He.ba h1
      obtain ⟨z3, h1⟩ := He.ba h1
      obtain ⟨z4, h1⟩ := He.ba h1
      split at h1
      · rename_i c bm hm
        obtain ⟨z5, z6⟩ := He.ba h1
        obtain ⟨x1, x2, x3, x4, x5, x6, x7, x8, x9, x10, x11⟩ := cd
        dsimp only at z3 z4 hm
        have y1 := of_decide_eq_true z1
        have y2 := of_decide_eq_true z2
        have y5 := of_decide_eq_true z5
        have y4 : x11 = false := by simpa using z4
        subst y1 y2 y5 y4 z3 hm
        exact ⟨x1, x5, x4, x2, bm, x7, x8, x9, x10, od, k0, k1, k2, k3, k5, rfl, z6⟩
      · cases h1
    · cases h1
end Wk

set_option Elab.async false
set_option linter.all false
set_option maxRecDepth 100000
set_option maxHeartbeats 0
namespace Wk
open PySem PySem.Spec PyProof.Rows L2 Evl
def fn : List He.DefD := ([dG "is_integer" 8, dG "is_between" 9, dG "is_row" 10, dG "is_tuple_of" 11, dG "is_router" 12, dG "refuse_no_router" 13, dG "is_size" 14, dG "is_router_pair" 15, dG "is_row_of_unlike_pairs" 16, dG "replaced" 17, dG "refuse_wrong_flood" 22, dG "both_ways" 23, dG "is_flood_deed" 24, dG "behind" 25, dG "number_after" 26, dG "with_entry" 27, dG "with_greater" 28, dG "first_book" 29, dG "_law_pool" 31, dG "_law_mixed" 32, dG "_law_draw" 33, dG "_law_shuffled" 34, dG "_law_links" 35, dG "_law_pairs" 36, dG "_law_is_integer" 37, dG "_law_no_size" 38, dG "_law_no_link" 39, dG "_law_no_row" 40, dG "_law_told" 41, dG "_law_over" 42] : List He.DefD) ++ ([dG "_law_no_router" 43, dG "_law_empty" 44, dG "_law_let" 45, dG "law" 46, dM "Flood" "__init__" "Flood.__init__" 21 0, dM "Flood" "do" "Flood.do" 21 1, dM "Flood" "book" "Flood.book" 21 2, dM "Flood" "content" "Flood.content" 21 3, dM "Flood" "is_calm" "Flood.is_calm" 21 5, dM "Flood" "rounds" "Flood.rounds" 21 6, dM "Flood" "_go" "Flood._go" 21 7, dM "NoRouter" "__init__" "NoRouter.__init__" 3 0, dM "BadFlood" "__init__" "BadFlood.__init__" 4 0] : List He.DefD)
def fa : List He.Fa := ([.glo "is_integer", .glo "is_between", .glo "is_row", .glo "is_tuple_of", .glo "is_router", .glo "refuse_no_router", .glo "is_size", .glo "is_router_pair", .glo "is_row_of_unlike_pairs", .glo "replaced", .glo "refuse_wrong_flood", .glo "both_ways", .glo "is_flood_deed", .glo "behind", .glo "number_after", .glo "with_entry", .glo "with_greater", .glo "first_book", .glo "_law_pool", .glo "_law_mixed", .glo "_law_draw", .glo "_law_shuffled", .glo "_law_links", .glo "_law_pairs", .glo "_law_is_integer", .glo "_law_no_size", .glo "_law_no_link", .glo "_law_no_row", .glo "_law_told", .glo "_law_over"] : List He.Fa) ++ ([.glo "_law_no_router", .glo "_law_empty", .glo "_law_let", .glo "law", .free "isinstance", .free "len", .free "tuple", .free "list", .free "int", .free "bool", .free "str", .free "all", .free "set", .free "enumerate", .free "range", .free "abs", .free "min", .free "repr", .free "sorted", .free "dict", .int "MOST_ROUTERS" 8, .int "LEAST_SIZE" 1, .int "MOST_CONTENT" 99, .glo "Flood", .cls "Flood", .mkr "Flood", .meth "Flood" "do", .meth "Flood" "book", .meth "Flood" "content", .meth "Flood" "is_calm"] : List He.Fa) ++ ([.meth "Flood" "rounds", .meth "Flood" "_go", .noat "Flood" "_size", .noat "Flood" "_arrows", .noat "Flood" "_state", .noat "Flood" "many", .noat "Flood" "_past", .glo "BadDeed", .glo "NoRouter", .glo "BadFlood", .glo "WishError", .exm "BadDeed" "BadDeed" true, .exm "NoRouter" "NoRouter" true, .exm "BadFlood" "BadFlood" true, .noat "NoRouter" "router", .noat "BadFlood" "part", .meth "NoRouter" "__init__", .meth "BadFlood" "__init__"] : List He.Fa)
def eb (K : PySem.W.Frag) : Bool := errB K (He.ga K "BadDeed") && (exB K (He.ga K "NoRouter") && (exB K (He.ga K "BadFlood") && (ekbB K (He.ga K "BadFlood") (He.ga K "WishError") (He.ga K "BadDeed") (He.ga K "NoRouter") && eknB K (He.ga K "NoRouter") (He.ga K "WishError") (He.ga K "BadFlood"))))
abbrev R : PySem.W.OpenRow := PySem.W.OpenLaw.row PySem.Challenge.rw_wishreels_k64_floods_and_errors
abbrev hk : PySem.W.Hook := hookX 4 fa fn eb
def ob (s : PySem.W.SharedT) : AlX := obsX 4 fa fn eb (HandSHeadRun.getT s)
theorem ob_eq (s : PySem.W.SharedT) : ob s = hk.obs s.abs := obsX_eq (HandSHeadRun.getT_eq s)
def loose0 : List Str := ["_wall", "__name__", "WishError", "NoRouter", "BadFlood", "BadDeed", "MOST_ROUTERS", "is_integer", "is_between", "is_row", "is_tuple_of", "is_router", "refuse_no_router", "is_size", "is_router_pair", "is_row_of_unlike_pairs", "replaced", "LEAST_SIZE", "MOST_CONTENT", "Flood", "refuse_wrong_flood", "both_ways", "is_flood_deed", "behind", "number_after", "with_entry", "with_greater", "first_book", "_law_pool", "_law_mixed"]
def loose1 : List Str := ["_law_draw", "_law_shuffled", "_law_links", "_law_pairs", "_law_is_integer", "_law_no_size", "_law_no_link", "_law_no_row", "_law_told", "_law_over", "_law_no_router", "_law_empty", "_law_let"]
def loose : List Str := loose0 ++ loose1
theorem run (w : World) : HandSHeadRun.RunEq R (PySem.W.view R.prog [46]) hk ob 7000 loose w := by
  intro os
  kernel_rfl
end Wk

set_option Elab.async false
set_option linter.all false
set_option maxRecDepth 100000
set_option maxHeartbeats 4000000
namespace Wk
open PySem PySem.Spec PyProof.Rows L2 Evl
theorem facts {P : Program} {w : World} {K : PySem.W.Frag} {h : Heap} {mg : Str → Option Value} {f : Addr} (X : K.In h) (G : h.Ns mainGlobals mg) (hfa : mg ("law" : Str) = some (.ref f)) (c : He.SaysD fa fn K) (cx : eb K = true) :
    ∃ fd : FuncData, (∀ (t : Shared) (u : Value), BindsTo t fd ⟨[u], []⟩ [("_law_script", u)]) ∧ ∀ base : Heap, K.In base → base.Ns mainGlobals mg → FnG P w K mg base 10 f fd ["_law_script"] (spLaw K) := by
  obtain ⟨d0, F0⟩ := c.def_ 0 (d := dG "is_integer" 8) rfl
  obtain ⟨d1, F1⟩ := c.def_ 1 (d := dG "is_between" 9) rfl
  obtain ⟨d2, F2⟩ := c.def_ 2 (d := dG "is_row" 10) rfl
  obtain ⟨d3, F3⟩ := c.def_ 3 (d := dG "is_tuple_of" 11) rfl
  obtain ⟨d4, F4⟩ := c.def_ 4 (d := dG "is_router" 12) rfl
  obtain ⟨d5, F5⟩ := c.def_ 5 (d := dG "refuse_no_router" 13) rfl
  obtain ⟨d6, F6⟩ := c.def_ 6 (d := dG "is_size" 14) rfl
  obtain ⟨d7, F7⟩ := c.def_ 7 (d := dG "is_router_pair" 15) rfl
  obtain ⟨d8, F8⟩ := c.def_ 8 (d := dG "is_row_of_unlike_pairs" 16) rfl
  obtain ⟨d9, F9⟩ := c.def_ 9 (d := dG "replaced" 17) rfl
  obtain ⟨d10, F10⟩ := c.def_ 10 (d := dG "refuse_wrong_flood" 22) rfl
  obtain ⟨d11, F11⟩ := c.def_ 11 (d := dG "both_ways" 23) rfl
  obtain ⟨d12, F12⟩ := c.def_ 12 (d := dG "is_flood_deed" 24) rfl
  obtain ⟨d13, F13⟩ := c.def_ 13 (d := dG "behind" 25) rfl
  obtain ⟨d14, F14⟩ := c.def_ 14 (d := dG "number_after" 26) rfl
  obtain ⟨d15, F15⟩ := c.def_ 15 (d := dG "with_entry" 27) rfl
  obtain ⟨d16, F16⟩ := c.def_ 16 (d := dG "with_greater" 28) rfl
  obtain ⟨d17, F17⟩ := c.def_ 17 (d := dG "first_book" 29) rfl
  obtain ⟨d18, F18⟩ := c.def_ 18 (d := dG "_law_pool" 31) rfl
  obtain ⟨d19, F19⟩ := c.def_ 19 (d := dG "_law_mixed" 32) rfl
  obtain ⟨d20, F20⟩ := c.def_ 20 (d := dG "_law_draw" 33) rfl
  obtain ⟨d21, F21⟩ := c.def_ 21 (d := dG "_law_shuffled" 34) rfl
  obtain ⟨d22, F22⟩ := c.def_ 22 (d := dG "_law_links" 35) rfl
  obtain ⟨d23, F23⟩ := c.def_ 23 (d := dG "_law_pairs" 36) rfl
  obtain ⟨d24, F24⟩ := c.def_ 24 (d := dG "_law_is_integer" 37) rfl
  obtain ⟨d25, F25⟩ := c.def_ 25 (d := dG "_law_no_size" 38) rfl
  obtain ⟨d26, F26⟩ := c.def_ 26 (d := dG "_law_no_link" 39) rfl
  obtain ⟨d27, F27⟩ := c.def_ 27 (d := dG "_law_no_row" 40) rfl
  obtain ⟨d28, F28⟩ := c.def_ 28 (d := dG "_law_told" 41) rfl
  obtain ⟨d29, F29⟩ := c.def_ 29 (d := dG "_law_over" 42) rfl
  obtain ⟨d30, F30⟩ := c.def_ 30 (d := dG "_law_no_router" 43) rfl
  obtain ⟨d31, F31⟩ := c.def_ 31 (d := dG "_law_empty" 44) rfl
  obtain ⟨d32, F32⟩ := c.def_ 32 (d := dG "_law_let" 45) rfl
  obtain ⟨d33, F33⟩ := c.def_ 33 (d := dG "law" 46) rfl
  obtain ⟨d34, F34⟩ := c.def_ 34 (d := dM "Flood" "__init__" "Flood.__init__" 21 0) rfl
  obtain ⟨d35, F35⟩ := c.def_ 35 (d := dM "Flood" "do" "Flood.do" 21 1) rfl
  obtain ⟨d36, F36⟩ := c.def_ 36 (d := dM "Flood" "book" "Flood.book" 21 2) rfl
  obtain ⟨d37, F37⟩ := c.def_ 37 (d := dM "Flood" "content" "Flood.content" 21 3) rfl
  obtain ⟨d38, F38⟩ := c.def_ 38 (d := dM "Flood" "is_calm" "Flood.is_calm" 21 5) rfl
  obtain ⟨d39, F39⟩ := c.def_ 39 (d := dM "Flood" "rounds" "Flood.rounds" 21 6) rfl
  obtain ⟨d40, F40⟩ := c.def_ 40 (d := dM "Flood" "_go" "Flood._go" 21 7) rfl
  obtain ⟨d41, F41⟩ := c.def_ 41 (d := dM "NoRouter" "__init__" "NoRouter.__init__" 3 0) rfl
  obtain ⟨d42, F42⟩ := c.def_ 42 (d := dM "BadFlood" "__init__" "BadFlood.__init__" 4 0) rfl
  have e := hfa.symm.trans (He.glo_ok X G (c.fact 33 (f := .glo "law") rfl))
  cases e
  have bL := FunD.bindsA (ps := ["_law_script"]) F33 fun _ _ _ _ _ _ us hl => match us, hl with | [_], _ => rfl
  have B : Bl mg := ⟨He.free_ok X G (c.fact 34 rfl), He.free_ok X G (c.fact 35 rfl), He.free_ok X G (c.fact 36 rfl), He.free_ok X G (c.fact 37 rfl), He.free_ok X G (c.fact 38 rfl), He.free_ok X G (c.fact 39 rfl), He.free_ok X G (c.fact 40 rfl), He.free_ok X G (c.fact 41 rfl), He.free_ok X G (c.fact 42 rfl), He.free_ok X G (c.fact 43 rfl), He.free_ok X G (c.fact 44 rfl), He.free_ok X G (c.fact 45 rfl), He.free_ok X G (c.fact 46 rfl), He.free_ok X G (c.fact 47 rfl)⟩
  have hso : mg "sorted" = none := He.free_ok X G (c.fact 48 (f := .free "sorted") rfl)
  have hdi : mg "dict" = none := He.free_ok X G (c.fact 49 (f := .free "dict") rfl)
  obtain ⟨t8, m8⟩ := He.int_ok X G (c.fact 50 (f := .int "MOST_ROUTERS" 8) rfl)
  obtain ⟨t1, m1⟩ := He.int_ok X G (c.fact 51 (f := .int "LEAST_SIZE" 1) rfl)
  obtain ⟨t9, m9⟩ := He.int_ok X G (c.fact 52 (f := .int "MOST_CONTENT" 99) rfl)
  have TX : FX K (He.ga K "Flood") := ⟨He.cls_ok (c.fact 54 (f := .cls "Flood") rfl), He.noat_ok (c.fact 62 (f := .noat "Flood" "_size") rfl), He.noat_ok (c.fact 63 (f := .noat "Flood" "_arrows") rfl), He.noat_ok (c.fact 64 (f := .noat "Flood" "_state") rfl), He.noat_ok (c.fact 65 (f := .noat "Flood" "many") rfl), He.noat_ok (c.fact 66 (f := .noat "Flood" "_past") rfl)⟩
  obtain ⟨x1, y1⟩ := He.ba cx
  obtain ⟨x2, y2⟩ := He.ba y1
  obtain ⟨x3, y3⟩ := He.ba y2
  obtain ⟨x4, x5⟩ := He.ba y3
  have TD := errB_ok (x := "BadDeed") x1 (He.glo_ok X G (c.fact 67 (f := .glo "BadDeed") rfl))
  have KB := ekbB_ok x4
  have KN := eknB_ok x5
  obtain ⟨oN, fN⟩ := exB_ok x2
  obtain ⟨oB, fB⟩ := exB_ok x3
  have nN : PySem.W.findIn K (.ref (He.ga K "NoRouter")) "router" = some none := He.noat_ok (c.fact 74 (f := .noat "NoRouter" "router") rfl)
  have nB : PySem.W.findIn K (.ref (He.ga K "BadFlood")) "part" = some none := He.noat_ok (c.fact 75 (f := .noat "BadFlood" "part") rfl)
  have iN := He.meth_ok (c.fact 76 (f := .meth "NoRouter" "__init__") rfl)
  have iB := He.meth_ok (c.fact 77 (f := .meth "BadFlood" "__init__") rfl)
  have xDD := He.exm_ok (c.fact 71 (f := .exm "BadDeed" "BadDeed" true) rfl)
  refine ⟨d33, fun t u => bL t [u] rfl, fun base _ _ => ?_⟩
  have EN : ErrF P w K mg base "NoRouter" (He.ga K "NoRouter") "router" := ⟨(He.glo_ok X G (c.fact 68 (f := .glo "NoRouter") rfl)), oN, fN, nN, He.exm_ok (c.fact 72 (f := .exm "NoRouter" "NoRouter" true) rfl), ⟨_, d41, iN.at_, beq_iff_eq.mp iN.fn, ok_xn oN nN F41, F41.bindsN fun _ _ _ _ _ _ us hl => match us, hl with | [_, _], _ => rfl⟩⟩
  have EB : ErrF P w K mg base "BadFlood" (He.ga K "BadFlood") "part" := ⟨(He.glo_ok X G (c.fact 69 (f := .glo "BadFlood") rfl)), oB, fB, nB, He.exm_ok (c.fact 73 (f := .exm "BadFlood" "BadFlood" true) rfl), ⟨_, d42, iB.at_, beq_iff_eq.mp iB.fn, ok_xb oB nB F42, F42.bindsN fun _ _ _ _ _ _ us hl => match us, hl with | [_, _], _ => rfl⟩⟩
  have C0 : Cal P w K mg base "is_integer" ["thing"] 1 spIsInt := calOf F0 (ok_isInt B F0) (He.glo_ok X G (c.fact 0 rfl)) (F0.bindsN fun _ _ _ _ _ _ us hl => match us, hl with | [_], _ => rfl)
  have C1 : Cal P w K mg base "is_between" ["least", "most", "thing"] 2 spBetween := calOf F1 (ok_between B C0 F1) (He.glo_ok X G (c.fact 1 rfl)) (F1.bindsN fun _ _ _ _ _ _ us hl => match us, hl with | [_, _, _], _ => rfl)
  have C2 : Cal P w K mg base "is_router" ["size", "thing"] 3 spRouter := calOf F4 (ok_router C1 F4) (He.glo_ok X G (c.fact 4 rfl)) (F4.bindsN fun _ _ _ _ _ _ us hl => match us, hl with | [_, _], _ => rfl)
  have C3 : Cal P w K mg base "is_row" ["thing"] 1 spIsRow2 := calOf F2 (ok_isRow2 B F2) (He.glo_ok X G (c.fact 2 rfl)) (F2.bindsN fun _ _ _ _ _ _ us hl => match us, hl with | [_], _ => rfl)
  have C4 : Cal P w K mg base "is_tuple_of" ["many", "thing"] 1 spTupOf2 := calOf F3 (ok_tupOf2 B F3) (He.glo_ok X G (c.fact 3 rfl)) (F3.bindsN fun _ _ _ _ _ _ us hl => match us, hl with | [_, _], _ => rfl)
  have C5 : Cal P w K mg base "refuse_no_router" ["size", "thing"] 4 spRNR := calOf F5 (ok_rnr C2 F5) (He.glo_ok X G (c.fact 5 rfl)) (F5.bindsN fun _ _ _ _ _ _ us hl => match us, hl with | [_, _], _ => rfl)
  have C5x : CalX P w K mg base "refuse_no_router" ["size", "thing"] 4 (spNoRt (He.ga K "NoRouter")) := ⟨⟨_, d5, ok_noRt EN C2 F5, He.glo_ok X G (c.fact 5 rfl), F5.kp, (F5.bindsN fun _ _ _ _ _ _ us hl => match us, hl with | [_, _], _ => rfl)⟩⟩
  have C6 : Cal P w K mg base "is_size" ["least", "thing"] 3 spSize := calOf F6 (ok_size m8 C1 F6) (He.glo_ok X G (c.fact 6 rfl)) (F6.bindsN fun _ _ _ _ _ _ us hl => match us, hl with | [_, _], _ => rfl)
  have C7 : Cal P w K mg base "is_router_pair" ["size", "thing"] 4 spRPair2 := calOf F7 (ok_rPair2 C4 C2 F7) (He.glo_ok X G (c.fact 7 rfl)) (F7.bindsN fun _ _ _ _ _ _ us hl => match us, hl with | [_, _], _ => rfl)
  have C8 : Cal P w K mg base "is_row_of_unlike_pairs" ["size", "thing"] 5 spUnl2 := calOf F8 (ok_unl2 B C3 C7 F8) (He.glo_ok X G (c.fact 8 rfl)) (F8.bindsN fun _ _ _ _ _ _ us hl => match us, hl with | [_, _], _ => rfl)
  have C9 : CalX P w K mg base "refuse_wrong_flood" ["size", "links"] 6 (spRWF2 (He.ga K "BadFlood")) := ⟨⟨_, d10, ok_rwf2 m1 EB C6 C8 F10, He.glo_ok X G (c.fact 10 rfl), F10.kp, (F10.bindsN fun _ _ _ _ _ _ us hl => match us, hl with | [_, _], _ => rfl)⟩⟩
  have CA : Cal P w K mg base "replaced" ["row", "place", "item"] 1 spRepl := calOf F9 (ok_repl F9) (He.glo_ok X G (c.fact 9 rfl)) (F9.bindsN fun _ _ _ _ _ _ us hl => match us, hl with | [_, _, _], _ => rfl)
  have CB : Cal P w K mg base "both_ways" ["links"] 1 spPairs2 := calOf F11 (ok_both2 B hso F11) (He.glo_ok X G (c.fact 11 rfl)) (F11.bindsN fun _ _ _ _ _ _ us hl => match us, hl with | [_], _ => rfl)
  have CC : Cal P w K mg base "is_flood_deed" ["size", "arrows", "thing"] 4 spFD := calOf F12 (ok_fd B m9 C0 C1 C2 F12) (He.glo_ok X G (c.fact 12 rfl)) (F12.bindsN fun _ _ _ _ _ _ us hl => match us, hl with | [_, _, _], _ => rfl)
  have CD : Cal P w K mg base "number_after" ["entry"] 1 spNum := calOf F14 (ok_num F14) (He.glo_ok X G (c.fact 14 rfl)) (F14.bindsN fun _ _ _ _ _ _ us hl => match us, hl with | [_], _ => rfl)
  have CE : Cal P w K mg base "with_entry" ["book", "router", "entry"] 1 spWE := calOf F15 (ok_we F15) (He.glo_ok X G (c.fact 15 rfl)) (F15.bindsN fun _ _ _ _ _ _ us hl => match us, hl with | [_, _, _], _ => rfl)
  have CG : Cal P w K mg base "with_greater" ["own", "given", "router", "content"] 2 spWG := calOf F16 (ok_wg B CD F16) (He.glo_ok X G (c.fact 16 rfl)) (F16.bindsN fun _ _ _ _ _ _ us hl => match us, hl with | [_, _, _, _], _ => rfl)
  have CI : Cal P w K mg base "first_book" ["router", "content"] 2 spFB := calOf F17 (ok_fb CD F17) (He.glo_ok X G (c.fact 17 rfl)) (F17.bindsN fun _ _ _ _ _ _ us hl => match us, hl with | [_, _], _ => rfl)
  have CH : Cal P w K mg base "behind" ["state", "deed"] 3 spBeh := calOf F13 (ok_beh CA CD CE CG CI F13) (He.glo_ok X G (c.fact 13 rfl)) (F13.bindsN fun _ _ _ _ _ _ us hl => match us, hl with | [_, _], _ => rfl)
  have MG : Msk P w K mg base (He.ga K "Flood") "_go" ["self", "deed"] 4 (spGo (He.ga K "Flood")) := ⟨⟨_, d40, He.meth_ok (c.fact 61 (f := .meth "Flood" "_go") rfl), ok_go TX CH F40, F40.bindsN fun _ _ _ _ _ _ us hl => match us, hl with | [_, _], _ => rfl⟩⟩
  have MD : MskX P w K mg base (He.ga K "Flood") "do" ["self", "deed"] 5 (spDo (He.ga K "Flood") (He.ga K "BadDeed")) := ⟨⟨_, d35, He.meth_ok (c.fact 56 (f := .meth "Flood" "do") rfl), ok_do TX TD CC MG F35, F35.bindsN fun _ _ _ _ _ _ us hl => match us, hl with | [_, _], _ => rfl⟩⟩
  have MB : Msk P w K mg base (He.ga K "Flood") "book" ["self", "router"] 5 (spBook (He.ga K "Flood")) := ⟨⟨_, d36, He.meth_ok (c.fact 57 (f := .meth "Flood" "book") rfl), ok_book TX hso C5 F36, F36.bindsN fun _ _ _ _ _ _ us hl => match us, hl with | [_, _], _ => rfl⟩⟩
  have MC : Msk P w K mg base (He.ga K "Flood") "content" ["self", "router"] 5 (spCont (He.ga K "Flood")) := ⟨⟨_, d37, He.meth_ok (c.fact 58 (f := .meth "Flood" "content") rfl), ok_cont TX C5 F37, F37.bindsN fun _ _ _ _ _ _ us hl => match us, hl with | [_, _], _ => rfl⟩⟩
  have MBx : MskX P w K mg base (He.ga K "Flood") "book" ["self", "router"] 5 (spBook2 (He.ga K "Flood") (He.ga K "NoRouter")) := ⟨⟨_, d36, He.meth_ok (c.fact 57 (f := .meth "Flood" "book") rfl), ok_book2 TX hso C5x F36, F36.bindsN fun _ _ _ _ _ _ us hl => match us, hl with | [_, _], _ => rfl⟩⟩
  have MCx : MskX P w K mg base (He.ga K "Flood") "content" ["self", "router"] 5 (spCont2 (He.ga K "Flood") (He.ga K "NoRouter")) := ⟨⟨_, d37, He.meth_ok (c.fact 58 (f := .meth "Flood" "content") rfl), ok_cont2 TX C5x F37, F37.bindsN fun _ _ _ _ _ _ us hl => match us, hl with | [_, _], _ => rfl⟩⟩
  have MM : Msk P w K mg base (He.ga K "Flood") "is_calm" ["self"] 4 (spCalm (He.ga K "Flood")) := ⟨⟨_, d38, He.meth_ok (c.fact 59 (f := .meth "Flood" "is_calm") rfl), ok_calm B TX CH F38, F38.bindsN fun _ _ _ _ _ _ us hl => match us, hl with | [_], _ => rfl⟩⟩
  have MR : Msk P w K mg base (He.ga K "Flood") "rounds" ["self"] 5 (spRou0 (He.ga K "Flood")) := ⟨⟨_, d39, He.meth_ok (c.fact 60 (f := .meth "Flood" "rounds") rfl), ok_rou0 TX MM F39, F39.bindsN fun _ _ _ _ _ _ us hl => match us, hl with | [_], _ => rfl⟩⟩
  have MI : MkF P w K mg base (He.ga K "Flood") (He.ga K "BadFlood") := ⟨He.glo_ok X G (c.fact 53 (f := .glo "Flood") rfl), ⟨_, d34, He.mkr_ok (c.fact 55 (f := .mkr "Flood") rfl), ok_init2 TX C9 CB F34, F34.bindsN fun _ _ _ _ _ _ us hl => match us, hl with | [_, _, _], _ => rfl⟩⟩
  have D0 : Cal P w K mg base "_law_pool" ["_law_script"] 1 (spPool K) := calOf F18 (ok_pool B F18) (He.glo_ok X G (c.fact 18 rfl)) (F18.bindsN fun _ _ _ _ _ _ us hl => match us, hl with | [_], _ => rfl)
  have D1 : Cal P w K mg base "_law_mixed" ["_law_cell", "_law_many"] 1 spMixed := calOf F19 (ok_mixed B F19) (He.glo_ok X G (c.fact 19 rfl)) (F19.bindsN fun _ _ _ _ _ _ us hl => match us, hl with | [_, _], _ => rfl)
  have D2 : Cal P w K mg base "_law_draw" ["_law_pool_here", "_law_limit"] 2 spDraw := calOf F20 (ok_draw B D1 F20) (He.glo_ok X G (c.fact 20 rfl)) (F20.bindsN fun _ _ _ _ _ _ us hl => match us, hl with | [_, _], _ => rfl)
  have D4 : Cal P w K mg base "_law_is_integer" ["_law_thing"] 1 spIsInt := calOf F24 (ok_lInt B F24) (He.glo_ok X G (c.fact 24 rfl)) (F24.bindsN fun _ _ _ _ _ _ us hl => match us, hl with | [_], _ => rfl)
  have D7 : Cal P w K mg base "_law_shuffled" ["_law_pool_here", "_law_items"] 3 spShuf := calOf F21 (ok_shuf B D2 F21) (He.glo_ok X G (c.fact 21 rfl)) (F21.bindsN fun _ _ _ _ _ _ us hl => match us, hl with | [_, _], _ => rfl)
  have D8 : Cal P w K mg base "_law_links" ["_law_pool_here", "_law_size"] 4 spLinksN := calOf F22 (ok_linksN B D2 D7 F22) (He.glo_ok X G (c.fact 22 rfl)) (F22.bindsN fun _ _ _ _ _ _ us hl => match us, hl with | [_, _], _ => rfl)
  have D9 : Cal P w K mg base "_law_pairs" ["_law_links_here"] 1 spPairs := calOf F23 (ok_pairs B hso F23) (He.glo_ok X G (c.fact 23 rfl)) (F23.bindsN fun _ _ _ _ _ _ us hl => match us, hl with | [_], _ => rfl)
  have DA : Cal P w K mg base "_law_no_size" ["_law_pool_here"] 3 spNoS := calOf F25 (ok_noS B D2 F25) (He.glo_ok X G (c.fact 25 rfl)) (F25.bindsN fun _ _ _ _ _ _ us hl => match us, hl with | [_], _ => rfl)
  have DB : Cal P w K mg base "_law_no_link" ["_law_pool_here", "_law_size"] 3 spNoL := calOf F26 (ok_noL B D2 F26) (He.glo_ok X G (c.fact 26 rfl)) (F26.bindsN fun _ _ _ _ _ _ us hl => match us, hl with | [_, _], _ => rfl)
  have DC : Cal P w K mg base "_law_no_row" ["_law_pool_here"] 3 spNoW := calOf F27 (ok_noW B D2 F27) (He.glo_ok X G (c.fact 27 rfl)) (F27.bindsN fun _ _ _ _ _ _ us hl => match us, hl with | [_], _ => rfl)
  have DD : Cal P w K mg base "_law_told" ["_law_size", "_law_row"] 9 spTold := calOf F28 (ok_told B MI EB KB (He.glo_ok X G (c.fact 70 (f := .glo "WishError") rfl)) (He.glo_ok X G (c.fact 67 (f := .glo "BadDeed") rfl)) (He.glo_ok X G (c.fact 68 (f := .glo "NoRouter") rfl)) F28) (He.glo_ok X G (c.fact 28 rfl)) (F28.bindsN fun _ _ _ _ _ _ us hl => match us, hl with | [_, _], _ => rfl)
  have DE : Cal P w K mg base "_law_over" ["_law_flood", "_law_word", "_law_a", "_law_b"] 6 (spOver (He.ga K "Flood")) := calOf F29 (ok_over TX TD xDD MD F29) (He.glo_ok X G (c.fact 29 rfl)) (F29.bindsN fun _ _ _ _ _ _ us hl => match us, hl with | [_, _, _, _], _ => rfl)
  have DF : CalG P w K mg base "_law_no_router" ["_law_flood", "_law_thing", "_law_book"] 6 (spNoR (He.ga K "Flood")) := ⟨⟨_, d30, ok_noR B TX EN KN (He.glo_ok X G (c.fact 70 (f := .glo "WishError") rfl)) (He.glo_ok X G (c.fact 69 (f := .glo "BadFlood") rfl)) B.repr MBx MCx F30, He.glo_ok X G (c.fact 30 rfl), F30.kp, F30.bindsN fun _ _ _ _ _ _ us hl => match us, hl with | [_, _, _], _ => rfl⟩⟩
  have DG : Cal P w K mg base "_law_empty" ["_law_flood", "_law_size", "_law_many"] 6 (spEmp (He.ga K "Flood")) := calOf F31 (ok_emp B hdi TX MB MC MM D4 F31) (He.glo_ok X G (c.fact 31 rfl)) (F31.bindsN fun _ _ _ _ _ _ us hl => match us, hl with | [_, _, _], _ => rfl)
  have DH : CalG P w K mg base "_law_let" ["_law_size", "_law_links_here", "_law_row"] 9 spLet := ⟨⟨_, d32, ok_let B TX ⟨MI, D9, DE, DG, D4, DF, MR⟩ F32, He.glo_ok X G (c.fact 32 rfl), F32.kp, F32.bindsN fun _ _ _ _ _ _ us hl => match us, hl with | [_, _, _], _ => rfl⟩⟩
  exact ok_law (CF := (He.ga K "Flood")) (CB := (He.ga K "BadFlood")) B ⟨D0, D2, D8, DA, DB, DC, DD, DH⟩ F33
end Wk
open PySem PySem.W PySem.Calls PyProof.Rows
set_option maxHeartbeats 0
theorem PySem.Challenge.cw_wishreels_k64_floods_and_errors_holds : PySem.Challenge.rw_wishreels_k64_floods_and_errors.Holds := by
  w_on; o_law
  refine HandSHeadRun.head_any (r := Wk.R) (q := view Wk.R.prog [46]) (H := Wk.hk) (ob := Wk.ob) (M := 7000) (loose := Wk.loose) (d := HandSHeadRun.topDef Wk.R.prog 46) (kwd := []) Wk.ob_eq
    (by kernel_rfl) (fun s => by kernel_rfl) Wk.run (by kernel_rfl) (by kernel_rfl) (by kernel_rfl) (by rfl) (by first | assumption | decide +kernel) (by decide +kernel) ⟨rfl, rfl, rfl, rfl, rfl, by decide +kernel⟩ ?hw ?hc
  case hw => w_witness2
  case hc =>
    refine Wk.walkG (l := PySem.Challenge.rw_wishreels_k64_floods_and_errors) (n := 63) (k := 10) (x := "_law_script") rfl (by decide) (by kernel_rfl) ⟨rfl, by decide, by decide⟩ ?_
    intro w mg fa h Y G hmg0
    obtain ⟨K, kx, c, cx⟩ := Y
    have hmg : mg ("law" : PySem.Str) = some (.ref fa) := by
      have e : (HandSHeadRun.topDef Wk.R.prog 46).name = ("law" : PySem.Str) := by kernel_rfl
      rw [← e]
      exact hmg0
    obtain ⟨fd, hb, hF⟩ := Wk.facts (P := (PySem.Challenge.rw_wishreels_k64_floods_and_errors).prog) (w := w) kx G hmg c cx
    exact ⟨K, fd, Wk.spLaw K, kx, hb, fun H a ns hl hS => ⟨a, ns, rfl, hS, hl, fun _ => rfl⟩, hF⟩

import PyProof.Rows.All
import Wide.All
import OpenK.AllK
import Wide.FinOn
import KE.KStateDown
import HandS.ForMost
import HandS.More
import HandS.WordsExc
import HandS.Defaults
import HandS.Deep
import HandS.IsInst
import HandS.Evl
import HandS.Walk
import HandS.TupSets
import HandS.TupAny
import HandS.Conv
import PyProof.P3In
import HandS.SetFor
import HandS.Strs
import KE.GoesMore
import KE.GoesEnum
import HandS.ExcInit
import HandS.ExcField
import HandS.ExcOwn
import PyProof.NeKinds
import PyProof.EqKinds
import PyProof.FactsAll.subtypes_4
import PyProof.FactsAll.dict_1
import HandS.Ends
import HandS.HeadEnd
import PyProof.ReprRoads
import PyProof.CallFns
import HandS.TryOnly
import HandS.Head0
import HandS.Head1
import HandS.Head2
import HandS.HeadHook1
import HandS.HeadHook2
import PySem.Challenge.RW_wishreels_k00_wishes_and_errors
set_option Elab.async false
set_option linter.all false
set_option maxRecDepth 100000
set_option maxHeartbeats 2000000
namespace Wk
open PySem PySem.Spec PyProof.Rows L2 Evl
/-! data that stand in a heap -/
mutual
inductive Dq (G : Hp) : V → PyData → Prop
  | non : Dq G .non .none
  | bl (b : Bool) : Dq G (.bl b) (.bool b)
  | int (i : Int) : Dq G (.int i) (.int i)
  | str (x : Str) : Dq G (.str x) (.str x)
  | lst {a : Addr} {xs : List V} {ds : List PyData} : G a = some (.lst xs) → DqA G xs ds → Dq G (.ref a) (.list ds)
  | tup {a : Addr} {xs : List V} {ds : List PyData} : G a = some (.tup xs) → DqA G xs ds → Dq G (.ref a) (.tuple ds)
  | dic {a : Addr} : G a = some (.dK []) → Dq G (.ref a) (.dict [])
inductive DqA (G : Hp) : List V → List PyData → Prop
  | nil : DqA G [] []
  | cons {v : V} {vs : List V} {d : PyData} {ds : List PyData} : Dq G v d → DqA G vs ds → DqA G (v :: vs) (d :: ds)
end
mutual
theorem Dq.mono {G H : Hp} (e : Ex G H) : ∀ {d : PyData} {v : V}, Dq G v d → Dq H v d
  | .none, _, .non => .non
  | .bool _, _, .bl b => .bl b
  | .int _, _, .int i => .int i
  | .str _, _, .str x => .str x
  | .list _, _, .lst h a => .lst (e _ _ h) (DqA.mono e a)
  | .tuple _, _, .tup h a => .tup (e _ _ h) (DqA.mono e a)
  | .dict _, _, .dic h => .dic (e _ _ h)
theorem DqA.mono {G H : Hp} (e : Ex G H) : ∀ {ds : List PyData} {vs : List V}, DqA G vs ds → DqA H vs ds
  | [], _, .nil => .nil
  | _ :: _, _, .cons h t => .cons (Dq.mono e h) (DqA.mono e t)
end
mutual
theorem Dq.dp {K : PySem.W.Frag} {G : Hp} : ∀ {d : PyData} {v : V}, d.canLay0 = true → Dq G v d → Dp K G v d
  | .none, _, _, .non => .non
  | .bool _, _, _, .bl b => .bl b
  | .int _, _, _, .int i => .int i
  | .str _, _, _, .str x => .str x
  | .list ds, _, c, .lst h a => .lst (sq_of h) (DqA.dp (by simpa [PyData.canLay0] using c) a)
  | .tuple ds, _, c, .tup h a => .tup (st_of h) (DqA.dp (by simpa [PyData.canLay0] using c) a)
  | .dict _, _, c, .dic h => by simp [PyData.canLay0] at c
theorem DqA.dp {K : PySem.W.Frag} {G : Hp} : ∀ {ds : List PyData} {vs : List V}, PyData.canLayAll0 ds = true → DqA G vs ds → DpAll K G vs ds
  | [], _, _, .nil => .nil
  | d :: ds, _, c, .cons h t => by
    have c' : d.canLay0 = true ∧ PyData.canLayAll0 ds = true := by simpa [PyData.canLayAll0] using c
    exact .cons (Dq.dp c'.1 h) (DqA.dp c'.2 t)
end
theorem DqA.length {G : Hp} : ∀ {ds : List PyData} {vs : List V}, DqA G vs ds → vs.length = ds.length
  | [], _, .nil => rfl
  | _ :: _, _, .cons _ t => congrArg Nat.succ t.length
theorem DqA.get {G : Hp} : ∀ {ds : List PyData} {vs : List V} {i : Nat} {v : V}, DqA G vs ds → vs[i]? = some v → ∃ d, ds[i]? = some d ∧ Dq G v d
  | [], _, i, v, .nil, e => by simp at e
  | d :: _, _, 0, v, .cons h t, e => ⟨d, rfl, by simp at e; subst e; exact h⟩
  | _ :: _, _, i + 1, v, .cons h t, e => by
    obtain ⟨d, e1, e2⟩ := t.get (i := i) (by simpa using e)
    exact ⟨d, by simpa using e1, e2⟩
theorem DqA.at {G : Hp} {ds : List PyData} {vs : List V} {i : Nat} {d : PyData} (h : DqA G vs ds) (e : ds[i]? = some d) : ∃ v, vs[i]? = some v ∧ Dq G v d := by
  have hl := h.length
  obtain ⟨hi, _⟩ := List.getElem?_eq_some_iff.mp e
  have hv : vs[i]? = some (vs[i]'(by omega)) := List.getElem?_eq_getElem (by omega)
  obtain ⟨d', e1, e2⟩ := h.get hv
  rw [e] at e1
  cases e1
  exact ⟨_, hv, e2⟩
theorem DqA.append {G : Hp} : ∀ {ds es : List PyData} {vs us : List V}, DqA G vs ds → DqA G us es → DqA G (vs ++ us) (ds ++ es)
  | [], _, _, _, .nil, h => h
  | _ :: _, _, _, _, .cons h t, u => .cons h (t.append u)
theorem DqA.take {G : Hp} : ∀ {ds : List PyData} {vs : List V} (n : Nat), DqA G vs ds → DqA G (vs.take n) (ds.take n)
  | [], _, n, .nil => by simp; exact .nil
  | _ :: _, _, 0, .cons h t => .nil
  | _ :: _, _, n + 1, .cons h t => .cons h (t.take n)
theorem DqA.drop {G : Hp} : ∀ {ds : List PyData} {vs : List V} (n : Nat), DqA G vs ds → DqA G (vs.drop n) (ds.drop n)
  | [], _, n, .nil => by simp; exact .nil
  | _ :: _, _, 0, .cons h t => .cons h t
  | _ :: _, _, n + 1, .cons h t => t.drop n
theorem DqA.ints {G : Hp} : ∀ (ns : List Int), DqA G (ns.map V.int) (ns.map PyData.int)
  | [] => .nil
  | n :: ns => .cons (.int n) (DqA.ints ns)
theorem DqA.int_inv {G : Hp} : ∀ {ns : List Int} {vs : List V}, DqA G vs (ns.map PyData.int) → vs = ns.map V.int
  | [], _, .nil => rfl
  | _ :: _, _, .cons (.int n) t => by
    have := DqA.int_inv t
    subst this
    rfl
/-- the name of a datum's type -/
def tyN : PyData → String
  | .none => "NoneType"
  | .bool _ => "bool"
  | .int _ => "int"
  | .str _ => "str"
  | .list _ => "list"
  | .tuple _ => "tuple"
  | .dict _ => "dict"
theorem Dq.ty {K : PySem.W.Frag} {G : Hp} {d : PyData} {v : V} (h : Dq G v d) : TyX K G v (.type (tyN d)) := by
  cases h with
  | non => exact .base .non
  | bl b => exact .base (.bl b)
  | int i => exact .base (.int i)
  | str x => exact .base (.str x)
  | lst h _ => exact .base (.lst h)
  | tup h _ => exact .base (.tup h)
  | dic h => exact .base (.dK h)
/-- a call's callee: the def that a global name holds -/
structure Cal (P : Program) (w : World) (K : PySem.W.Frag) (mg : Str → Option Value) (base : Heap) (x : Str) (ps : List Str) (k : Nat) (sp : Sp) : Prop where
  ex : ∃ (f : Addr) (fd : FuncData), FnOk P w K mg base CX0 k f fd ps sp ∧ mg x = some (.ref f) ∧ PySem.W.keepIn K (.ref f) = true ∧ Binds K fd ps []
section
variable {X : Cx}
theorem pe_cal {x : Str} {p pos : Pos} {e : Expr} {es : List Expr} {ps : List Str} {k j : Nat} {sp : Sp} {t : TA} (C : Cal X.prog X.w X.K X.mg X.base x ps k sp) (hr : Room j X.A) (hg : Gl X x) (ha : PA X (e :: es) t) (hk : k ≤ j := by decide)
    (hdb : (x == ("__debug__" : Str)) = false := by decide) (he : starEach (e :: es) X.env = (false, eval e X.env) :: starEach es X.env := by rfl) (hpl : (backTo pos (starEach es X.env)).any (·.1) = false := by rfl) :
    PE X (.Call (.Name x p) (e :: es) [] pos) (tCall sp [] E0 t) := by
  obtain ⟨f, fd, F, g, kp, b⟩ := C.ex
  exact pe_call F (hr.mono hk) hg g kp b .nil pass0 ha hdb he hpl
end
section
variable {K : PySem.W.Frag} {σ : L2.St} {H : Hp} {ta tb tc te : TE}
/-- isinstance(x, T), T a built-in type -/
theorem ev_isi {v : V} {d : PyData} {n : String} {b : Bool} (h : Ev ta σ H v) (hd : Dq H v d) (hk : kitB (tyN d) n = some b) : Ev (tCB (rIsi K) (tCons ta (tCons (tC (.ty n)) tNil))) σ H (.bl b) := fun H1 e Q q =>
  h H1 e _ fun H2 e2 => ⟨v, .ty n, .type (tyN d), .type n, b, rfl, .ty n, (hd.mono (e.trans e2)).ty, kit_ty hk, q H2 e2⟩
/-- a <= b <= c of ints -/
theorem ev_chain {i j k : Int} {r r' : R2} {b1 b2 : Bool} (ha : Ev ta σ H (.int i)) (hb : Ev tb σ H (.int j)) (hc : Ev tc σ H (.int k)) (h1 : RV r (.int i) (.int j) H (.bl b1)) (h2 : RV r' (.int j) (.int k) H (.bl b2)) :
    Ev (tChain r r' ta tb tc) σ H (.bl (b1 && b2)) := fun H1 e Q q =>
  ha H1 e _ fun H2 e2 => hb H2 (e.trans e2) _ fun H3 e3 => h1 H3 ((e.trans e2).trans e3) _ fun H4 e4 => ⟨b1, rfl, by
    cases b1 with
    | false => exact q H4 ((e2.trans e3).trans e4)
    | true => exact hc H4 (((e.trans e2).trans e3).trans e4) _ fun H5 e5 => h2 H5 ((((e.trans e2).trans e3).trans e4).trans e5) _ fun H6 e6 => q H6 ((((e2.trans e3).trans e4).trans e5).trans e6)⟩
end
end Wk

set_option Elab.async false
set_option linter.all false
set_option maxRecDepth 100000
set_option maxHeartbeats 4000000
namespace Wk
open PySem PySem.Spec PyProof.Rows L2 Evl
/-! how many are unlike -/
theorem nd_le {α : Type} [DecidableEq α] : ∀ (l D : List α), l.Nodup → (∀ x ∈ l, x ∈ D) → l.length ≤ D.length
  | [], _, _, _ => Nat.zero_le _
  | x :: l, D, hn, hs => by
    have hn' := List.nodup_cons.mp hn
    have hx : x ∈ D := hs x List.mem_cons_self
    have ih := nd_le l (D.erase x) hn'.2 fun y hy => (List.mem_erase_of_ne (fun (e : y = x) => hn'.1 (by rw [← e]; exact hy))).2 (hs y (List.mem_cons_of_mem _ hy))
    have e := List.length_erase_of_mem hx
    have hp : 0 < D.length := List.length_pos_of_mem hx
    simp only [List.length_cons]
    omega
theorem dup_less {α : Type} [DecidableEq α] : ∀ (D : List α), ¬ D.Nodup → ∃ D' : List α, (∀ x ∈ D, x ∈ D') ∧ D'.length < D.length
  | [], h => absurd List.nodup_nil h
  | x :: D, h => by
    by_cases hx : x ∈ D
    · exact ⟨D, fun y hy => (List.mem_cons.mp hy).elim (fun e => by rw [e]; exact hx) id, Nat.lt_succ_self _⟩
    · have hD : ¬ D.Nodup := fun z => h (List.nodup_cons.mpr ⟨hx, z⟩)
      obtain ⟨D', h1, h2⟩ := dup_less D hD
      exact ⟨x :: D', fun y hy => (List.mem_cons.mp hy).elim (fun e => by rw [e]; exact List.mem_cons_self) (fun e => List.mem_cons_of_mem _ (h1 y e)), Nat.succ_lt_succ h2⟩
theorem nd_iff {α : Type} [DecidableEq α] {l D : List α} (hn : l.Nodup) (h : ∀ x, x ∈ l ↔ x ∈ D) : l.length = D.length ↔ D.Nodup := by
  constructor
  · intro e
    apply Classical.byContradiction
    intro hD
    obtain ⟨D', h1, h2⟩ := dup_less D hD
    have := nd_le l D' hn fun x hx => h1 x ((h x).mp hx)
    omega
  · intro hD
    have h1 := nd_le l D hn fun x hx => (h x).mp hx
    have h2 := nd_le D l hD fun x hx => (h x).mpr hx
    omega
section
variable {X : Cx}
/-- len(set(t)), t a tuple of ints -/
def tLenSU (K : PySem.W.Frag) (ta : TE) : TE := fun σ H Q => ta σ H fun x H1 => ∃ (l : Addr) (ns : List Int), x = V.ref l ∧ SqT K H1 l (ns.map V.int) ∧ ns.length < 64 ∧ ∀ n : Nat, (n = ns.length ↔ ns.Nodup) → Q (.int n) H1
theorem pe_lenSU {a : Expr} {ta : TE} {p p2 q pos : Pos} (hc : X.calm = true) (hg : Gl X "len") (hm : X.mg "len" = none) (hg2 : Gl X "set") (hm2 : X.mg "set" = none) (ha : PE X a ta)
    (na : starEach [a] X.env = (false, eval a X.env) :: starEach [] X.env := by rfl) : PE X (.Call (.Name "len" p) [.Call (.Name "set" p2) [a] [] q] [] pos) (tLenSU X.K ta) := by
  refine ⟨fun pins s σ H Q I h => ?_⟩
  refine Call_ (ld_blt I hg hm PySem.boot_len ?_)
  refine PyProof.Rows.callWith_builtin1 (PyProof.Rows.args_cons ?_ rfl) rfl rfl
  refine Call_ (ld_blt I hg2 hm2 PyProof.Rows.boot_set ?_)
  refine PyProof.Rows.callWith_type1 (PyProof.Rows.args_cons (thn (ha.run pins s σ H _ I h) fun v s1 hh => PyProof.Rows.args_nil ?_) na) na rfl
  obtain ⟨x, H1, I1, r1, l, ns, rfl, hq, hlt, q1⟩ := hh
  cases r1
  obtain ⟨its, r, pl, hz⟩ := I1.tuple hq
  refine call_set_tupI (w := X.w) ns (I1.ok.hd hc) pl (by simpa using r.ints) (by unfold scanBound; omega) fun h' tk c hS hc2 hk => ?_
  refine PyProof.Rows.args_nil ?_
  obtain ⟨o, es, ep, t, ho, hex, hd, _, hnd, hiff, _, hf, hn, _⟩ := hS
  have I2 : Inv X pins σ H1 { s1 with heap := h', toks := tk } := I1.kept fun b o e => hk b o e
  refine call_len_set ho hex hd hf (by rw [hn] <;> omega) ⟨.int es.size, H1, I2.tok _, ⟨_, rfl⟩, q1 es.size ?_⟩
  have hl : (es.toList.map keyOf).length = es.size := by simp
  rw [← hl]
  exact nd_iff hnd fun k => by
    have := hiff k
    simp only [decide_eq_true_eq] at this
    exact this.symm
end
/-- the set that set() lays -/
abbrev sO (w : World) : Obj := { cls := .type "set", dict := none, data := .set #[] 0 (.fresh 0 0 (!w.params.followText "set-order")) }
section
variable {P : Program} {w : World} {A : Around} {E : Value → Shared → Prop} {s : Shared}
/-- set(t), t a tuple of tuples of ints -/
theorem set_of_tup2 {l : Addr} {its : Array Value} (ks : List (Addr × List Int)) {Q : Value → Shared → Prop} (nh : A.handled = none) (tl : s.heap.IsTuple l its) (eq : its.toList = ks.map fun p => Value.ref p.1)
    (ki : ∀ p ∈ ks, IsT P w s.heap p.2 p.1) (few : ks.length < 64) (un : A.units + 3 < cLine)
    (fin : ∀ (h' : Heap) (tk : Nat) L es ep t, SetTR P w h' s.heap.objs.size L es ep t → Got ks ks.length L → (∀ b o, s.heap.get? b = some o → h'.get? b = some o) → Q (.ref s.heap.objs.size) { s with heap := h', toks := tk }) :
    wpAny (model P w) A (call (.type "set") [.ref l]) Q E s := by
  have size : its.size = ks.length := by have q := congrArg List.length eq; simpa using q
  obtain ⟨c, rest, mro⟩ := F.called_set.mro
  have made := F.called_set.made; have sub := F.called_set.sub
  refine wpAny_call (codeAny_of_tree (show wpAny _ _ (callAny (.type "set") _) _ _ _ from ?_))
  refine wpAny_pure ⟨Code.quiet_builtin _ (by decide +kernel), codeAny_builtin F.entry_type_call (by
    rw [Around.under_plain (weight_type_call_type "set" [.ref l] []) rfl]
    have nt := F.called_set.notType; have cc := F.called_set.canCreate; have tc := F.typeCall_set_1 (.ref l)
    repeat (any_goals (first | assumption | wp_step))
    refine codeAny_mono (code_set_led1 (.ref l) (E := E) (Q₁ := fun ob s1 => ob = .ref s.heap.objs.size ∧ s1 = { s with heap := s.heap.push (sO w) }) ⟨rfl, rfl⟩) fun r s1 hr => ?_
    cases r with
    | error e => exact hr
    | ok fl =>
      cases fl with
      | ret ob =>
        obtain ⟨rfl, rfl⟩ := hr
        have hS : (s.heap.push (sO w)).get? s.heap.objs.size = some (sO w) := Heap.get?_push_size _ rfl
        have hT : Shared.TypeIs { s with heap := s.heap.push (sO w) } (.ref s.heap.objs.size) "set" := ⟨_, hS, rfl⟩
        have li := F.called_set.init.lookup; have bi := F.called_set.init.bind (.ref s.heap.objs.size)
        repeat (any_goals (first | assumption | wp_step))
        refine codeAny_mono (codeAny_call_builtin (R := wants (fun r s2 => r = .none ∧ ∃ h' tk L es ep t, s2 = { s with heap := h', toks := tk } ∧ SetTR P w h' s.heap.objs.size L es ep t ∧ Got ks ks.length L ∧ (∀ b o, s.heap.get? b = some o → h'.get? b = some o)) E)
          F.called_set.init.plain F.entry_set_init (check_set_init_1 hT ?_)) fun r2 s2 hr2 => ?_
        · obtain ⟨⟨oc, od, dt, sl⟩, ol, cl, n, dl⟩ := tl
          simp only at cl dl; subst cl; subst dl
          have ol1 : (s.heap.push (sO w)).get? l = some { cls := .type "tuple", dict := od, data := .seq its n, slots := sl } := Heap.get?_push_of_some _ ol
          have b1 := F.sub_tuple_set; have b2 := F.sub_tuple_frozenset
          have b3 : (Value.type "tuple" == Value.type "dict") = false := by decide
          have tl1 : (s.heap.push (sO w)).IsTuple l its := ⟨_, ol1, rfl, n, rfl⟩
          unfold Builtin.«set.__init__» noKeywords Builtin.Frozenset.updateFrom
          generalize hPI : pyIter = PI
          wp_walk
          subst hPI
          refine wpAny_pyIter_tuple tl1 (wpAny_bind (wpAny_runValue ?_))
          have lt : l < s.heap.objs.size := Heap.lt_size ol
          have nh3 : A.in1.in1.in1.handled = none := by simp [nh]
          have ne1 : l ≠ (s.heap.push (sO w)).objs.size := by rw [Heap.size_push]; exact Nat.ne_of_lt (Nat.lt_succ_of_lt lt)
          have nin : s.heap.objs.size ∉ [(s.heap.push (sO w)).objs.size, l] := by
            rw [Heap.size_push]
            intro z
            rcases List.mem_cons.mp z with z | z
            · exact absurd z (Nat.ne_of_lt (Nat.lt_succ_self _))
            · exact absurd (List.mem_singleton.mp z) (Nat.ne_of_gt lt)
          have val : ∀ (i : Nat) (v : Value), its[i]? = some v → ∃ p, ks[i]? = some p ∧ v = .ref p.1 := fun i v hv => by
            have q : its.toList[i]? = some v := (Array.getElem?_toList ..).trans hv
            rw [eq, List.getElem?_map] at q
            cases hq : ks[i]? with
            | none => rw [hq] at q; cases q
            | some p => rw [hq] at q; exact ⟨p, rfl, (Option.some.inj q).symm⟩
          have out : ∀ b, s.heap.objs.size ≤ b → s.heap.get? b = none := fun b hb => by
            cases q : s.heap.get? b with
            | none => rfl
            | some o => exact absurd (Nat.lt_of_lt_of_le (Heap.lt_size q) hb) (Nat.lt_irrefl _)
          refine set_update_tups ((Walks.tuple nh3 _ l ne1 its).toS) s.heap.objs.size nin ks size few val s.heap ki (out _ (Nat.le_refl _)) (fun b hb => out b (by rw [List.mem_singleton.mp hb, Heap.size_push]; exact Nat.le_succ _)) un (its.size - 0) 0 _ (by omega) (Nat.zero_le _)
            ⟨⟨_, Heap.get?_push_size _ rfl, rfl, rfl⟩, (tl1.push _)⟩ (fun b o e => Heap.get?_push_of_some _ (Heap.get?_push_of_some _ e)) ⟨[], #[], 0, _, setTR_fresh (Heap.get?_push_of_some _ hS), Got.zero ks⟩ ?_
          intro s' L es ep t hm hS' g' kp
          obtain ⟨h', g2, d', tk', os'⟩ := s'
          have eg : g2 = s.gens := hm.gens
          have ed : d' = s.drawn := hm.drawn
          have eo : os' = s.os := hm.os
          subst eg; subst ed; subst eo
          show wpAny _ _ _ _ _ _
          refine wpAny_pure (show wpAny _ _ (ret Value.none) _ _ _ from ?_)
          rw [size] at g'
          exact wpAny_pure ⟨rfl, h', tk', L, es, ep, t, rfl, hS', g', kp⟩
        · cases r2 with
          | error e => exact hr2
          | ok fl2 =>
            cases fl2 with
            | ret r =>
              obtain ⟨rfl, h', tk, L, es, ep, t, rfl, hS', g', k'⟩ := hr2
              repeat (any_goals (first | assumption | wp_step))
              exact fin _ _ _ _ _ _ hS' g' k'
            | _ => exact hr2.elim
      | _ => exact hr.elim)⟩
end
section
variable {X : Cx}
/-- len(set(t)), t a tuple of tuples of ints -/
def tLenSUU (K : PySem.W.Frag) (ta : TE) : TE := fun σ H Q => ta σ H fun x H1 => ∃ (l : Addr) (ks : List (Addr × List Int)), x = V.ref l ∧ SqT K H1 l (ks.map fun p => V.ref p.1) ∧ (∀ p ∈ ks, SqT K H1 p.1 (p.2.map V.int)) ∧ ks.length < 64 ∧
  ∀ n : Nat, (n = ks.length ↔ (ks.map (·.2)).Nodup) → Q (.int n) H1
theorem pe_lenSUU {a : Expr} {ta : TE} {p p2 q pos : Pos} (hc : X.calm = true) (hu : X.A.units + 64 < cLine) (hg : Gl X "len") (hm : X.mg "len" = none) (hg2 : Gl X "set") (hm2 : X.mg "set" = none) (ha : PE X a ta)
    (na : starEach [a] X.env = (false, eval a X.env) :: starEach [] X.env := by rfl) : PE X (.Call (.Name "len" p) [.Call (.Name "set" p2) [a] [] q] [] pos) (tLenSUU X.K ta) := by
  refine ⟨fun pins s σ H Q I h => Call_ (ld_blt I hg hm PySem.boot_len (PyProof.Rows.callWith_builtin1 (PyProof.Rows.args_cons (Call_ (ld_blt I hg2 hm2 PyProof.Rows.boot_set ?_)) rfl) rfl rfl))⟩
  refine PyProof.Rows.callWith_type1 (PyProof.Rows.args_cons (thn (ha.run pins s σ H _ I h) fun v s1 hh => PyProof.Rows.args_nil ?_) na) na rfl
  obtain ⟨x, H1, I1, r1, l, ks, rfl, hq, hk, few, q1⟩ := hh
  cases r1
  obtain ⟨its, r, pl, hz⟩ := I1.tuple hq
  refine set_of_tup2 (P := X.prog) (w := X.w) ks (I1.ok.hd hc) pl (by simpa using refs_of_vals r) (fun p hp => I1.isT (hk p hp)) few (by omega) fun h' tk L es ep t R g k => PyProof.Rows.args_nil ?_
  have I2 : Inv X pins σ H1 { s1 with heap := h', toks := tk } := I1.kept fun b o e => k b o e
  have hes : es.size = L.length := R.size (s := { s1 with heap := h', toks := tk })
  have hf := R.fits (s := { s1 with heap := h', toks := tk })
  obtain ⟨o, ho, hex, hd⟩ := R.ob
  refine call_len_set (s := { s1 with heap := h', toks := tk }) ho hex hd hf (by have := R.few; omega) ⟨.int es.size, H1, I2.tok _, ⟨_, rfl⟩, q1 es.size ?_⟩
  have e1 : (L.map (·.2)).length = es.size := by simp [hes]
  have e2 : (ks.map (·.2)).length = ks.length := by simp
  rw [← e1, ← e2]
  refine nd_iff R.nd fun k => ⟨fun z => ?_, fun z => ?_⟩
  · obtain ⟨p, hp, rfl⟩ := List.mem_map.mp z
    exact List.mem_map.mpr ⟨p, List.mem_of_mem_take (g.sub p hp), rfl⟩
  · obtain ⟨p, hp, rfl⟩ := List.mem_map.mp z
    exact g.all p (by rw [List.take_length]; exact hp)
end
end Wk

set_option Elab.async false
set_option linter.all false
set_option maxRecDepth 100000
set_option maxHeartbeats 4000000
namespace Wk
open PySem PySem.Spec PyProof.Rows L2 Evl
/-- the walk of a tuple's iterator under an enumerate -/
abbrev itO (l : Addr) : Obj := { cls := .type "tuple_iterator", data := .fields #[.ref l, .int 0 0] }
abbrev enO (it : Addr) : Obj := { cls := .type "enumerate", data := .fields #[.none, .bool false, .ref it, rawInt 0, .none, .none] }
theorem enumNewT (l : Addr) (its : Array Value) (n : Nat) (od : Option Addr) (sl : Array (Option Value)) :
    Meets (Builtin.«enumerate.__new__» ⟨[.type "enumerate", .ref l], []⟩) (fun _ R s => s.heap.get? l = some { cls := .type "tuple", dict := od, data := .seq its n, slots := sl } ∧
      R (.ok (.ret (.ref (s.heap.push (itO l)).objs.size))) { s with heap := (s.heap.push (itO l)).push (enO s.heap.objs.size) }) :=
  .of_wp fun prog w A R s h => by
    obtain ⟨hp, g, d, tk, os⟩ := s; obtain ⟨hl, h⟩ := h
    have su := sub_enumerate
    have tl : Heap.IsTuple (Shared.heap ⟨hp, g, d, tk, os⟩) l its := ⟨_, hl, rfl, n, rfl⟩
    wp_walk using wpAny_loadPart' hl
    refine wpAny_stack_any fun st => wpAny_pure ?_
    split
    · rename_i c _ _ _ _ _
      cases (c == Value.type "enumerate") <;> (wp_walk using wpAny_loadPart' hl, wpAny_pyIter_tuple tl; exact ⟨_, rfl, h⟩)
    · wp_walk using wpAny_loadPart' hl, wpAny_pyIter_tuple tl
      exact ⟨_, rfl, h⟩
section
variable {prog : Program} {w : World} {A : Around} {E : Value → Shared → Prop} {s : Shared}
theorem enumT_call {l : Addr} {its : Array Value} {Q : Value → Shared → Prop} (tl : s.heap.IsTuple l its)
    (h : ∀ h', IsEnum h' (s.heap.objs.size + 1) s.heap.objs.size 0 .none → h'.IsTupleIter s.heap.objs.size l 0 → h'.objs.size = s.heap.objs.size + 2 → (∀ b o, s.heap.get? b = some o → h'.get? b = some o) → Q (.ref (s.heap.objs.size + 1)) { s with heap := h' }) :
    wpAny (model prog w) A (call (.type "enumerate") [.ref l]) Q E s := by
  obtain ⟨⟨c, od, dt, sl⟩, hl, hc, n, hd⟩ := tl
  replace hc : c = .type "tuple" := hc
  replace hd : dt = .seq its n := hd
  subst hc hd
  refine callType_new F.called_enumerate (by decide) (F.typeCall_enumerate_1 _) (F.newCall_enumerate_1 _) (fun ob => F.args_object_init_2 ob _) F.entry_enumerate_new (enumNewT l its n od sl) ⟨hl, ?_⟩
  have hz : (s.heap.push (itO l)).objs.size = s.heap.objs.size + 1 := Heap.size_push ..
  show _ ∧ _
  rw [hz]
  have he : IsEnum ((s.heap.push (itO l)).push (enO s.heap.objs.size)) (s.heap.objs.size + 1) s.heap.objs.size 0 .none := by
    have q := Heap.get?_push_size (s.heap.push (itO l)) (o := enO s.heap.objs.size) rfl
    rw [hz] at q; exact q
  exact ⟨⟨_, he, rfl⟩, h _ he ⟨_, Heap.get?_push_of_some _ (Heap.get?_push_size _ rfl), rfl, rfl⟩ (by rw [Heap.size_push, hz]) fun b o x => Heap.get?_push_of_some _ (Heap.get?_push_of_some _ x)⟩
end
/-- the tuple at a, each item in a new pair with its place -/
def IteT (K : PySem.W.Frag) (a : Addr) : It :=
  ⟨fun i H => ∃ (xs : List V) (x : V), SqT K H a xs ∧ xs[i]? = some x, fun i H v H' => ∃ T x, v = .ref T ∧ H T = none ∧ H' = upd H T (.tup [.int (i : Nat), x]) ∧ ∀ xs, SqT K H a xs → xs[i]? = some x, fun i H => ∃ xs : List V, SqT K H a xs ∧ xs.length = i⟩
theorem turn_enumT {P : Program} {w : World} {K : PySem.W.Frag} {elts : List Expr} {kk : Nat} {tpos : Pos} (a e it : Addr) :
    Turn P w K (.Tuple elts kk tpos) (IteT K a) [e, it] e (fun i h => (∃ old, IsEnum h e it ((i : Nat) : Int) old) ∧ h.IsTupleIter it a i ∧ e ≠ it) where
  mem := List.mem_cons_self
  obj := fun i h st b hb => by
    obtain ⟨⟨old, he⟩, ⟨o, ho, hc, hd⟩, _⟩ := st
    rcases List.mem_cons.mp hb with z | z
    · rw [z]; exact ⟨_, he, fun v q => nomatch q⟩
    · rw [List.mem_singleton.mp z]; exact ⟨o, ho, fun v q => by rw [hd] at q; cases q⟩
  keep := fun i h h' st k => by
    obtain ⟨⟨old, he⟩, ⟨o, ho, r⟩, hne⟩ := st
    exact ⟨⟨old, k e (by simp) _ he⟩, ⟨o, k it (by simp) o ho, r⟩, hne⟩
  item := by
    intro X hP hw hK hc i pins s σ H E I hf st hg
    subst hP hw hK
    obtain ⟨⟨old, he⟩, hit, hne⟩ := st
    obtain ⟨xs, x, hq, hx⟩ := hg
    obtain ⟨its, rv, p, hz⟩ := I.tuple hq
    obtain ⟨u, hu, ru⟩ := rv.get hx
    have el : e < s.heap.objs.size := Heap.lt_size he
    have il : it < s.heap.objs.size := by obtain ⟨_, q, _⟩ := hit; exact Heap.lt_size q
    have nai : a ≠ it := fun z => by
      obtain ⟨o, ho, oc, _⟩ := p
      obtain ⟨o2, ho2, oc2, _⟩ := hit
      rw [z, ho2] at ho
      cases ho
      rw [oc2] at oc
      injection oc with q
      exact absurd q (by decide)
    have nae : e ≠ a := fun z => by
      obtain ⟨o, ho, oc, _⟩ := p
      have he2 := he
      unfold IsEnum at he2
      rw [z, ho] at he2
      cases he2
      injection oc with q
      exact absurd q (by decide)
    have hi : i < its.toArray.size := by
      have q := (List.getElem?_eq_some_iff.mp hu).1
      simpa using q
    refine wpAny_pyNext_enum_itemD (Draws.tuple (by simpa using I.ok.hd hc) it a nai its.toArray) he ⟨hit, p⟩ hi hne (by simp [hne, nae]) fun y h' tk hy ho hst hT hsz hk => ?_
    have ey : y = u := by
      have q : its.toArray[i]? = some y := hy
      rw [List.getElem?_toArray, hu] at q
      exact (Option.some.inj q).symm
    subst ey
    refine ⟨_, rfl, wpAny_letOwnedTupleGo_enum (s := { s with heap := h', toks := tk + 1 }) ho fun h2 he' sb => ?_⟩
    have hT2 : h2.get? s.heap.objs.size = some { cls := .type "tuple", data := .seq #[.int i tk, y] } := (sb.2 _ (Nat.ne_of_gt el)).trans hT
    have nw : ObjOk X.prog X.w (upd H s.heap.objs.size (.tup [.int (i : Nat), x])) h2 s.heap.objs.size (.tup [.int (i : Nat), x]) := ⟨by show 2 ≤ sizeLine; decide, [.int i tk, y], .cons ⟨_, rfl⟩ (.cons ru .nil), ⟨_, hT2, rfl, _, rfl⟩⟩
    have I1 : Inv X pins σ (upd H s.heap.objs.size (.tup [.int (i : Nat), x])) { s with heap := h2, toks := tk + 1 } := I.turnedNew (ch := [e, it]) (fun b ob hb q => by
        have b1 : b ≠ e := fun z => hb (by simp [z])
        have b2 : b ≠ it := fun z => hb (by simp [z])
        exact (sb.2 b b1).trans (hk b ob b1 b2 q)) hf (Nat.le_refl _) nw
    refine ⟨.ref s.heap.objs.size, _, I1, rfl, ⟨_, x, rfl, I.hok.fresh (Nat.le_refl _), rfl, fun ys hy => by rw [I.tuple_inj hy hq]; exact hx⟩, ⟨⟨y, ?_⟩, ?_, hne⟩, fun b hb => ?_⟩
    · rw [show ((i + 1 : Nat) : Int) = (i : Int) + 1 by omega]; exact he'
    · obtain ⟨o, ho2, r2⟩ := hst.1
      exact ⟨o, (sb.2 it (Ne.symm hne)).trans ho2, r2⟩
    · have hb2 : b < s.heap.objs.size := by
        rcases List.mem_cons.mp hb with z | z
        · rw [z]; exact el
        · rw [List.mem_singleton.mp z]; exact il
      rw [upd_ne (Nat.ne_of_lt hb2)]
      exact (hf b hb).1
  done := by
    intro X hP hw hK hc i pins s σ H E I hf st hg
    subst hP hw hK
    obtain ⟨⟨old, he⟩, hit, hne⟩ := st
    obtain ⟨xs, hq, hx⟩ := hg
    obtain ⟨its, rv, p, hz⟩ := I.tuple hq
    obtain ⟨f0, f1, f2, f3, f4, f5⟩ := hf it (by simp)
    have hl := rv.length
    have ei : i = its.toArray.size := by simp; omega
    have nai : a ≠ it := fun z => by
      obtain ⟨o, ho, oc, _⟩ := p
      obtain ⟨o2, ho2, oc2, _⟩ := hit
      rw [z, ho2] at ho
      cases ho
      rw [oc2] at oc
      injection oc with q
      exact absurd q (by decide)
    subst ei
    exact wpAny_pyNext_enum_endD (Draws.tuple (by simpa using I.ok.hd hc) it a nai its.toArray) he ⟨hit, p⟩ fun h' eb => ⟨rfl, I.turned (t' := s.toks) (fun b o hb q => eb b o hb q) f0 f1 f3 f4 f5⟩
  self := fun A i s Q E st h => let ⟨⟨_, he⟩, _⟩ := st; wpAny_pyIter_enum he h

def iEnumT (K : PySem.W.Frag) (ta : TA) : TI := fun σ H R => ta σ H fun vs H1 => ∃ a xs, vs = [.ref a] ∧ SqT K H1 a xs ∧ R (IteT K a) H1
/-- for i, x in enumerate(t), t a tuple -/
theorem pi_enumT {X : Cx} {e : Expr} {ta : TA} {p pos tpos : Pos} {elts : List Expr} {kk : Nat} (hg : Gl X "enumerate") (hm : X.mg "enumerate" = none) (ha : PA X [e] ta) (hs : starEach [e] X.env = [(false, eval e X.env)] := by rfl) :
    PI X (.Tuple elts kk tpos) (.Call (.Name "enumerate" p) [e] [] pos) (iEnumT X.K ta) := by
  refine ⟨fun pins s σ H R I h => Call_ (ld_blt I hg hm boot_enumerate (PyProof.Rows.callWith_type1 (thn (ha.run pos pins s σ H _ I h) fun us s1 hh => ?_) hs rfl))⟩
  obtain ⟨vs, H1, I1, r1, a, xs, rfl, hq, q⟩ := hh
  cases r1 with
  | cons r rr =>
    cases rr
    cases r
    obtain ⟨its, rv, pt, hz⟩ := I1.tuple hq
    refine enumT_call pt fun h' he hit hsz hk => wpAny_pyIter_enum he ?_
    refine ⟨s1.heap.objs.size + 1, [s1.heap.objs.size + 1, s1.heap.objs.size], _, _, H1, rfl, I1.kept (t' := s1.toks) hk, turn_enumT a (s1.heap.objs.size + 1) s1.heap.objs.size, ⟨⟨.none, he⟩, hit, Nat.succ_ne_self _⟩, fun b hb => ?_, q⟩
    have hle : s1.heap.objs.size ≤ b := by
      rcases List.mem_cons.mp hb with z | z
      · rw [z]; exact Nat.le_add_right _ _
      · rw [List.mem_singleton.mp z]; exact Nat.le_refl _
    exact I1.fpOk hle (I1.hok.fresh hle)
theorem walk_enumT {K : PySem.W.Frag} {a : Addr} {xs : List V} : Walk (IteT K a) xs.length (fun H => SqT K H a xs) (YPair (fun i => some (.int (i : Nat))) (fun i => xs[i]?)) := by
  refine ⟨fun i _ hi q => ⟨xs, xs[i], q, by simp [hi]⟩, fun _ q => ⟨xs, q, rfl⟩, fun i H v H' _ q y => ?_⟩
  obtain ⟨T, x, h1, h2, h3, h4⟩ := y
  exact ⟨T, .int (i : Nat), x, h1, h2, h3, rfl, h4 xs q⟩
section
variable {K : PySem.W.Frag} {σ : L2.St} {H : Hp} {t : TT} {te : TE}
/-- [e for x in t], t a tuple -/
theorem el_lcT {a : Addr} {xs : List V} {tl : TE} {j : Nat} {vs : List Nat} (f : Nat → Bool) (v : Nat → V) (h : Ev tl σ H (.ref a)) (hx : SqT K H a xs) (hz : xs.length ≤ 40000) (hw : ∀ x, wipe ((wipe σ vs).set j (some x)) vs = wipe σ vs)
    (ht : ∀ (i : Nat) (x : V) H1, Ex H H1 → xs[i]? = some x → EvT t ((wipe σ vs).set j (some x)) H1 (f i)) (he : ∀ (i : Nat) (x : V) H1, Ex H H1 → xs[i]? = some x → f i = true → Ev te ((wipe σ vs).set j (some x)) H1 (v i)) :
    EvL (tLc (iTup K tl) (gName j) t te vs) σ H (given xs.length f v) := fun H0 e Q q => h H0 e _ fun H1 e1 => ⟨a, rfl, ⟨xs, ex_t (e.trans e1) hx⟩, fun Dl hD =>
  lc_it (walk_tup (K := K) (a := a) (xs := xs)) (Cw H1 f v Dl) ⟨hD, Ex.new hD, upd_same⟩ (fun i H' _ p => ex_t ((e.trans e1).trans p.2.1) hx)
    (fun i x H' H2 hi p y => by
      obtain ⟨rfl, hxi⟩ := y
      exact ⟨hw x, cw_turn p (by omega) (ht i x H1 (e.trans e1) hxi) (fun hf => he i x H1 (e.trans e1) hxi hf)⟩)
    (fun H' p => q Dl H' (fresh_back e1 p.1) (e1.trans p.2.1) p.2.2)⟩
theorem given_all (n : Nat) (v : Nat → V) : given n (fun _ => true) v = (List.range n).map v := by
  unfold given
  rw [List.filter_eq_self.mpr (fun _ _ => rfl)]
theorem et_yes : EvT tYes σ H true := fun H1 _ _ q => q H1 (Ex.refl H1)
/-- all([..]) of flags -/
theorem ev_allL {bs : List Bool} {ta : TE} (h : EvL ta σ H (bs.map V.bl)) : Ev (tCB (rAll K) (tCons ta tNil)) σ H (.bl (bs.all id)) := fun H1 e Q q =>
  h H1 e _ fun p H2 _ e2 hp => ⟨p, bs, rfl, sq_of hp, q H2 e2⟩
/-- all([test(x) for x in t]) -/
theorem ev_allT {a : Addr} {xs : List V} {tl : TE} {j : Nat} {vs : List Nat} (g : Nat → Bool) (h : Ev tl σ H (.ref a)) (hx : SqT K H a xs) (hz : xs.length ≤ 40000) (hw : ∀ x, wipe ((wipe σ vs).set j (some x)) vs = wipe σ vs)
    (he : ∀ (i : Nat) (x : V) H1, Ex H H1 → xs[i]? = some x → Ev te ((wipe σ vs).set j (some x)) H1 (.bl (g i))) :
    Ev (tCB (rAll K) (tCons (tLc (iTup K tl) (gName j) tYes te vs) tNil)) σ H (.bl (((List.range xs.length).map g).all id)) :=
  ev_allL (by
    have q := el_lcT (K := K) (te := te) (fun _ => true) (fun i => .bl (g i)) h hx hz hw (fun _ _ _ _ _ => et_yes) fun i x H1 e hxi _ => he i x H1 e hxi
    rw [given_all] at q
    rw [List.map_map]
    exact q)
end
section
variable {K : PySem.W.Frag} {σ : L2.St} {H : Hp} {ta tb te : TE}
theorem ev_lenT {p : Addr} {xs : List V} (ha : Ev ta σ H (.ref p)) (h : SqT K H p xs) : Ev (tCB (rLenS K) (tCons ta tNil)) σ H (.int (xs.length : Int)) := fun H1 e Q q =>
  ha H1 e _ fun H2 e2 => ⟨p, xs, rfl, Or.inr (ex_t (e.trans e2) h), q H2 e2⟩
theorem all_get {α : Type} (ds : List α) (p : α → Bool) : ((List.range ds.length).map (fun i => ((ds[i]?).map p).getD false)).all id = ds.all p := by
  have e : (List.range ds.length).map (fun i => ((ds[i]?).map p).getD false) = ds.map p := by
    apply List.ext_getElem
    · simp
    · intro i h1 h2
      have hi : i < ds.length := by simpa using h1
      simp [hi]
  rw [e, List.all_map]
  rfl
end
section
variable {K : PySem.W.Frag} {σ : L2.St} {H : Hp} {g : TG} {tu tz : TS} {D : Ends}
/-- for i, x in enumerate(t) -/
theorem s_forEn {a : Addr} {xs : List V} {tl : TE} (h : Ev tl σ H (.ref a)) (hx : SqT K H a xs) (Pv : Nat → L2.St → Hp → Prop) (h0 : ∀ H1, Ex H H1 → Pv 0 σ H1) (hl : ∀ i σ' H', i ≤ xs.length → Pv i σ' H' → SqT K H' a xs)
    (hs : ∀ i y T σ' H', xs[i]? = some y → Pv i σ' H' → H' T = none → g (.ref T) σ' (upd H' T (.tup [.int (i : Nat), y])) fun σ2 H2 => tu { D with nx := Pv (i + 1), ct := Pv (i + 1), bk := D.nx } σ2 H2) (hd : ∀ σ' H', Pv xs.length σ' H' → D.nx σ' H') : tFor (iEnumT K (tCons tl tNil)) g tu D σ H :=
  h H (Ex.refl H) _ fun H1 e => ⟨a, xs, rfl, ex_t e hx, for_it (walk_enumT (K := K) (a := a) (xs := xs)) Pv (h0 H1 e) hl (fun i x σ' H2 H3 hi p y => by
    obtain ⟨T, u, y, rfl, hT, rfl, hu, hy⟩ := y
    cases hu
    exact hs i y T σ' H2 hy p hT) hd⟩
theorem q_forEn {a : Addr} {xs : List V} {tl : TE} (h : Ev tl σ H (.ref a)) (hx : SqT K H a xs) (Pv : Nat → L2.St → Hp → Prop) (h0 : ∀ H1, Ex H H1 → Pv 0 σ H1) (hl : ∀ i σ' H', i ≤ xs.length → Pv i σ' H' → SqT K H' a xs)
    (hs : ∀ i y T σ' H', xs[i]? = some y → Pv i σ' H' → H' T = none → g (.ref T) σ' (upd H' T (.tup [.int (i : Nat), y])) fun σ2 H2 => tu { D with nx := Pv (i + 1), ct := Pv (i + 1), bk := tz D } σ2 H2) (hd : ∀ σ' H', Pv xs.length σ' H' → tz D σ' H') : tSeq (tFor (iEnumT K (tCons tl tNil)) g tu) tz D σ H :=
  s_forEn (D := { D with nx := tz D }) h hx Pv h0 hl hs hd
end
end Wk

set_option Elab.async false
set_option linter.all false
set_option maxRecDepth 100000
set_option maxHeartbeats 4000000
namespace Wk
open PySem PySem.Spec PyProof.Rows L2 Evl
/-! an object made, a method called, where what is raised is wished for at the caller's slots -/
section
variable {X : Cx} {CX : CXT} {k : Nat} {f C : Addr} {fd : FuncData} {ps : List Str} {sp : Sp} {W : L2.St → XK} {x m : Str} {p pos apos : Pos} {e o : Expr} {es : List Expr} {ta : TE} {t : TA}
def tMkAt (C : Addr) (sp : Sp) (W : L2.St → XK) (t : TA) : TE := fun σ H Q => t σ H fun vs H1 => ∀ x dx, H1 x = none → H1 dx = none → dx ≠ x → sp (.ref x :: vs) (upd (upd H1 dx (.own x)) x (.ins C dx [])) (fun v H2 => v = .non ∧ Q (.ref x) H2) (W σ)
theorem pe_mkAt (M : Mk X.K C f) (Fn : FnOk X.prog X.w X.K X.mg X.base CX k f fd ps sp) (hr : Room (k + 1) X.A) (hg : Gl X x) (hm : X.mg x = some (.ref C)) (hb : Binds X.K fd ps []) (hx : ∀ σ, PassesAt CX X σ (W σ)) (ha : PA X (e :: es) t)
    (hdb : (x == ("__debug__" : Str)) = false := by decide) (he : starEach (e :: es) X.env = (false, eval e X.env) :: starEach es X.env := by rfl) (hpl : (backTo pos (starEach es X.env)).any (·.1) = false := by rfl) :
    PE X (.Call (.Name x p) (e :: es) [] pos) (tMkAt C sp W t) := by
  refine ⟨fun pins s σ H Q I h => wpAny_Call_Name_kw (ld_glob I hg hm (PySem.W.callWith_K (h₀ := X.base) I.ok.mod.kin M.kp (thn (ha.run pos pins s σ H _ I h) fun us s1 hh => ?_) he hpl) hdb)⟩
  obtain ⟨vs, H1, I1, r, q⟩ := hh
  refine ⟨I1.kIn, ?_⟩
  have hq := q (s1.heap.objs.size + 1) s1.heap.objs.size (I1.hok.fresh (Nat.le_succ _)) (I1.hok.fresh (Nat.le_refl _)) (Nat.ne_of_lt (Nat.lt_succ_self _))
  have J := Inv.made (C := C) I1
  have rr : Vals (V.ref (s1.heap.objs.size + 1) :: vs) (Value.ref (s1.heap.objs.size + 1) :: us) := .cons rfl r
  have hl : (Value.ref (s1.heap.objs.size + 1) :: us).length = ps.length := rr.length.symm.trans (Fn.len _ _ _ _ hq)
  have bd := hb _ (Value.ref (s1.heap.objs.size + 1) :: us) J.kIn (by rw [List.append_nil]; exact hl)
  rw [List.append_nil] at bd
  refine wpAny_call (make_map (f := f) I1.kIn M.makes M.init (beq_iff_eq.mp M.fn) (codeAny_mono (Fn.run _ X.stack _ _ ⟨_, []⟩ _ _ _ (W σ) (hr.make C us []) (J.env0.make C us []) bd rr hq) fun r s' out => ?_))
  cases r with
  | error er => exact hx σ pins _ _ er s' J out
  | ok fl =>
    cases fl with
    | ret u =>
      obtain ⟨v, H', I3, rv, ev, q3⟩ := J.after out
      subst ev
      exact ⟨rv, ⟨V.ref (s1.heap.objs.size + 1), H', I3, rfl, q3⟩⟩
    | next => exact False.elim out
    | brk => exact False.elim out
    | cont => exact False.elim out
def tMeAt (C : Addr) (m : Str) (sp : Sp) (W : L2.St → XK) (ta : TE) (t : TA) : TE := fun σ H Q => ta σ H fun x H1 => ∃ a dx fs, x = .ref a ∧ H1 a = some (.ins C dx fs) ∧ fs.lookup m = none ∧ t σ H1 fun vs H2 => sp (x :: vs) H2 Q (W σ)
theorem pe_meAt {pl : Sem Bool} (ho : PE X o ta) (c : Cls X.K C) (hm : Meth X.K C m f) (Fn : FnOk X.prog X.w X.K X.mg X.base CX k f fd ps sp) (hr : Room k X.A) (hb : Binds X.K fd ps []) (hx : ∀ σ, PassesAt CX X σ (W σ)) (ha : PA X (e :: es) t)
    (hst : starEach (e :: es) X.env = (false, eval e X.env) :: starEach es X.env := by rfl) (hpl : (backTo pos (starEach es X.env)).any (·.1) = false := by rfl)
    (ht : eval (.Call (.Attribute o m apos) (e :: es) [] pos) X.env = (do
      let ov ← eval o X.env
      standAt apos.atName
      let (f, first) ← holding [ov] (getMethod ov m pl)
      callWith pos f first (backTo pos (starEach (e :: es) X.env)) (backToKw pos (keywordEach [] X.env))) := by rfl) :
    PE X (.Call (.Attribute o m apos) (e :: es) [] pos) (tMeAt C m sp W ta t) := by
  refine ⟨fun pins s σ H Q I h => PySem.W.methodCall_KW (pl := pl) (thn (ho.run pins s σ H _ I h) fun u s1 hh => ?_) ht⟩
  obtain ⟨x, H1, I1, rx, a, dx, fs, ex, ea, l, q⟩ := hh
  subst ex
  obtain rfl : u = Value.ref a := rx
  refine getmeth_ok I1 ea c hm l (PySem.W.callWith_K (first := [.ref a]) (h₀ := X.base) I.ok.mod.kin hm.kp (thn (ha.run pos pins s1 σ H1 _ I1 q) fun us s2 hh => ?_) hst hpl)
  obtain ⟨vs, H2, I2, r, q2⟩ := hh
  exact ⟨I2.kIn, run_fnS (us := .ref a :: us) (vs := .ref a :: vs) Fn hr hb (hx σ) I2 (.cons rfl r) q2⟩
end
/-! an own error with one field -/
/-- __init__ of such an error: self.router = router -/
def spXI (C : Addr) : Sp := fun vs H Q _ => ∃ (a : Addr) (y : V), vs = [.ref a, y] ∧ H a = some (exo a C none) ∧ ∀ dx, H dx = none → dx ≠ a → Q .non (upd (upd H dx (exd dx [("router", y)])) a (exo a C (some dx)))
/-- X(e) is made: where the error's dict is -/
theorem mk_err {C : Addr} {te : TE} {σ : L2.St} {H : Hp} {y : V} {W : XK} (h : Ev te σ H y) (k : ∀ d H', H d = none → Ex H H' → H' d = some (.xd [("router", y)]) → W (.ref C) (some d) H') : tMkO C (spXI C) [] (tCons te tNil) σ H W := by
  refine h H (Ex.refl H) _ fun H1 e => ⟨by show 1 ≤ 1000; decide, fun a ha => ?_⟩
  refine ⟨a, y, rfl, upd_same, fun dx hd hne => ⟨rfl, dx, [("router", y)], upd_same, by rw [upd_ne hne, upd_same], ?_, ?_⟩⟩
  · rw [upd_ne hne] at hd
    exact hd
  · have hd1 : H1 dx = none := by rw [upd_ne hne] at hd; exact hd
    refine k dx _ (fresh_back e hd1) (fun b o hb => ?_) upd_same
    have hb1 := e b o hb
    have nb : b ≠ dx := ne_of_none hb1 hd1
    have na : b ≠ a := ne_of_none hb1 ha
    rw [upd_ne nb, del_ne na, upd_ne na, upd_ne nb, upd_ne na]
    exact hb1
/-! parts of tuples -/
section
variable {K : PySem.W.Frag} {σ : L2.St} {H : Hp} {ta tb te : TE}
/-- what stands in a tuple (an old one or a new one) -/
def EvS (te : TE) (σ : L2.St) (H : Hp) (xs : List V) : Prop := ∀ H1, Ex H H1 → ∀ Q : VK, (∀ p H2, Ex H1 H2 → H2 p = some (.tup xs) → Q (.ref p) H2) → te σ H1 Q
theorem es_sl {a : Addr} {xs : List V} {tl th : TO} {lo hi : Option Int} (h : Ev te σ H (.ref a)) (h1 : EvO tl σ H lo) (h2 : EvO th σ H hi) (hs : H a = some (.tup xs)) : EvS (tSl (rSlA K) te tl th) σ H (cutV xs lo hi) := fun H1 e Q q =>
  h H1 e _ fun H2 e2 => h1 H2 (e.trans e2) _ fun H3 e3 => h2 H3 ((e.trans e2).trans e3) _ fun H4 e4 => by
    have hs4 := (((e.trans e2).trans e3).trans e4) _ _ hs
    refine ⟨a, xs, rfl, st_of hs4, fun hw => ?_, fun hw p hp => q p _ (((e2.trans e3).trans e4).trans (Ex.new hp)) upd_same⟩
    have ec : cutV xs lo hi = xs := by
      unfold cutV
      rw [hw.1, hw.2]
      simp
    rw [ec] at q
    exact q a H4 ((e2.trans e3).trans e4) hs4
theorem es_cat {xs ys : List V} (ha : EvS ta σ H xs) (hb : EvS tb σ H ys) (hz : xs.length + ys.length ≤ 100000) : EvS (tOp (rCatA K) ta tb) σ H (xs ++ ys) := fun H1 e Q q =>
  ha H1 e _ fun p H2 e2 hp => hb H2 (e.trans e2) _ fun p' H3 e3 hp' => by
    have hp3 := e3 _ _ hp
    refine ⟨p, p', xs, ys, rfl, rfl, st_of hp3, st_of hp', sz_of hz, fun hx => ?_, fun _ hy => ?_, fun _ _ r hr => q r _ ((e2.trans e3).trans (Ex.new hr)) upd_same⟩
    · rw [hx] at q
      exact q p' H3 (e2.trans e3) hp'
    · rw [hy, List.append_nil] at q
      exact q p H3 (e2.trans e3) hp3
theorem es_tup {t : TA} {xs : List V} (h : EvA t σ H xs) (hz : xs.length ≤ 100000) : EvS (tTup t) σ H xs := fun H1 e Q q => eu_tup h hz H1 e Q fun p H2 _ e2 hp => q p H2 e2 hp
theorem es_var {a : Addr} {xs : List V} (h : Ev te σ H (.ref a)) (hs : H a = some (.tup xs)) : EvS te σ H xs := fun H1 e Q q => h H1 e _ fun H2 e2 => q a H2 e2 ((e.trans e2) _ _ hs)
theorem es_mono {xs : List V} {H' : Hp} (e : Ex H H') (h : EvS te σ H xs) : EvS te σ H' xs := fun H1 e1 Q q => h H1 (e.trans e1) Q q
end
/-! x in t, t a tuple of data -/
section
variable {X : Cx}
def rInU (K : PySem.W.Frag) : R2 := fun x y H Q => ∃ d ds, Dp K H x d ∧ Dp K H y (.tuple ds) ∧ SeqAt.shaped d = true ∧ PyData.canLayAll0 ds = true ∧ Q (.bl (ds.any fun z => PyData.eqv z d)) H
def rNotInU (K : PySem.W.Frag) : R2 := fun x y H Q => ∃ d ds, Dp K H x d ∧ Dp K H y (.tuple ds) ∧ SeqAt.shaped d = true ∧ PyData.canLayAll0 ds = true ∧ Q (.bl (!ds.any fun z => PyData.eqv z d)) H
theorem op_inU (hu : X.A.units + 66 < cLine) : OpR X (compareOp .In) (rInU X.K) := fun pins s σ H x y v u Q I rx ry h => by
  obtain ⟨d, ds, hd, he, sd, se, q⟩ := h
  obtain ⟨as, r1⟩ := Dp.reads I d x v hd rx
  obtain ⟨bs, r2⟩ := Dp.reads I (.tuple ds) y u he ry
  have hdp := SeqAt.depth_of_shaped sd
  exact SeqAt.in_tuple_reads r2 r1 se (SeqAt.canLay_of_shaped sd) (by have := Nat.min_le_right (PyData.depthAll ds) d.depth; omega) ⟨.bl _, H, I, rfl, q⟩
theorem op_notInU (hu : X.A.units + 66 < cLine) : OpR X (compareOp .NotIn) (rNotInU X.K) := fun pins s σ H x y v u Q I rx ry h => by
  obtain ⟨d, ds, hd, he, sd, se, q⟩ := h
  obtain ⟨as, r1⟩ := Dp.reads I d x v hd rx
  obtain ⟨bs, r2⟩ := Dp.reads I (.tuple ds) y u he ry
  have hdp := SeqAt.depth_of_shaped sd
  exact SeqAt.notIn_tuple_reads r2 r1 se (SeqAt.canLay_of_shaped sd) (by have := Nat.min_le_right (PyData.depthAll ds) d.depth; omega) ⟨.bl _, H, I, rfl, q⟩
end
end Wk

set_option Elab.async false
set_option linter.all false
set_option maxRecDepth 100000
set_option maxHeartbeats 4000000
namespace Wk
open PySem PySem.Spec PyProof.Rows L2 Evl SeqAt
/-! == of a sequence and the empty one: by the lengths alone -/
section
variable {X : Cx}
def rEqEL (K : PySem.W.Frag) : R2 := fun x y H Q => ∃ a b xs, x = .ref a ∧ y = .ref b ∧ SqL K H a xs ∧ SqL K H b [] ∧ Q (.bl xs.isEmpty) H
theorem op_eqEL (hu : X.A.units < cLine) : OpR X (compareOp .Eq) (rEqEL X.K) := fun pins s σ H x y v u Q I rx ry h => by
  obtain ⟨a, b, xs, rfl, rfl, ha, hb, q⟩ := h
  cases rx
  cases ry
  obtain ⟨its, r1, p1, _⟩ := I.list ha
  obtain ⟨its2, r2, p2, _⟩ := I.list hb
  cases r2
  cases r1 with
  | nil => exact eq_listAt (e := fun _ => true) p1.isList p2.isList rfl hu (fun j h1 _ => absurd h1 (by simp)) ⟨.bl true, H, I, rfl, q⟩
  | cons r rr => exact eq_list_lengthsAt p1.isList p2.isList (by simp) hu ⟨.bl false, H, I, rfl, q⟩
def rEqEU (K : PySem.W.Frag) : R2 := fun x y H Q => ∃ a b xs, x = .ref a ∧ y = .ref b ∧ SqT K H a xs ∧ SqT K H b [] ∧ Q (.bl xs.isEmpty) H
theorem op_eqEU (hu : X.A.units < cLine) : OpR X (compareOp .Eq) (rEqEU X.K) := fun pins s σ H x y v u Q I rx ry h => by
  obtain ⟨a, b, xs, rfl, rfl, ha, hb, q⟩ := h
  cases rx
  cases ry
  obtain ⟨its, r1, p1, _⟩ := I.tuple ha
  obtain ⟨its2, r2, p2, _⟩ := I.tuple hb
  cases r2
  refine eq_tupleAt (e := fun _ => true) p1 p2 hu (fun j _ h2 => absurd h2 (by simp)) ⟨.bl xs.isEmpty, H, I, ?_, q⟩
  cases r1 <;> rfl
def rNeEU (K : PySem.W.Frag) : R2 := fun x y H Q => ∃ a b xs, x = .ref a ∧ y = .ref b ∧ SqT K H a xs ∧ SqT K H b [] ∧ Q (.bl (!xs.isEmpty)) H
theorem op_neEU (hu : X.A.units < cLine) : OpR X (compareOp .NotEq) (rNeEU X.K) := fun pins s σ H x y v u Q I rx ry h => by
  obtain ⟨a, b, xs, rfl, rfl, ha, hb, q⟩ := h
  cases rx
  cases ry
  obtain ⟨its, r1, p1, _⟩ := I.tuple ha
  obtain ⟨its2, r2, p2, _⟩ := I.tuple hb
  cases r2
  refine RcNeAt.tuples (e := fun _ => true) p1 p2 hu (fun j _ h2 => absurd h2 (by simp)) X.prog X.w _ _ ⟨.bl (!xs.isEmpty), H, I, ?_, q⟩
  cases r1 <;> rfl
end
/-! a dict and a tuple are unlike -/
theorem dictEqTup (l b : Addr) (o : Obj) (hoc : o.cls = .type "dict") (its : Array Value) (n : Nat) (dd : Option Addr) (sl : Array (Option Value)) :
    Meets (Builtin.«dict.__eq__» ⟨[.ref l, .ref b], []⟩) (fun _ R s => s.heap.get? l = some o ∧ s.heap.get? b = some { cls := .type "tuple", dict := dd, data := .seq its n, slots := sl } ∧ R (.ok (.ret .notImplemented)) s) :=
  .of_wp fun prog w A R s h => by
    obtain ⟨hp, g, d, tk, os⟩ := s
    obtain ⟨hl, hb, h⟩ := h
    obtain ⟨oc, od, dt, os2⟩ := o
    simp only at hoc
    subst hoc
    have f1 := F.sub_tuple_dict
    wp_walk using wpAny_loadPart' hl, wpAny_loadPart' hb
    exact ⟨_, rfl, h⟩
theorem tupEqDict (l b : Addr) (o : Obj) (hoc : o.cls = .type "dict") (its : Array Value) (n : Nat) (dd : Option Addr) (sl : Array (Option Value)) :
    Meets (Builtin.«tuple.__eq__» ⟨[.ref b, .ref l], []⟩) (fun _ R s => s.heap.get? b = some { cls := .type "tuple", dict := dd, data := .seq its n, slots := sl } ∧ s.heap.get? l = some o ∧ R (.ok (.ret .notImplemented)) s) :=
  .of_wp fun prog w A R s h => by
    obtain ⟨hp, g, d, tk, os⟩ := s
    obtain ⟨hb, hl, h⟩ := h
    obtain ⟨oc, od, dt, os2⟩ := o
    simp only at hoc
    subst hoc
    have f1 := F.sub_dict_tuple
    wp_walk using wpAny_loadPart' hl, wpAny_loadPart' hb
    exact ⟨_, rfl, h⟩
section
variable {A : Around} {s : Shared}
theorem eqAt_dictTup {l b : Addr} {o : Obj} {its : Array Value} (hl : s.heap.get? l = some o) (hoc : o.cls = .type "dict") (hb : s.heap.IsTuple b its) (hu : A.units < cLine) : EqAt A s (.ref l) (.ref b) false := by
  obtain ⟨⟨c2, dd, dt, sl⟩, ho2, hc2, n, hd2⟩ := hb
  simp only at hc2 hd2
  subst hc2 hd2
  have hne : l ≠ b := fun z => by
    rw [z, ho2] at hl
    cases hl
    exact absurd hoc (by simp)
  refine EqAt.of_refs hne fun prog w E Q h => ?_
  exact rc_eq_decline_or (k := false) ⟨_, hl, hoc⟩ ⟨_, ho2, rfl⟩ (by decide) F.sub_tuple_dict F.slot_dict_eq F.slot_tuple_eq_refl
    (fun _ hq => call_meets F.slot_dict_eq ⟨_, hl, hoc⟩ F.entry_dict_eq (F.args_dict_eq_2 _ _) (dictEqTup l b o hoc its n dd sl) ⟨hl, ho2, hq⟩)
    (fun _ hq => call_meets F.slot_tuple_eq_refl ⟨_, ho2, rfl⟩ F.entry_tuple_eq (F.args_tuple_eq_2 _ _) (tupEqDict l b o hoc its n dd sl) ⟨ho2, hl, hq⟩)
    (fun _ hq => wpAny_isSame_ref_other hne hl ho2 (by rw [hoc]; simp) hq) (.inr hu) h
end
/-- an item of an edited row -/
def Itm (d : PyData) : Prop := d = .dict [] ∨ (d.canLay0 = true ∧ d.depth ≤ 8)
section
variable {X : Cx}
/-- x not in l, l a list of such items, x a tuple: a flag -/
def rNotInX (K : PySem.W.Frag) : R2 := fun x y H Q => ∃ a p ds vs es, x = .ref a ∧ y = .ref p ∧ H p = some (.lst vs) ∧ DqA H vs ds ∧ (∀ d ∈ ds, Itm d) ∧ Dq H (.ref a) (.tuple es) ∧ PyData.canLay0 (.tuple es) = true ∧ ∀ b : Bool, Q (.bl b) H
theorem op_notInX (hu : X.A.units + 66 < cLine) : OpR X (compareOp .NotIn) (rNotInX X.K) := fun pins s σ H x y v u Q I rx ry h => by
  obtain ⟨a, p, ds, vs, es, rfl, rfl, hp, hds, hi, hx, cx, q⟩ := h
  cases rx
  cases ry
  obtain ⟨its, r1, p1, _⟩ := I.list (sq_of hp)
  have hxp := hx
  cases hxp with
  | tup h1 h2 =>
    obtain ⟨as, rx⟩ := Dp.reads I (.tuple es) (.ref a) (.ref a) (Dq.dp (K := X.K) cx hx) rfl
    obtain ⟨its2, r2, p2, _⟩ := I.tuple (st_of h1)
    have key : ∀ y ∈ its, ∃ b, EqAt X.A.in1 s y (.ref a) b := fun y hy => by
      obtain ⟨i, hiy⟩ := List.mem_iff_getElem?.mp hy
      have hil : i < vs.length := by
        have := (List.getElem?_eq_some_iff.mp hiy).1
        rw [r1.length]; exact this
      have hv : vs[i]? = some vs[i] := List.getElem?_eq_getElem hil
      obtain ⟨u2, hu2, ru⟩ := r1.get hv
      rw [hiy] at hu2
      cases hu2
      obtain ⟨d, ed, hd⟩ := hds.get hv
      rcases hi d (List.mem_of_getElem? ed) with z | ⟨z, zd⟩
      · subst z
        generalize hvv : vs[i] = vv at *
        cases hd with
        | dic hdd =>
          cases ru
          obtain ⟨_, _, vs2, _, o, es2, ep, g1, g2, _⟩ := (show ObjOk X.prog X.w H s.heap _ (.dK []) from I.hok _ _ hdd)
          exact ⟨false, eqAt_dictTup g1 g2.1 p2 (by show X.A.in1.units < cLine; simp; omega)⟩
      · obtain ⟨bs, ry⟩ := Dp.reads I d vs[i] y (Dq.dp (K := X.K) z hd) ru
        exact ⟨_, eqAt_reads d (.tuple es) X.A.in1 s y (.ref a) bs as ry rx z cx (by
          have hm := Nat.min_le_left d.depth (PyData.tuple es).depth
          show X.A.in1.units + _ < cLine
          simp
          omega)⟩
    have key2 : ∃ e : Value → Bool, ∀ y, y ∈ its.toArray → EqAt X.A.in1 s y (.ref a) (e y) := by
      refine ⟨fun y => @decide (EqAt X.A.in1 s y (.ref a) true) (Classical.propDecidable _), fun y hy => ?_⟩
      obtain ⟨b, hb⟩ := key y (by simpa using hy)
      by_cases c : EqAt X.A.in1 s y (.ref a) true
      · simp only [c, decide_true]
      · simp only [c, decide_false]
        cases b with
        | false => exact hb
        | true => exact absurd hb c
    obtain ⟨e, he⟩ := key2
    exact notIn_listAt e p1.isList he ⟨.bl _, H, I, rfl, q _⟩
end
end Wk

set_option Elab.async false
set_option linter.all false
set_option maxRecDepth 100000
set_option maxHeartbeats 4000000
namespace Wk
open PySem PySem.Spec PyProof.Rows L2 Evl
/-! promises of defs that are called where no repr is under way -/
structure FnG (P : Program) (w : World) (K : PySem.W.Frag) (mg : Str → Option Value) (base : Heap) (k : Nat) (f : Addr) (fd : FuncData) (ps : List Str) (sp : Sp) : Prop where
  len : ∀ vs H Q E, sp vs H Q E → vs.length = ps.length
  run : ∀ (A : Around) (outer : List Env) (s : Shared) (H : Hp) (args : Args) (us : List Value) (vs : List V) (Q : VK) (E : XK), Room k A → A.guards = some [] → Env0 P w K mg base A outer s H → BindsTo s fd args (ps.zip us) → Vals vs us → sp vs H Q E →
    codeAny (model P w) A (.call (.ref f) args) (CR CX0 outer P w H s Q E) s
section
variable {P : Program} {w : World} {K : PySem.W.Frag} {mg : Str → Option Value} {base : Heap} {x qual : Str} {params : Arguments} {body : List Stmt} {scope : Scope} {dvs : List V} {kws : List (Str × V)} {f : Addr} {fd : FuncData}
theorem okG {N ps : List Str} {k : Nat} {sp : Sp} (F : FunD K x qual params body scope dvs kws f fd) (S : FnScope N ps scope) (len : ∀ vs H Q E, sp vs H Q E → vs.length = ps.length)
    (hbody : ∀ (cdv : Value) (A : Around) (outer : List Env) (s : Shared) (H : Hp) (vs : List V) (Q : VK) (E : XK), Room k (A.deeper (envOfC qual scope s.heap.objs.size f cdv)) → (A.deeper (envOfC qual scope s.heap.objs.size f cdv)).guards = some [] → sp vs H Q E →
      ∃ t, PSs (cxOf CX0 P w K mg base N qual scope f cdv A outer s H E) body t ∧ t { nx := fun _ H' => Q .non H', rt := Q } (start N vs) H) : FnG P w K mg base (k + 1) f fd ps sp := by
  obtain ⟨oc, od, dV, kV, doc, pm, an, cdv, ct, osl, rfl, lk, cd, _, _⟩ := F.ex
  refine ⟨len, fun A outer s H args us vs Q E hr hg e0 hb r hsp => ?_⟩
  have KX : K.In s.heap := e0.mod.kin.keeps fun b o e => (e0.bs b o e).1
  have lim : s.heap.NoLimit := e0.mod.nolimit.keeps fun b o e => (e0.bs b o e).1
  have kinds : ∀ y ∈ ps.zip us, scope.names.lookup y.1 = some .local ∨ (scope.names.lookup y.1 = some .cell ∧ ((cellsFrom (s.heap.objs.size + 1) scope.names []).lookup y.1).isSome = true) := fun y hy =>
    (S.par y.1 (List.of_mem_zip hy).1).elim .inl fun q => .inr ⟨q, PySem.W.cellsFrom_some _ _ _ (.inl q)⟩
  refine codeAny_call_function hr.depth (KX _ _ lk) rfl S.co S.gen rfl (PySem.W.codeRec_of KX cd) (hb _ _ _ _ (wpAny_newFunctionEnv_cells S.kind kinds fun env he s1 x => ?_))
  subst he
  refine ⟨lim.keeps x.toInCall.keep, codeAny_func ?_⟩
  obtain ⟨t, ht, hq⟩ := hbody cdv A outer s H vs Q E (hr.deeper _) hg hsp
  have I : Inv (cxOf CX0 P w K mg base N qual scope f cdv A outer s H E) [] (start N vs) H s1 := inv_start S hr.hd e0 (len _ _ _ _ hsp) r x
  refine wpAny_mono (ht.run [] s1 (start N vs) H _ I hq) (fun fl s' hs => ?_) fun e s' hs => hs
  cases fl with
  | ret u =>
    obtain ⟨v, σ', H', J, rv, q⟩ := hs
    exact ⟨v, H', J.os, J.bare, J.base, J.hok, rv, q⟩
  | next =>
    obtain ⟨σ', H', J, q⟩ := hs
    exact ⟨V.non, H', J.os, J.bare, J.base, J.hok, rfl, q⟩
  | brk => exact (hs.choose_spec.choose_spec.2 : False).elim
  | cont => exact (hs.choose_spec.choose_spec.2 : False).elim
end
structure CalG (P : Program) (w : World) (K : PySem.W.Frag) (mg : Str → Option Value) (base : Heap) (x : Str) (ps : List Str) (k : Nat) (sp : Sp) : Prop where
  ex : ∃ (f : Addr) (fd : FuncData), FnG P w K mg base k f fd ps sp ∧ mg x = some (.ref f) ∧ PySem.W.keepIn K (.ref f) = true ∧ Binds K fd ps []
section
variable {X : Cx}
theorem pe_calG {x : Str} {p pos : Pos} {e : Expr} {es : List Expr} {ps : List Str} {k : Nat} {sp : Sp} {t : TA} (C : CalG X.prog X.w X.K X.mg X.base x ps k sp) (hr : Room k X.A) (gu : X.A.guards = some []) (hg : Gl X x) (ha : PA X (e :: es) t)
    (hdb : (x == ("__debug__" : Str)) = false := by decide) (he : starEach (e :: es) X.env = (false, eval e X.env) :: starEach es X.env := by rfl) (hpl : (backTo pos (starEach es X.env)).any (·.1) = false := by rfl) :
    PE X (.Call (.Name x p) (e :: es) [] pos) (tCall sp [] E0 t) := by
  obtain ⟨f, fd, Fn, g, kp, b⟩ := C.ex
  refine ⟨fun pins s σ H Q I h => wpAny_Call_Name_kw (ld_glob I hg g (PySem.W.callWith_K (h₀ := X.base) I.ok.mod.kin kp (thn (ha.run pos pins s σ H _ I h) fun us s1 hh => ?_) he hpl) hdb)⟩
  obtain ⟨vs, H1, I1, r, q⟩ := hh
  rw [List.append_nil] at q
  have hl : us.length = ps.length := by rw [← r.length]; exact Fn.len _ _ _ _ q
  have bd := b s1 us I1.kIn (by rw [List.append_nil]; exact hl)
  rw [List.append_nil] at bd
  refine ⟨I1.kIn, wpAny_call (codeAny_mono (Fn.run X.A X.stack s1 H1 ⟨us, []⟩ us vs Q E0 hr gu I1.env0 bd r q) fun r s' out => ?_)⟩
  cases r with
  | error er => exact False.elim out
  | ok fl =>
    cases fl with
    | ret u => exact I1.after out
    | next => exact False.elim out
    | brk => exact False.elim out
    | cont => exact False.elim out
/-- repr(x) of data -/
def rRepr (K : PySem.W.Frag) : List V → Hp → VK → Prop := fun xs H Q => ∃ v d, xs = [v] ∧ Dp K H v d ∧ d.showable = true ∧ d.hasDict = false ∧ d.depth ≤ 60 ∧ d.shown.length ≤ sizeLine ∧ Q (.str d.shown) H
theorem call_reprD (gu : X.A.guards = some []) (hu : X.A.units + 64 < cLine) : CallR X (.builtin "repr") (rRepr X.K) := fun pins s σ H xs us Q I r h => by
  obtain ⟨v, d, rfl, hd, sh, nd, dp, sz, q⟩ := h
  obtain ⟨u, rfl, ru⟩ := Vals.one r
  obtain ⟨as, rd⟩ := Dp.reads I d v u hd ru
  cases hd with
  | non => cases ru; exact PySem.P.repr_of_none ⟨.str _, H, I.tok _, ⟨_, rfl⟩, q⟩
  | bl b =>
    cases ru
    refine PySem.P.repr_of_bool ⟨.str _, H, I.tok _, ⟨_, rfl⟩, ?_⟩
    cases b <;> exact q
  | int i =>
    obtain ⟨t, rfl⟩ := ru
    exact PySem.P.repr_of_int (by simpa [PyData.showable] using sh) ⟨.str _, H, I.tok _, ⟨_, rfl⟩, q⟩
  | str z =>
    obtain ⟨t, rfl⟩ := ru
    exact PySem.P.repr_of_str ⟨.str _, H, I.tok _, ⟨_, rfl⟩, q⟩ sz
  | lst h1 h2 =>
    cases ru
    exact repr_of_reads' rd sh (fun z => by rw [nd] at z; cases z) gu (by omega) (fun b o e => e) (fun h' u tk k => ⟨.str _, H, I.kept k, ⟨_, rfl⟩, q⟩) sz
  | tup h1 h2 =>
    cases ru
    exact repr_of_reads' rd sh (fun z => by rw [nd] at z; cases z) gu (by omega) (fun b o e => e) (fun h' u tk k => ⟨.str _, H, I.kept k, ⟨_, rfl⟩, q⟩) sz
end
end Wk

set_option Elab.async false
set_option linter.all false
set_option maxRecDepth 100000
set_option maxHeartbeats 2000000
namespace Wk
open PySem PySem.Spec PyProof.Rows L2 Evl
def top (i : Nat) : Stmt := PySem.Challenge.pw_wishreels_k00_wishes_and_errors.main.body.getD i (.Pass ⟨0, 0, 0, 0⟩)
abbrev FnP (K : PySem.W.Frag) (x : Str) (st : Stmt) (f : Addr) (fd : FuncData) : Prop := FunD K x x (defArgs st) (defBody st) (defScope st) [] [] f fd
/-- names that are the built-in ones -/
structure Bl (mg : Str → Option Value) : Prop where
  isi : mg "isinstance" = none
  len : mg "len" = none
  tuple : mg "tuple" = none
  list : mg "list" = none
  int : mg "int" = none
  bool : mg "bool" = none
  str : mg "str" = none
  all : mg "all" = none
  set : mg "set" = none
  enum : mg "enumerate" = none
  range : mg "range" = none
  abs : mg "abs" = none
  min : mg "min" = none
  repr : mg "repr" = none
/-- a pure promise: a plain value, what stood stays -/
def spP (R : Hp → List V → V → Prop) : Sp := fun vs H Q _ => ∃ z, R H vs z ∧ ∀ H', Ex H H' → Q z H'
theorem spP_v {R : Hp → List V → V → Prop} {vs : List V} {H : Hp} {z : V} (h : ∀ H1, Ex H H1 → R H1 vs z) : SpV (spP R) vs H z := fun H1 e Q q E => ⟨z, h H1 e, fun H2 e2 => q H2 e2⟩
def isI : PyData → Bool
  | .int _ => true
  | _ => false
/-- what a datum is worth as an int -/
def valI : PyData → Int
  | .int i => i
  | _ => 0
theorem isI_eq {d : PyData} (h : isI d = true) : d = .int (valI d) := by
  cases d <;> first | rfl | (simp [isI] at h)
theorem kit_int (d : PyData) : ∃ b, kitB (tyN d) "int" = some b ∧ (b = true → ∃ c, kitB (tyN d) "bool" = some c ∧ (b && !c) = isI d) ∧ (b = false → isI d = false) := by
  cases d with
  | none => exact ⟨false, show kitB "NoneType" "int" = some false by decide +kernel, fun h => (by cases h), fun _ => rfl⟩
  | bool b => exact ⟨true, show kitB "bool" "int" = some true by decide +kernel, fun _ => ⟨true, show kitB "bool" "bool" = some true by decide +kernel, rfl⟩, fun h => (by cases h)⟩
  | int i => exact ⟨true, show kitB "int" "int" = some true by decide +kernel, fun _ => ⟨false, show kitB "int" "bool" = some false by decide +kernel, rfl⟩, fun h => (by cases h)⟩
  | str z => exact ⟨false, show kitB "str" "int" = some false by decide +kernel, fun h => (by cases h), fun _ => rfl⟩
  | list ds => exact ⟨false, show kitB "list" "int" = some false by decide +kernel, fun h => (by cases h), fun _ => rfl⟩
  | tuple ds => exact ⟨false, show kitB "tuple" "int" = some false by decide +kernel, fun h => (by cases h), fun _ => rfl⟩
  | dict ds => exact ⟨false, show kitB "dict" "int" = some false by decide +kernel, fun h => (by cases h), fun _ => rfl⟩
def isTu : PyData → Bool
  | .tuple _ => true
  | _ => false
def itemsT : PyData → List PyData
  | .tuple ds => ds
  | _ => []
theorem kit_tup (d : PyData) : kitB (tyN d) "tuple" = some (isTu d) := by
  cases d with
  | none => exact show kitB "NoneType" "tuple" = some false by decide +kernel
  | bool b => exact show kitB "bool" "tuple" = some false by decide +kernel
  | int i => exact show kitB "int" "tuple" = some false by decide +kernel
  | str z => exact show kitB "str" "tuple" = some false by decide +kernel
  | list ds => exact show kitB "list" "tuple" = some false by decide +kernel
  | tuple ds => exact show kitB "tuple" "tuple" = some true by decide +kernel
  | dict ds => exact show kitB "dict" "tuple" = some false by decide +kernel
def isR (n : Int) (d : PyData) : Bool := isI d && (decide (0 ≤ valI d) && decide (valI d ≤ n - 1))
/-- a way of router r through routers below n -/
def wayB (n r : Int) (d : PyData) : Bool := isTu d && (decide (2 ≤ (itemsT d).length) && decide ((itemsT d).length ≤ 8)) && ((itemsT d).all (isR n) && (decide (((itemsT d).map valI)[0]? = some r) && (decide (((itemsT d).map valI).getLast? = some 0) && decide ((itemsT d).map valI).Nodup)))
section
variable {P : Program} {w : World} {K : PySem.W.Frag} {mg : Str → Option Value} {base : Heap} {f : Addr} {fd : FuncData}
/-! is_integer, _law_is_int -/
abbrev spIsInt : Sp := spP fun H vs z => ∃ v d, vs = [v] ∧ Dq H v d ∧ z = .bl (isI d)
abbrev sIsInt : Stmt := top 7
theorem scIsInt : FnScope ["thing"] ["thing"] (defScope sIsInt) := ⟨rfl, rfl, rfl, by decide +kernel, rfl, by decide +kernel, by decide +kernel⟩
theorem ok_isInt (B : Bl mg) (F : FnP K "is_integer" sIsInt f fd) : FnOk P w K mg base CX0 1 f fd ["thing"] spIsInt := by
  refine F.ok scIsInt (fun vs H Q E h => ?_) (fun cdv A outer s H vs Q E hr h => ?_)
  · obtain ⟨z, ⟨v, d, rfl, _⟩, _⟩ := h
    rfl
  · obtain ⟨z, ⟨v, d, rfl, hd, rfl⟩, k⟩ := h
    refine ⟨_, pss_one (ps_ret (pe_and (pe_callB call_isi (by rfl) B.isi boot_isinstance (pa_cons (pv 0) (pa_cons (pe_bltn (v := .ty "int") (by rfl) B.int PyProof.Rows.boot_int rfl) pa_nil)))
      (pe_one (pe_not (pe_callB call_isi (by rfl) B.isi boot_isinstance (pa_cons (pv 0) (pa_cons (pe_bltn (v := .ty "bool") (by rfl) B.bool PyProof.Rows.boot_bool rfl) pa_nil))))))), ?_⟩
    obtain ⟨b, hb, h1, h2⟩ := kit_int d
    have v0 : Ev (tVar 0) (start ["thing"] [v]) H v := ev_var rfl
    cases b with
    | true =>
      obtain ⟨c, hc, e⟩ := h1 rfl
      rw [← e] at k
      exact s_ret (ev_andV (ev_isi v0 hd hb) fun _ => ev_notV (ev_isi v0 hd hc)) k
    | false =>
      rw [h2 rfl] at k
      exact s_ret (ev_andV (b := false) (ev_isi v0 hd hb) fun z => (by cases z)) k

/-! is_between, is_router -/
abbrev spBetween : Sp := spP fun H vs z => ∃ (a b : Int) (v : V) (d : PyData), vs = [.int a, .int b, v] ∧ Dq H v d ∧ z = .bl (isI d && (decide (a ≤ valI d) && decide (valI d ≤ b)))
abbrev sBetween : Stmt := top 8
theorem scBetween : FnScope ["least", "most", "thing"] ["least", "most", "thing"] (defScope sBetween) := ⟨rfl, rfl, rfl, by decide +kernel, rfl, by decide +kernel, by decide +kernel⟩
theorem ok_between (B : Bl mg) (C : Cal P w K mg base "is_integer" ["thing"] 1 spIsInt) (F : FnP K "is_between" sBetween f fd) : FnOk P w K mg base CX0 2 f fd ["least", "most", "thing"] spBetween := by
  refine F.ok scBetween (fun vs H Q E h => ?_) (fun cdv A outer s H vs Q E hr h => ?_)
  · obtain ⟨z, ⟨a, b, v, d, rfl, _⟩, _⟩ := h
    rfl
  · obtain ⟨z, ⟨a, b, v, d, rfl, hd, rfl⟩, k⟩ := h
    refine ⟨_, pss_one (ps_ret (pe_and (pe_cal C hr (by rfl) (pa_cons (pv 2) pa_nil)) (pe_one (pe_chain op_le op_le (pv 0) (pv 2) (pv 1))))), ?_⟩
    have v0 : Ev (tVar 0) (start ["least", "most", "thing"] [.int a, .int b, v]) H (.int a) := ev_var rfl
    have v1 : Ev (tVar 1) (start ["least", "most", "thing"] [.int a, .int b, v]) H (.int b) := ev_var rfl
    have v2 : Ev (tVar 2) (start ["least", "most", "thing"] [.int a, .int b, v]) H v := ev_var rfl
    refine s_ret (ev_andV (a := isI d) (ev_call (ea_cons v2 ea_nil) (spP_v fun H1 e => ⟨v, d, rfl, hd.mono e, rfl⟩)) fun hi => ?_) k
    rw [isI_eq hi] at hd
    cases hd
    exact ev_chain v0 v2 v1 rv_I0 rv_I0
abbrev spRouter : Sp := spP fun H vs z => ∃ (n : Int) (v : V) (d : PyData), vs = [.int n, v] ∧ Dq H v d ∧ z = .bl (isR n d)
abbrev sRouter : Stmt := top 9
theorem scRouter : FnScope ["size", "thing"] ["size", "thing"] (defScope sRouter) := ⟨rfl, rfl, rfl, by decide +kernel, rfl, by decide +kernel, by decide +kernel⟩
theorem ok_router (C : Cal P w K mg base "is_between" ["least", "most", "thing"] 2 spBetween) (F : FnP K "is_router" sRouter f fd) : FnOk P w K mg base CX0 3 f fd ["size", "thing"] spRouter := by
  refine F.ok scRouter (fun vs H Q E h => ?_) (fun cdv A outer s H vs Q E hr h => ?_)
  · obtain ⟨z, ⟨n, v, d, rfl, _⟩, _⟩ := h
    rfl
  · obtain ⟨z, ⟨n, v, d, rfl, hd, rfl⟩, k⟩ := h
    refine ⟨_, pss_one (ps_ret (pe_cal C hr (by rfl) (pa_cons pe_int (pa_cons (pe_op op_sub (pv 0) pe_int) (pa_cons (pv 1) pa_nil))))), ?_⟩
    exact s_ret (ev_call (ea_cons ev_c (ea_cons (ev_op (ev_var rfl) ev_c rv_I0) (ea_cons (ev_var rfl) ea_nil))) (spP_v fun H1 e => ⟨0, n - 1, v, d, rfl, hd.mono e, rfl⟩)) k
/-! is_way -/
abbrev spWay : Sp := spP fun H vs z => ∃ (n r : Int) (v : V) (d : PyData), vs = [.int n, .int r, v] ∧ Dq H v d ∧ z = .bl (wayB n r d)
abbrev sWay : Stmt := top 12
theorem scWay : FnScope ["size", "router", "thing", "item"] ["size", "router", "thing"] (defScope sWay) := ⟨rfl, rfl, rfl, by decide +kernel, rfl, by decide +kernel, by decide +kernel⟩
end
end Wk

set_option Elab.async false
set_option linter.all false
set_option maxRecDepth 100000
set_option maxHeartbeats 2000000
namespace Wk
open PySem PySem.Spec PyProof.Rows L2 Evl
theorem ints_of {n : Int} : ∀ {ds : List PyData}, ds.all (isR n) = true → ds = (ds.map valI).map PyData.int
  | [], _ => rfl
  | d :: ds, h => by
    have h' : isR n d = true ∧ ds.all (isR n) = true := by simpa using h
    have h1 : isI d = true := (Bool.and_eq_true_iff.mp h'.1).1
    show d :: ds = .int (valI d) :: (ds.map valI).map PyData.int
    rw [← ints_of h'.2, ← isI_eq h1]
section
variable {K : PySem.W.Frag} {σ : L2.St} {H : Hp} {ta tb te : TE}
theorem ev_lenSU {l : Addr} {ns : List Int} (ha : Ev ta σ H (.ref l)) (h : SqT K H l (ns.map V.int)) (hl : ns.length < 64) (hb : Ev tb σ H (.int (ns.length : Int))) :
    Ev (tOp rEq (tLenSU K ta) tb) σ H (.bl (decide ns.Nodup)) := fun H1 e Q q =>
  ha H1 e _ fun H2 e2 => ⟨l, ns, rfl, ex_t (e.trans e2) h, hl, fun m hm => hb H2 (e.trans e2) _ fun H3 e3 => ⟨rfl, by
    have ed : decide (V.int (m : Int) = V.int (ns.length : Int)) = decide ns.Nodup := by
      rw [decide_eq_decide]
      constructor
      · intro z
        injection z with z
        exact hm.mp (by omega)
      · intro z
        rw [hm.mpr z]
    rw [ed]
    exact q H3 (e2.trans e3)⟩⟩
theorem ev_lenSUU {l : Addr} {ks : List (Addr × List Int)} (ha : Ev ta σ H (.ref l)) (h : SqT K H l (ks.map fun p => V.ref p.1)) (hk : ∀ p ∈ ks, SqT K H p.1 (p.2.map V.int)) (hl : ks.length < 64) (hb : Ev tb σ H (.int (ks.length : Int))) :
    Ev (tOp rEq (tLenSUU K ta) tb) σ H (.bl (decide (ks.map (·.2)).Nodup)) := fun H1 e Q q =>
  ha H1 e _ fun H2 e2 => ⟨l, ks, rfl, ex_t (e.trans e2) h, fun p hp => ex_t (e.trans e2) (hk p hp), hl, fun m hm => hb H2 (e.trans e2) _ fun H3 e3 => ⟨rfl, by
    have ed : decide (V.int (m : Int) = V.int (ks.length : Int)) = decide (ks.map (·.2)).Nodup := by
      rw [decide_eq_decide]
      constructor
      · intro z
        injection z with z
        exact hm.mp (by omega)
      · intro z
        rw [hm.mpr z]
    rw [ed]
    exact q H3 (e2.trans e3)⟩⟩
end
theorem getLast_atI {α : Type} {xs : List α} {x : α} (h : xs.getLast? = some x) : atI xs (-1) = some x := by
  obtain ⟨ys, rfl⟩ : ∃ ys, xs = ys ++ [x] := by
    cases xs with
    | nil => cases h
    | cons y l =>
      refine ⟨(y :: l).dropLast, ?_⟩
      have := List.dropLast_concat_getLast (l := y :: l) (by simp)
      rw [List.getLast?_eq_some_getLast (by simp)] at h
      cases h
      exact this.symm
  exact atI_last ys x
section
variable {P : Program} {w : World} {K : PySem.W.Frag} {mg : Str → Option Value} {base : Heap} {f : Addr} {fd : FuncData}
theorem ok_way (B : Bl mg) {t8 : Tok} (m8 : mg "MOST_ROUTERS" = some (.int 8 t8)) (C : Cal P w K mg base "is_router" ["size", "thing"] 3 spRouter) (F : FnP K "is_way" sWay f fd) : FnOk P w K mg base CX0 5 f fd ["size", "router", "thing"] spWay := by
  refine F.ok scWay (fun vs H Q E h => ?_) (fun cdv A outer s H vs Q E hr h => ?_)
  · obtain ⟨z, ⟨n, r, v, d, rfl, _⟩, _⟩ := h
    rfl
  · obtain ⟨z, ⟨n, r, v, d, rfl, hd, rfl⟩, k⟩ := h
    refine ⟨_, pss_cons (ps_if (PW.pt (pw_or (pt_not (pt_val (pe_callB call_isi (by rfl) B.isi boot_isinstance (pa_cons (pv 2) (pa_cons (pe_bltn (v := .ty "tuple") (by rfl) B.tuple PyProof.Rows.boot_tuple rfl) pa_nil)))))
        (pw_or1 (pt_not (pt_chain op_le op_le pe_int (pe_callB call_len_seq (by rfl) B.len PySem.boot_len (pa_cons (pv 2) pa_nil)) (pe_glob (v := .int 8) (by rfl) m8 ⟨_, rfl⟩)))))) (pss_one (ps_ret pe_bl)) pss_nil)
      (pss_cons (ps_if (pt_not (pt_val (pe_callB (cr_all rfl) (by rfl) B.all boot_all (pa_cons (pe_lc (own := [("item", 3)]) (g := gName 3) (tt := tYes) rfl scWay.nd (pi_tup (pv 2)) (blkOk_by (N := ["size", "router", "thing", "item"]) (sc := defScope sWay) (by decide +kernel))
          (fun _ _ _ _ _ => pg_name (i := 3) scWay.nd rfl (Or.inl rfl)) (fun _ _ _ _ _ => pts_nil) (fun _ _ _ _ _ => pe_cal C hr (by rfl) (pa_cons (pv 0) (pa_cons (pv 3) pa_nil)))) pa_nil)))) (pss_one (ps_ret pe_bl)) pss_nil)
      (pss_one (ps_ret (pe_and (pe_cmpR op_eq (pe_ix ix_tup (pv 2) pe_int (fun _ _ => rfl)) (pv 1) (nomark _)) (pe_and (pe_cmpR op_eq (pe_ix ix_tup (pv 2) (pe_un un_neg pe_int) (fun _ _ => rfl)) pe_int (nomark _))
        (pe_one (pe_cmpR op_eq (pe_lenSU rfl (by rfl) B.len (by rfl) B.set (pv 2)) (pe_callB call_len_seq (by rfl) B.len PySem.boot_len (pa_cons (pv 2) pa_nil)) (nomark _)))))))), ?_⟩
    have v0 : ∀ {o : Option V} {H1 : Hp}, Ev (tVar 0) [some (.int n), some (.int r), some v, o] H1 (.int n) := ev_var rfl
    have v1 : ∀ {H1 : Hp}, Ev (tVar 1) (start ["size", "router", "thing", "item"] [.int n, .int r, v]) H1 (.int r) := ev_var rfl
    have v2 : ∀ {H1 : Hp}, Ev (tVar 2) (start ["size", "router", "thing", "item"] [.int n, .int r, v]) H1 v := ev_var rfl
    have hlen : ∀ {H1 : Hp}, Ex H H1 → isTu d = true → Ev (tCB (rLenS K) (tCons (tVar 2) tNil)) (start ["size", "router", "thing", "item"] [.int n, .int r, v]) H1 (.int ((itemsT d).length : Int)) := fun {H1} e ht => by
      cases hd <;> first | (simp [isTu] at ht; done) | skip
      rename_i a xs ds h1 h2
      rw [show (itemsT (.tuple ds)).length = xs.length from h2.length.symm]
      exact ev_lenT v2 (st_of (e _ _ h1))
    refine q_when (b := !isTu d || !(decide (2 ≤ ((itemsT d).length : Int)) && decide (((itemsT d).length : Int) ≤ 8))) (et_or (et_not (et_B (ev_isi v2 hd (kit_tup d)))) fun ht => et_not (et_test (ev_chain ev_c (hlen (Ex.refl H) (by simpa using ht)) ev_c rv_I0 rv_I0)))
      (fun hb H1 e => s_ret ev_c fun H2 e2 => ?_) (fun hb H1 e => ?_)
    · have ez : wayB n r d = false := by
        unfold wayB
        cases ht : isTu d
        · simp
        · simp [ht] at hb
          have : (decide (2 ≤ (itemsT d).length) && decide ((itemsT d).length ≤ 8)) = false := by simp; omega
          rw [this]
          simp
      rw [ez] at k
      exact k _ (e.trans e2)
    · have ht : isTu d = true := by simp at hb; exact hb.1
      have hl : 2 ≤ (itemsT d).length ∧ (itemsT d).length ≤ 8 := by simp [ht] at hb; omega
      have hd1 := hd.mono e
      clear hd
      cases hd1 <;> first | (simp [isTu] at ht; done) | skip
      rename_i a xs ds h1 h2
      have hxl := h2.length
      have hl' : 2 ≤ ds.length ∧ ds.length ≤ 8 := hl
      refine q_when (b := !ds.all (isR n)) (et_not (et_B ?_)) (fun hb H2 e2 => s_ret ev_c fun H3 e3 => ?_) (fun hb H2 e2 => ?_)
      · have q := ev_allT (K := K) (H := H1) (j := 3) (vs := [3]) (σ := start ["size", "router", "thing", "item"] [.int n, .int r, .ref a]) (te := tCall spRouter [] E0 (tCons (tVar 0) (tCons (tVar 3) tNil))) (fun i => ((ds[i]?).map (isR n)).getD false) v2 (st_of h1) (by omega) (fun x => rfl)
          (fun i x H2 e2 hx => by
            obtain ⟨dx, e3, e4⟩ := h2.get hx
            rw [e3]
            exact ev_call (ea_cons (ev_var rfl) (ea_cons (ev_var rfl) ea_nil)) (spP_v fun H3 e5 => ⟨n, x, dx, rfl, (e4.mono e2).mono e5, rfl⟩))
        rw [hxl, all_get] at q
        exact q
      · have ez : wayB n r (.tuple ds) = false := by
          have hb' : ds.all (isR n) = false := by simpa using hb
          unfold wayB
          show (true && _ && (ds.all (isR n) && _)) = false
          rw [hb']
          simp
        rw [ez] at k
        exact k _ ((e.trans e2).trans e3)
      · have hall : ds.all (isR n) = true := by simpa using hb
        have eds := ints_of hall
        have exs : xs = (ds.map valI).map V.int := by rw [eds] at h2; exact h2.int_inv
        generalize hns : ds.map valI = ns at *
        have hnl : ns.length = ds.length := by rw [← hns, List.length_map]
        subst exs
        have h1' := e2 _ _ h1
        have ez : wayB n r (.tuple ds) = (decide (V.int (ns.getD 0 0) = V.int r) && (decide (V.int (ns.getLast?.getD 0) = V.int 0) && decide ns.Nodup)) := by
          unfold wayB
          show (true && (decide (2 ≤ ds.length) && decide (ds.length ≤ 8)) && (ds.all (isR n) && (decide ((ds.map valI)[0]? = some r) && (decide ((ds.map valI).getLast? = some 0) && decide (ds.map valI).Nodup)))) = _
          rw [hall, hns, decide_eq_true hl'.1, decide_eq_true hl'.2]
          cases ns with
          | nil => simp at hnl; omega
          | cons x l =>
            simp only [Bool.true_and, Bool.and_true, List.getElem?_cons_zero, List.getD_cons_zero, V.int.injEq, Option.some.injEq]
            rw [List.getLast?_eq_some_getLast (by simp)]
            simp
        rw [ez] at k
        have hg : ∃ z, ns.getLast? = some z := by
          cases ns with
          | nil => simp at hnl; omega
          | cons x l => exact ⟨_, List.getLast?_eq_some_getLast (by simp)⟩
        obtain ⟨z, hz⟩ := hg
        rw [hz] at k
        refine s_ret (ev_andV (ev_op (ev_op v2 ev_c (rv_ixT (st_of h1') (v := .int (ns.getD 0 0)) ?_)) v1 (rv_eq rfl)) fun _ => ev_andV (ev_op (ev_op v2 (ev_un ev_c ru_neg) (rv_ixT (st_of h1') (v := .int z) ?_)) ev_c (rv_eq rfl)) fun _ => ev_lenSU v2 (st_of h1') (by omega) ?_) fun H3 e3 => k _ ((e.trans e2).trans e3)
        · cases ns with
          | nil => simp at hnl; omega
          | cons x l => exact atI_nat (j := 0) (by simp)
        · exact getLast_atI (by rw [List.getLast?_map, hz]; rfl)
        · have q := ev_lenT (K := K) (ta := tVar 2) (σ := start ["size", "router", "thing", "item"] [.int n, .int r, .ref a]) (H := H2) v2 (st_of h1')
          rw [List.length_map] at q
          exact q
end
end Wk

set_option Elab.async false
set_option linter.all false
set_option maxRecDepth 100000
set_option maxHeartbeats 2000000
namespace Wk
open PySem PySem.Spec PyProof.Rows L2 Evl
/-- the routers of a way -/
def rts (d : PyData) : List Int := (itemsT d).map valI
/-- the item of a router -/
def rowB (n r : Int) (d : PyData) : Bool := isTu d && decide ((itemsT d).length ≤ 6) && (if r = 0 then decide ((itemsT d).length = 0) else ((itemsT d).all (wayB n r) && decide ((itemsT d).map rts).Nodup))
theorem way_ints {n r : Int} {d : PyData} (h : wayB n r d = true) : d = .tuple ((rts d).map PyData.int) ∧ (itemsT d).all (isR n) = true ∧ 2 ≤ (rts d).length ∧ (rts d).length ≤ 8 ∧ (rts d)[0]? = some r ∧ (rts d).getLast? = some 0 ∧ (rts d).Nodup := by
  unfold wayB at h
  simp only [Bool.and_eq_true, decide_eq_true_eq] at h
  obtain ⟨⟨ht, h1, h2⟩, h3, h4, h5, h6⟩ := h
  cases d <;> first | (simp [isTu] at ht; done) | skip
  rename_i ds
  have e := ints_of (ds := ds) h3
  have el : (rts (.tuple ds)).length = ds.length := List.length_map ..
  exact ⟨congrArg PyData.tuple e, h3, by rw [el]; exact h1, by rw [el]; exact h2, h4, h5, h6⟩
theorem ways_keys {G : Hp} {n r : Int} : ∀ {ds : List PyData} {vs : List V}, DqA G vs ds → ds.all (wayB n r) = true → ∃ ks : List (Addr × List Int), vs = ks.map (fun p => V.ref p.1) ∧ (∀ p ∈ ks, G p.1 = some (.tup (p.2.map V.int))) ∧ ks.map (·.2) = ds.map rts
  | [], _, .nil, _ => ⟨[], rfl, fun p hp => (by cases hp), rfl⟩
  | d :: ds, _, .cons h t, c => by
    have c' : wayB n r d = true ∧ ds.all (wayB n r) = true := by simpa using c
    obtain ⟨ks, e1, e2, e3⟩ := ways_keys t c'.2
    have ed := (way_ints c'.1).1
    generalize rts d = ns at ed
    have er : rts d = ns := by
      rw [ed]
      simp [rts, itemsT, valI, Function.comp_def]
    subst ed
    cases h with
    | tup ha hx =>
      rename_i a xs
      have ex := hx.int_inv
      subst ex
      refine ⟨(a, ns) :: ks, by rw [e1]; rfl, fun p hp => ?_, by simp [e3, er]⟩
      rcases List.mem_cons.mp hp with z | z
      · rw [z]; exact ha
      · exact e2 p z
section
variable {P : Program} {w : World} {K : PySem.W.Frag} {mg : Str → Option Value} {base : Heap} {f : Addr} {fd : FuncData}
abbrev spRow : Sp := spP fun H vs z => ∃ (n r : Int) (v : V) (d : PyData), vs = [.int n, .int r, v] ∧ Dq H v d ∧ z = .bl (rowB n r d)
abbrev sRow : Stmt := top 18
theorem scRow : FnScope ["size", "router", "thing", "way"] ["size", "router", "thing"] (defScope sRow) := ⟨rfl, rfl, rfl, by decide +kernel, rfl, by decide +kernel, by decide +kernel⟩
theorem ok_row (B : Bl mg) {t6 : Tok} (hM : mg "MOST_WAYS" = some (.int 6 t6)) (C : Cal P w K mg base "is_way" ["size", "router", "thing"] 5 spWay) (F : FnP K "is_way_list" sRow f fd) : FnOk P w K mg base CX0 6 f fd ["size", "router", "thing"] spRow := by
  refine F.ok scRow (fun vs H Q E h => ?_) (fun cdv A outer s H vs Q E hr h => ?_)
  · obtain ⟨z, ⟨n, r, v, d, rfl, _⟩, _⟩ := h
    rfl
  · obtain ⟨z, ⟨n, r, v, d, rfl, hd, rfl⟩, k⟩ := h
    have hu : (A.deeper (envOfC "is_way_list" (defScope sRow) s.heap.objs.size f cdv)).units + 64 < cLine := by have := hr.un; omega
    refine ⟨_, pss_cons (ps_if (PW.pt (pw_or (pt_not (pt_val (pe_callB call_isi (by rfl) B.isi boot_isinstance (pa_cons (pv 2) (pa_cons (pe_bltn (v := .ty "tuple") (by rfl) B.tuple PyProof.Rows.boot_tuple rfl) pa_nil)))))
        (pw_or1 (pt_cmpR op_gt (pe_callB call_len_seq (by rfl) B.len PySem.boot_len (pa_cons (pv 2) pa_nil)) (pe_glob (v := .int 6) (by rfl) hM ⟨_, rfl⟩) (nomark _))))) (pss_one (ps_ret pe_bl)) pss_nil)
      (pss_cons (ps_if (pt_cmpR op_eq (pv 1) pe_int (nomark _)) (pss_one (ps_ret (pe_cmpR op_eq (pe_callB call_len_seq (by rfl) B.len PySem.boot_len (pa_cons (pv 2) pa_nil)) pe_int (nomark _)))) pss_nil)
      (pss_one (ps_ret (pe_and (pe_callB (cr_all rfl) (by rfl) B.all boot_all (pa_cons (pe_lc (own := [("way", 3)]) (g := gName 3) (tt := tYes) rfl scRow.nd (pi_tup (pv 2)) (blkOk_by (N := ["size", "router", "thing", "way"]) (sc := defScope sRow) (by decide +kernel))
          (fun _ _ _ _ _ => pg_name (i := 3) scRow.nd rfl (Or.inl rfl)) (fun _ _ _ _ _ => pts_nil) (fun _ _ _ _ _ => pe_cal C hr (by rfl) (pa_cons (pv 0) (pa_cons (pv 1) (pa_cons (pv 3) pa_nil))))) pa_nil))
        (pe_one (pe_cmpR op_eq (pe_lenSUU rfl hu (by rfl) B.len (by rfl) B.set (pv 2)) (pe_callB call_len_seq (by rfl) B.len PySem.boot_len (pa_cons (pv 2) pa_nil)) (nomark _))))))), ?_⟩
    have v1 : ∀ {H1 : Hp}, Ev (tVar 1) (start ["size", "router", "thing", "way"] [.int n, .int r, v]) H1 (.int r) := ev_var rfl
    have v2 : ∀ {H1 : Hp}, Ev (tVar 2) (start ["size", "router", "thing", "way"] [.int n, .int r, v]) H1 v := ev_var rfl
    have hlen : ∀ {H1 : Hp}, Ex H H1 → isTu d = true → Ev (tCB (rLenS K) (tCons (tVar 2) tNil)) (start ["size", "router", "thing", "way"] [.int n, .int r, v]) H1 (.int ((itemsT d).length : Int)) := fun {H1} e ht => by
      cases hd <;> first | (simp [isTu] at ht; done) | skip
      rename_i a xs ds h1 h2
      rw [show (itemsT (.tuple ds)).length = xs.length from h2.length.symm]
      exact ev_lenT v2 (st_of (e _ _ h1))
    refine q_when (b := !isTu d || decide (((itemsT d).length : Int) > 6)) (et_or (et_not (et_B (ev_isi v2 hd (kit_tup d)))) fun ht => et_test (ev_op (hlen (Ex.refl H) (by simpa using ht)) ev_c rv_I0))
      (fun hb H1 e => s_ret ev_c fun H2 e2 => ?_) (fun hb H1 e => ?_)
    · have ez : rowB n r d = false := by
        unfold rowB
        cases ht : isTu d
        · simp
        · simp [ht] at hb
          have : decide ((itemsT d).length ≤ 6) = false := by simp; omega
          rw [this]
          simp
      rw [ez] at k
      exact k _ (e.trans e2)
    · have ht : isTu d = true := by simp at hb; exact hb.1
      have hl : (itemsT d).length ≤ 6 := by simp [ht] at hb; omega
      have er : rowB n r d = (if r = 0 then decide ((itemsT d).length = 0) else ((itemsT d).all (wayB n r) && decide ((itemsT d).map rts).Nodup)) := by
        unfold rowB
        rw [ht, decide_eq_true hl]
        simp
      rw [er] at k
      refine q_when (b := decide (V.int r = V.int 0)) (et_test (ev_op v1 ev_c (rv_eq rfl))) (fun hb H2 e2 => ?_) (fun hb H2 e2 => ?_)
      · have hr0 : r = 0 := by have := of_decide_eq_true hb; injection this
        rw [if_pos hr0] at k
        have q : Ev (tOp rEq (tCB (rLenS K) (tCons (tVar 2) tNil)) (tC (.int 0))) (start ["size", "router", "thing", "way"] [.int n, .int r, v]) H2 (.bl (decide (V.int ((itemsT d).length : Int) = V.int 0))) := ev_op (hlen (e.trans e2) ht) ev_c (rv_eq rfl)
        have ed : decide (V.int ((itemsT d).length : Int) = V.int 0) = decide ((itemsT d).length = 0) := by
          rw [decide_eq_decide]
          constructor
          · intro z
            injection z with z
            omega
          · intro z
            rw [z]
            rfl
        rw [ed] at q
        exact s_ret q fun H3 e3 => k _ ((e.trans e2).trans e3)
      · have hr0 : ¬ r = 0 := fun z => by rw [z] at hb; simp at hb
        rw [if_neg hr0] at k
        have hd1 := hd.mono (e.trans e2)
        clear hd er hlen
        cases hd1 <;> first | (simp [isTu] at ht; done) | skip
        rename_i a xs ds h1 h2
        have hxl := h2.length
        have hl' : ds.length ≤ 6 := hl
        refine s_ret (ev_andV (a := ds.all (wayB n r)) ?_ fun hall => ?_) fun H3 e3 => k _ ((e.trans e2).trans e3)
        · have q := ev_allT (K := K) (H := H2) (j := 3) (vs := [3]) (σ := start ["size", "router", "thing", "way"] [.int n, .int r, .ref a]) (te := tCall spWay [] E0 (tCons (tVar 0) (tCons (tVar 1) (tCons (tVar 3) tNil)))) (fun i => ((ds[i]?).map (wayB n r)).getD false) v2 (st_of h1) (by omega) (fun x => rfl)
            (fun i x H3 e3 hx => by
              obtain ⟨dx, e5, e4⟩ := h2.get hx
              rw [e5]
              exact ev_call (ea_cons (ev_var rfl) (ea_cons (ev_var rfl) (ea_cons (ev_var rfl) ea_nil))) (spP_v fun H4 e6 => ⟨n, r, x, dx, rfl, (e4.mono e3).mono e6, rfl⟩))
          rw [hxl, all_get] at q
          exact q
        · obtain ⟨ks, ek1, ek2, ek3⟩ := ways_keys h2 hall
          have hkl : ks.length = xs.length := by rw [ek1, List.length_map]
          have q := ev_lenSUU (K := K) (σ := start ["size", "router", "thing", "way"] [.int n, .int r, .ref a]) (H := H2) (ta := tVar 2) (tb := tCB (rLenS K) (tCons (tVar 2) tNil)) (l := a) (ks := ks) v2 (st_of (by rw [← ek1]; exact h1)) (fun p hp => st_of (ek2 p hp)) (by omega) (by rw [hkl]; exact ev_lenT v2 (st_of h1))
          rw [ek3] at q
          exact q
end
end Wk

set_option Elab.async false
set_option linter.all false
set_option maxRecDepth 100000
set_option maxHeartbeats 2000000
namespace Wk
open PySem PySem.Spec PyProof.Rows L2 Evl
theorem lay_ints : ∀ ns : List Int, PyData.canLayAll0 (ns.map PyData.int) = true
  | [] => by simp [PyData.canLayAll0]
  | n :: ns => by
    have h := lay_ints ns
    simp [PyData.canLayAll0, PyData.canLay0, h]
theorem depth_ints : ∀ ns : List Int, PyData.depthAll (ns.map PyData.int) = 0
  | [] => by simp [PyData.depthAll]
  | n :: ns => by
    have h := depth_ints ns
    simp [PyData.depthAll, PyData.depth, h]
theorem shaped_ints (ns : List Int) : SeqAt.shaped (.tuple (ns.map PyData.int)) = true := by
  unfold SeqAt.shaped
  have h1 := lay_ints ns
  have h2 := depth_ints ns
  simp [PyData.canLay0, PyData.depth, h1, h2]
theorem way_lay {n r : Int} {d : PyData} (h : wayB n r d = true) : d.canLay0 = true := by
  rw [(way_ints h).1]
  exact SeqAt.canLay_of_shaped (shaped_ints _)
theorem ways_lay {n r : Int} : ∀ {ds : List PyData}, ds.all (wayB n r) = true → PyData.canLayAll0 ds = true
  | [], _ => by simp [PyData.canLayAll0]
  | d :: ds, h => by
    have h' : wayB n r d = true ∧ ds.all (wayB n r) = true := by simpa using h
    simp [PyData.canLayAll0, way_lay h'.1, ways_lay h'.2]
theorem row_lay {n r : Int} {d : PyData} (h : rowB n r d = true) : ∃ ws, d = .tuple ws ∧ PyData.canLayAll0 ws = true ∧ ws.length ≤ 6 ∧ (r ≠ 0 → ws.all (wayB n r) = true) ∧ (r = 0 → ws = []) := by
  unfold rowB at h
  simp only [Bool.and_eq_true, decide_eq_true_eq] at h
  obtain ⟨⟨ht, h1⟩, h2⟩ := h
  cases d <;> first | (simp [isTu] at ht; done) | skip
  rename_i ws
  by_cases hr : r = 0
  · rw [if_pos hr] at h2
    have e : ws = [] := List.length_eq_zero_iff.mp (of_decide_eq_true h2)
    refine ⟨ws, rfl, by rw [e]; simp [PyData.canLayAll0], h1, fun z => absurd hr z, fun _ => e⟩
  · rw [if_neg hr] at h2
    have h3 := (Bool.and_eq_true_iff.mp h2).1
    exact ⟨ws, rfl, ways_lay h3, h1, fun _ => h3, fun z => absurd z hr⟩
/-- the rest of a way stands in the list of its router, or is the goal's -/
def restB (rows : List PyData) (w : PyData) : Bool := decide ((rts w).getD 1 0 = 0) || (itemsT (rows.getD ((rts w).getD 1 0).toNat .none)).any (fun z => PyData.eqv z (.tuple (((rts w).drop 1).map PyData.int)))
def Good (rows : List PyData) : Prop := ∀ (i : Nat) (row : PyData), rows[i]? = some row → rowB (rows.length : Int) (i : Int) row = true
theorem way_at {n r : Int} {w : PyData} {i : Nat} {x : Int} (h : wayB n r w = true) (e : (rts w)[i]? = some x) : 0 ≤ x ∧ x < n := by
  have hall := (way_ints h).2.1
  unfold rts at e
  rw [List.getElem?_map] at e
  cases hd : (itemsT w)[i]? with
  | none => rw [hd] at e; cases e
  | some d =>
    rw [hd] at e
    have hm : d ∈ itemsT w := List.mem_of_getElem? hd
    have hr : isR n d = true := List.all_eq_true.mp hall d hm
    unfold isR at hr
    simp only [Bool.and_eq_true, decide_eq_true_eq] at hr
    have ex : valI d = x := Option.some.inj e
    omega
theorem drop1 (ns : List Int) : cutV (ns.map V.int) (some 1) none = (ns.drop 1).map V.int := by
  unfold cutV
  have e1 : HT.sIx (ns.map V.int).length 0 (some 1) = min 1 (ns.map V.int).length := HT.sIx_nat _ _ 1
  rw [e1, HT.sIx_none]
  cases ns with
  | nil => rfl
  | cons x l =>
    simp
    exact List.take_of_length_le (by simp)
section
variable {P : Program} {w : World} {K : PySem.W.Frag} {mg : Str → Option Value} {base : Heap} {f : Addr} {fd : FuncData}
abbrev spRest : Sp := spP fun H vs z => ∃ (lv wv : V) (rows : List PyData) (w : PyData) (r : Int), vs = [lv, wv] ∧ Dq H lv (.tuple rows) ∧ Dq H wv w ∧ wayB (rows.length : Int) r w = true ∧ Good rows ∧ z = .bl (restB rows w)
abbrev sRest : Stmt := top 19
theorem scRest : FnScope ["lists", "way"] ["lists", "way"] (defScope sRest) := ⟨rfl, rfl, rfl, by decide +kernel, rfl, by decide +kernel, by decide +kernel⟩
theorem ok_rest (F : FnP K "has_let_rest" sRest f fd) : FnOk P w K mg base CX0 1 f fd ["lists", "way"] spRest := by
  refine F.ok scRest (fun vs H Q E h => ?_) (fun cdv A outer s H vs Q E hr h => ?_)
  · obtain ⟨z, ⟨lv, wv, rows, w, r, rfl, _⟩, _⟩ := h
    rfl
  · obtain ⟨z, ⟨lv, wv, rows, w, r, rfl, hl, hw, hway, hg, rfl⟩, k⟩ := h
    have hu : (A.deeper (envOfC "has_let_rest" (defScope sRest) s.heap.objs.size f cdv)).units + 66 < cLine := by have := hr.un; omega
    refine ⟨_, pss_one (ps_ret (pe_or (pe_cmpR op_eq (pe_ix ix_tup (pv 1) pe_int (fun _ _ => rfl)) pe_int (nomark _)) (pe_one (pe_cmpR (op_inU hu) (pe_slice sl_tupA (pv 1) (po_some pe_int) po_none) (pe_ix ix_tup (pv 0) (pe_ix ix_tup (pv 1) pe_int (fun _ _ => rfl)) (fun _ _ => rfl)) rfl)))), ?_⟩
    obtain ⟨ew, _, h2, _, _, _, _⟩ := way_ints hway
    unfold restB at k
    have hn1 : ∃ j, (rts w)[1]? = some j := ⟨_, List.getElem?_eq_getElem (by omega)⟩
    obtain ⟨j, hj⟩ := hn1
    obtain ⟨hj0, hjn⟩ := way_at hway hj
    have ejd : (rts w).getD 1 0 = j := by rw [List.getD_eq_getElem?_getD, hj]; rfl
    rw [ejd] at k
    generalize rts w = ns at *
    subst ew
    cases hw with
    | tup ha hx =>
      rename_i a xs
      have ex := hx.int_inv
      subst ex
      cases hl with
      | tup hb hy =>
        rename_i b ys
        have v0 : Ev (tVar 0) (start ["lists", "way"] [.ref b, .ref a]) H (.ref b) := ev_var rfl
        have v1 : Ev (tVar 1) (start ["lists", "way"] [.ref b, .ref a]) H (.ref a) := ev_var rfl
        have hat : atI (ns.map V.int) 1 = some (.int j) := atI_nat (j := 1) (by rw [List.getElem?_map, hj]; rfl)
        have i1 : Ev (tOp (rIxT K) (tVar 1) (tC (.int 1))) (start ["lists", "way"] [.ref b, .ref a]) H (.int j) := ev_op v1 ev_c (rv_ixT (st_of ha) hat)
        have ed : decide (V.int j = V.int 0) = decide (j = 0) := by rw [decide_eq_decide]; exact ⟨fun z => by injection z, fun z => by rw [z]⟩
        refine s_ret (ev_is (ev_orV (a := decide (V.int j = V.int 0)) (ev_op i1 ev_c (rv_eq rfl)) fun hne => ?_) (by rw [ed])) k
        have hjl : j.toNat < rows.length := by omega
        have hrow : rows[j.toNat]? = some rows[j.toNat] := List.getElem?_eq_getElem hjl
        have hgd : rows.getD j.toNat .none = rows[j.toNat] := by rw [List.getD_eq_getElem?_getD, hrow]; rfl
        obtain ⟨ws, ew, lay, _⟩ := row_lay (hg _ _ hrow)
        obtain ⟨rv, hrv, hdr⟩ := hy.at hrow
        rw [hgd, ew]
        rw [ew] at hdr
        have hat2 : atI ys j = some rv := by
          have q := atI_nat (j := j.toNat) hrv
          rw [Int.toNat_of_nonneg hj0] at q
          exact q
        intro H1 e Q2 q
        refine es_sl (K := K) v1 (eo_some ev_c) eo_none ha H1 e _ fun p H2 e2 hp => ?_
        rw [drop1] at hp
        refine ev_op (Ev.mono (e.trans e2) v0) (Ev.mono (e.trans e2) i1) (rv_ixT (st_of ((e.trans e2) _ _ hb)) hat2) H2 (Ex.refl H2) _ fun H3 e3 => ?_
        refine ⟨.tuple ((ns.drop 1).map PyData.int), ws, .tup (st_of (e3 _ _ hp)) (DqA.dp (lay_ints _) (DqA.ints _)), Dq.dp (by simpa [PyData.canLay0] using lay) (hdr.mono ((e.trans e2).trans e3)), shaped_ints _, lay, q H3 (e2.trans e3)⟩
end
end Wk

set_option Elab.async false
set_option linter.all false
set_option maxRecDepth 100000
set_option maxHeartbeats 2000000
namespace Wk
open PySem PySem.Spec PyProof.Rows L2 Evl
/-- what the text tells of an error class with one field, at C, its __init__ at fI -/
structure Err (P : Program) (w : World) (K : PySem.W.Frag) (mg : Str → Option Value) (base : Heap) (x : Str) (C : Addr) : Prop where
  g : mg x = some (.ref C)
  oex : OexC K C
  xf : XfC K C
  no : PySem.W.findIn K (.ref C) "router" = some none
  te : PySem.W.exmOne K (.ref C) (.ref C) = some true
  ini : ∃ (fI : Addr) (fd : FuncData), PySem.W.findIn K (.ref C) "__init__" = some (some (.ref fI)) ∧ PySem.W.typeIn K (.ref fI) = some (.type "function") ∧ FnOk P w K mg base CX0 1 fI fd ["self", "router"] (spXI C) ∧ Binds K fd ["self", "router"] []
theorem pmk_err {X : Cx} {x : Str} {C : Addr} {e : Expr} {ta : TA} {p pos : Pos} (T : Err X.prog X.w X.K X.mg X.base x C) (hr : Room 2 X.A) (hg : Gl X x) (ha : PA X [e] ta)
    (hdb : (x == ("__debug__" : Str)) = false := by decide) (he : starEach [e] X.env = (false, eval e X.env) :: starEach [] X.env := by rfl) (hpl : (backTo pos (starEach [] X.env)).any (·.1) = false := by rfl) : PMk X (.Call (.Name x p) [e] [] pos) (tMkO C (spXI C) [] ta) := by
  obtain ⟨fI, fd, h1, h2, h3, h4⟩ := T.ini
  exact pmk_oex T.oex h1 h2 h3 hr h4 .nil pass0 hg T.g ha hdb he hpl
/-- the first router whose item is wrong; the first with a way whose rest is not let -/
def fb (n : Int) : Nat → List PyData → Option Int
  | _, [] => none
  | i, d :: ds => if rowB n (i : Int) d = true then fb n (i + 1) ds else some (i : Int)
def sb (rows : List PyData) : Nat → List PyData → Option Int
  | _, [] => none
  | i, d :: ds => if (itemsT d).all (restB rows) = true then sb rows (i + 1) ds else some (i : Int)
def due2 (rows : List PyData) : Option Int := match fb (rows.length : Int) 0 rows with
  | some r => some r
  | none => sb rows 0 rows
def dueD (d : PyData) : Option Int := if isTu d = true ∧ 2 ≤ (itemsT d).length ∧ (itemsT d).length ≤ 8 then due2 (itemsT d) else some (-1)
theorem fb_drop {n : Int} : ∀ {ds : List PyData} {i j : Nat} {d : PyData}, ds[i]? = some d → fb n (j + i) (ds.drop i) = if rowB n ((j + i : Nat) : Int) d = true then fb n (j + (i + 1)) (ds.drop (i + 1)) else some ((j + i : Nat) : Int)
  | [], i, j, d, h => by simp at h
  | x :: ds, 0, j, d, h => by
    simp at h
    subst h
    rfl
  | x :: ds, i + 1, j, d, h => by
    have q := fb_drop (n := n) (ds := ds) (i := i) (j := j + 1) (d := d) (by simpa using h)
    simp only [List.drop_succ_cons]
    rw [show j + (i + 1) = j + 1 + i by omega, show j + (i + 1 + 1) = j + 1 + (i + 1) by omega]
    exact q
theorem sb_drop {rows : List PyData} : ∀ {ds : List PyData} {i j : Nat} {d : PyData}, ds[i]? = some d → sb rows (j + i) (ds.drop i) = if (itemsT d).all (restB rows) = true then sb rows (j + (i + 1)) (ds.drop (i + 1)) else some ((j + i : Nat) : Int)
  | [], i, j, d, h => by simp at h
  | x :: ds, 0, j, d, h => by
    simp at h
    subst h
    rfl
  | x :: ds, i + 1, j, d, h => by
    have q := sb_drop (rows := rows) (ds := ds) (i := i) (j := j + 1) (d := d) (by simpa using h)
    simp only [List.drop_succ_cons]
    rw [show j + (i + 1) = j + 1 + i by omega, show j + (i + 1 + 1) = j + 1 + (i + 1) by omega]
    exact q
theorem fb_good {n : Int} : ∀ {ds : List PyData} {j : Nat}, fb n j ds = none → ∀ (i : Nat) (d : PyData), ds[i]? = some d → rowB n ((j + i : Nat) : Int) d = true
  | [], _, _, i, d, h => by simp at h
  | x :: ds, j, hf, i, d, h => by
    unfold fb at hf
    by_cases hx : rowB n (j : Int) x = true
    · rw [if_pos hx] at hf
      cases i with
      | zero => simp at h; subst h; exact hx
      | succ i =>
        have q := fb_good hf i d (by simpa using h)
        rw [show j + (i + 1) = j + 1 + i by omega]
        exact q
    · rw [if_neg hx] at hf
      cases hf
theorem fb_Good {rows : List PyData} (h : fb (rows.length : Int) 0 rows = none) : Good rows := fun i row e => by
  have q := fb_good h i row e
  rw [Nat.zero_add] at q
  exact q
theorem g_two {i j : Nat} {x y : V} {σ : L2.St} {H : Hp} {k : L2.St → Hp → Prop} (h : k ((σ.set i (some x)).set j (some y)) H) : gCons (gName i) (gCons (gName j) gNil) [x, y] σ H k := ⟨_, _, rfl, ⟨_, _, rfl, ⟨rfl, h⟩⟩⟩
section
variable {P : Program} {w : World} {K : PySem.W.Frag} {mg : Str → Option Value} {base : Heap} {f : Addr} {fd : FuncData}
abbrev spSize : Sp := spP fun H vs z => ∃ (a : Int) (v : V) (d : PyData), vs = [.int a, v] ∧ Dq H v d ∧ z = .bl (isI d && (decide (a ≤ valI d) && decide (valI d ≤ 8)))
abbrev sSize : Stmt := top 11
theorem scSize : FnScope ["least", "thing"] ["least", "thing"] (defScope sSize) := ⟨rfl, rfl, rfl, by decide +kernel, rfl, by decide +kernel, by decide +kernel⟩
theorem ok_size {t8 : Tok} (hM : mg "MOST_ROUTERS" = some (.int 8 t8)) (C : Cal P w K mg base "is_between" ["least", "most", "thing"] 2 spBetween) (F : FnP K "is_size" sSize f fd) : FnOk P w K mg base CX0 3 f fd ["least", "thing"] spSize := by
  refine F.ok scSize (fun vs H Q E h => ?_) (fun cdv A outer s H vs Q E hr h => ?_)
  · obtain ⟨z, ⟨n, v, d, rfl, _⟩, _⟩ := h
    rfl
  · obtain ⟨z, ⟨n, v, d, rfl, hd, rfl⟩, k⟩ := h
    refine ⟨_, pss_one (ps_ret (pe_cal C hr (by rfl) (pa_cons (pv 0) (pa_cons (pe_glob (v := .int 8) (by rfl) hM ⟨_, rfl⟩) (pa_cons (pv 1) pa_nil))))), ?_⟩
    exact s_ret (ev_call (ea_cons (ev_var rfl) (ea_cons ev_c (ea_cons (ev_var rfl) ea_nil))) (spP_v fun H1 e => ⟨n, 8, v, d, rfl, hd.mono e, rfl⟩)) k
def spRefuse (CB : Addr) : Sp := fun vs H Q E => ∃ v d, vs = [v] ∧ Dq H v d ∧ (dueD d = none → ∀ H', Ex H H' → Q .non H') ∧ ∀ r, dueD d = some r → ∀ dx H', H dx = none → Ex H H' → H' dx = some (.xd [("router", .int r)]) → E (.ref CB) (some dx) H'
abbrev sRefuse : Stmt := top 17
abbrev nRefuse : List Str := ["lists", "router", "item", "way"]
theorem scRefuse : FnScope nRefuse ["lists"] (defScope sRefuse) := ⟨rfl, rfl, rfl, by decide +kernel, rfl, by decide +kernel, by decide +kernel⟩
theorem ok_refuse {CB : Addr} (B : Bl mg) {t2 : Tok} (hM : mg "LEAST_ROUTERS" = some (.int 2 t2)) (CS : Cal P w K mg base "is_size" ["least", "thing"] 3 spSize) (T : Err P w K mg base "BadWishes" CB) (C : Cal P w K mg base "is_way_list" ["size", "router", "thing"] 6 spRow) (C2 : Cal P w K mg base "has_let_rest" ["lists", "way"] 1 spRest)
    (F : FnP K "refuse_wrong_lists" sRefuse f fd) : FnOk P w K mg base (L2.CX P w) 7 f fd ["lists"] (spRefuse CB) := by
  refine F.ok scRefuse (fun vs H Q E h => ?_) (fun cdv A outer s H vs Q E hr h => ?_)
  · obtain ⟨v, d, rfl, _⟩ := h
    rfl
  · obtain ⟨v, d, rfl, hd, kN, kE⟩ := h
    have hr2 : Room 2 _ := hr.mono (by decide)
    have hr1 : Room 1 _ := hr.mono (by decide)
    refine ⟨_, pss_cons (ps_if (PW.pt (pw_or (pt_not (pt_val (pe_callB call_isi (by rfl) B.isi boot_isinstance (pa_cons (pv 0) (pa_cons (pe_bltn (v := .ty "tuple") (by rfl) B.tuple PyProof.Rows.boot_tuple rfl) pa_nil)))))
        (pw_or1 (pt_not (pt_val (pe_cal CS hr (by rfl) (pa_cons (pe_glob (v := .int 2) (by rfl) hM ⟨_, rfl⟩) (pa_cons (pe_callB call_len_seq (by rfl) B.len PySem.boot_len (pa_cons (pv 0) pa_nil)) pa_nil)))))))) (pss_one (ps_raise rfl (takes_of rfl rfl rfl rfl) (pmk_err T hr2 (by rfl) (pa_cons (pe_un un_neg pe_int) pa_nil)))) pss_nil)
      (pss_cons (ps_for (passes_of rfl) rfl (pi_enumT (by rfl) B.enum (pa_cons (pv 0) pa_nil)) (pg_tup rfl (pgs_cons (pg_name (i := 1) scRefuse.nd rfl (.inl rfl)) (pgs_cons (pg_name (i := 2) scRefuse.nd rfl (.inl rfl)) pgs_nil)))
        (pss_one (ps_if (pt_not (pt_val (pe_cal C hr (by rfl) (pa_cons (pe_callB call_len_seq (by rfl) B.len PySem.boot_len (pa_cons (pv 0) pa_nil)) (pa_cons (pv 1) (pa_cons (pv 2) pa_nil)))))) (pss_one (ps_raise rfl (takes_of rfl rfl rfl rfl) (pmk_err T hr2 (by rfl) (pa_cons (pv 1) pa_nil)))) pss_nil)))
      (pss_one (ps_for (passes_of rfl) rfl (pi_enumT (by rfl) B.enum (pa_cons (pv 0) pa_nil)) (pg_tup rfl (pgs_cons (pg_name (i := 1) scRefuse.nd rfl (.inl rfl)) (pgs_cons (pg_name (i := 2) scRefuse.nd rfl (.inl rfl)) pgs_nil)))
        (pss_one (ps_if (pt_not (pt_val (pe_callB (cr_all rfl) (by rfl) B.all boot_all (pa_cons (pe_lc (own := [("way", 3)]) (g := gName 3) (tt := tYes) rfl scRefuse.nd (pi_tup (pv 2)) (blkOk_by (N := nRefuse) (sc := defScope sRefuse) (by decide +kernel))
          (fun _ _ _ _ _ => pg_name (i := 3) scRefuse.nd rfl (Or.inl rfl)) (fun _ _ _ _ _ => pts_nil) (fun _ _ _ _ _ => pe_cal C2 hr1 (by rfl) (pa_cons (pv 0) (pa_cons (pv 3) pa_nil)))) pa_nil)))) (pss_one (ps_raise rfl (takes_of rfl rfl rfl rfl) (pmk_err T hr2 (by rfl) (pa_cons (pv 1) pa_nil)))) pss_nil))))), ?_⟩
    have v0 : ∀ {H1 : Hp} {o1 o2 o3 : Option V}, Ev (tVar 0) [some v, o1, o2, o3] H1 v := ev_var rfl
    have hlen : ∀ {H1 : Hp} {o1 o2 o3 : Option V}, Ex H H1 → isTu d = true → Ev (tCB (rLenS K) (tCons (tVar 0) tNil)) [some v, o1, o2, o3] H1 (.int ((itemsT d).length : Int)) := fun {H1 o1 o2 o3} e ht => by
      cases hd <;> first | (simp [isTu] at ht; done) | skip
      rename_i a xs ds h1 h2
      rw [show (itemsT (.tuple ds)).length = xs.length from h2.length.symm]
      exact ev_lenT v0 (st_of (e _ _ h1))
    refine q_when (b := !isTu d || !(decide (2 ≤ ((itemsT d).length : Int)) && decide (((itemsT d).length : Int) ≤ 8))) (et_or (et_not (et_B (ev_isi (v0 (H1 := H)) hd (kit_tup d)))) fun ht => et_not (et_B (ev_call (ea_cons ev_c (ea_cons (hlen (Ex.refl H) (by simpa using ht)) ea_nil)) (spP_v fun H1 e => ⟨2, _, _, rfl, .int _, rfl⟩))))
      (fun hb H1 e => ?_) (fun hb H1 e => ?_)
    · refine mk_err (ev_un ev_c ru_neg) fun dx H' h0 e' hx => kE (-1) ?_ dx H' (fresh_back e h0) (e.trans e') hx
      unfold dueD
      rw [if_neg]
      intro z
      obtain ⟨z1, z2, z3⟩ := z
      simp [z1] at hb
      omega
    · have ht : isTu d = true := by simp at hb; exact hb.1
      have hl : 2 ≤ (itemsT d).length ∧ (itemsT d).length ≤ 8 := by simp [ht] at hb; omega
      have edue : dueD d = due2 (itemsT d) := by unfold dueD; rw [if_pos ⟨ht, hl⟩]
      rw [edue] at kN kE
      cases hd <;> first | (simp [isTu] at ht; done) | skip
      rename_i a xs rows h1 h2
      have hlen' : ∀ {H1 : Hp} {o1 o2 o3 : Option V}, Ex H H1 → Ev (tCB (rLenS K) (tCons (tVar 0) tNil)) [some (.ref a), o1, o2, o3] H1 (.int (rows.length : Int)) := fun {_ _ _ _} e => hlen e rfl
      have kN' : due2 rows = none → ∀ H', Ex H H' → Q .non H' := kN
      have kE' : ∀ r, due2 rows = some r → ∀ dx H', H dx = none → Ex H H' → H' dx = some (.xd [("router", .int r)]) → E (.ref CB) (some dx) H' := kE
      have hl' : 2 ≤ rows.length ∧ rows.length ≤ 8 := hl
      clear kN kE hlen edue hl hb
      have hxl := h2.length
      refine q_forEn (K := K) (v0 (H1 := H1)) (st_of (e _ _ h1)) (fun i σ H' => Ex H H' ∧ (∃ o1 o2, σ = [some (.ref a), o1, o2, none]) ∧ fb (rows.length : Int) 0 rows = fb (rows.length : Int) i (rows.drop i)) (fun H2 e2 => ⟨e.trans e2, ⟨none, none, rfl⟩, rfl⟩) (fun i σ H' _ p => st_of (p.1 _ _ h1)) ?_ ?_
      · rintro i z T σ H3 hz ⟨e3, ⟨o1, o2, rfl⟩, hf⟩ hT
        obtain ⟨dz, ed1, ed2⟩ := h2.get hz
        have e4 : Ex H3 (upd H3 T (.tup [.int (i : Nat), z])) := Ex.new hT
        refine ⟨T, _, rfl, st_of upd_same, rfl, g_two ?_⟩
        change tIfS _ _ _ _ [some (.ref a), some (.int (i : Nat)), some z, none] _
        have hdrop := fb_drop (n := (rows.length : Int)) (j := 0) ed1
        rw [Nat.zero_add, Nat.zero_add] at hdrop
        refine s_when (b := !rowB (rows.length : Int) (i : Int) dz) (et_not (et_B (ev_call (ea_cons (hlen' (e3.trans e4)) (ea_cons (ev_var rfl) (ea_cons (ev_var rfl) ea_nil))) (spP_v fun H5 e5 => ⟨_, _, z, dz, rfl, ed2.mono ((e3.trans e4).trans e5), rfl⟩)))) (fun hb H5 e5 => ?_) (fun hb H5 e5 => ?_)
        · refine mk_err (ev_var rfl) fun dx H' h0 e' hx => kE' (i : Int) ?_ dx H' (fresh_back ((e3.trans e4).trans e5) h0) (((e3.trans e4).trans e5).trans e') hx
          have hb' : rowB (rows.length : Int) (i : Int) dz = false := by simpa using hb
          unfold due2
          rw [hf, hdrop, hb']
          rfl
        · have hb' : rowB (rows.length : Int) (i : Int) dz = true := by simpa using hb
          refine ⟨(e3.trans e4).trans e5, ⟨_, _, rfl⟩, ?_⟩
          rw [hf, hdrop, hb']
          rfl
      · rintro σ H3 ⟨e3, ⟨o1, o2, rfl⟩, hf⟩
        have hfn : fb (rows.length : Int) 0 rows = none := by
          rw [hf, hxl, List.drop_length]
          rfl
        have hG := fb_Good hfn
        have edue : due2 rows = sb rows 0 rows := by unfold due2; rw [hfn]
        rw [edue] at kN' kE'
        refine s_forEn (K := K) (v0 (H1 := H3)) (st_of (e3 _ _ h1)) (fun i σ H' => Ex H H' ∧ (∃ o1 o2, σ = [some (.ref a), o1, o2, none]) ∧ sb rows 0 rows = sb rows i (rows.drop i)) (fun H4 e4 => ⟨e3.trans e4, ⟨_, _, rfl⟩, rfl⟩) (fun i σ H' _ p => st_of (p.1 _ _ h1)) ?_ ?_
        · rintro i z T σ H5 hz ⟨e5, ⟨p1, p2, rfl⟩, hs⟩ hT
          obtain ⟨dz, ed1, ed2⟩ := h2.get hz
          have e6 : Ex H5 (upd H5 T (.tup [.int (i : Nat), z])) := Ex.new hT
          refine ⟨T, _, rfl, st_of upd_same, rfl, g_two ?_⟩
          change tIfS _ _ _ _ [some (.ref a), some (.int (i : Nat)), some z, none] _
          have hdrop := sb_drop (rows := rows) (j := 0) ed1
          rw [Nat.zero_add, Nat.zero_add] at hdrop
          obtain ⟨ws, ew, lay, hwl, hways, hw0⟩ := row_lay (hG i dz ed1)
          subst ew
          have hwall : ∀ w ∈ ws, wayB (rows.length : Int) (i : Int) w = true := fun w hw => by
            by_cases hi0 : (i : Int) = 0
            · rw [hw0 hi0] at hw
              cases hw
            · exact List.all_eq_true.mp (hways hi0) w hw
          have ed3 := ed2.mono (e5.trans e6)
          cases ed3 with
          | tup hz1 hz2 =>
            rename_i az zs
            have hzl := hz2.length
            refine s_when (b := !ws.all (restB rows)) (et_not (et_B ?_)) (fun hb H7 e7 => ?_) (fun hb H7 e7 => ?_)
            · have q := ev_allT (K := K) (H := upd H5 T (.tup [.int (i : Nat), .ref az])) (j := 3) (vs := [3]) (σ := [some (.ref a), some (.int (i : Nat)), some (.ref az), none]) (tl := tVar 2) (te := tCall spRest [] E0 (tCons (tVar 0) (tCons (tVar 3) tNil))) (fun k => ((ws[k]?).map (restB rows)).getD false) (ev_var rfl) (st_of hz1) (by omega) (fun x => rfl)
                (fun k x H8 e8 hx => by
                  obtain ⟨dx, e9, e10⟩ := hz2.get hx
                  rw [e9]
                  exact ev_call (ea_cons (ev_var rfl) (ea_cons (ev_var rfl) ea_nil)) (spP_v fun H9 e11 => ⟨.ref a, x, rows, dx, (i : Int), rfl, .tup ((((e5.trans e6).trans e8).trans e11) _ _ h1) (h2.mono (((e5.trans e6).trans e8).trans e11)), (e10.mono e8).mono e11, hwall dx (List.mem_of_getElem? e9), hG, rfl⟩))
              rw [hzl, all_get] at q
              exact q
            · refine mk_err (ev_var rfl) fun dx H' h0 e' hx => kE' (i : Int) ?_ dx H' (fresh_back ((e5.trans e6).trans e7) h0) (((e5.trans e6).trans e7).trans e') hx
              have hb' : ws.all (restB rows) = false := by simpa using hb
              rw [hs, hdrop, show (itemsT (.tuple ws)).all (restB rows) = false from hb']
              rfl
            · have hb' : ws.all (restB rows) = true := by simpa using hb
              refine ⟨(e5.trans e6).trans e7, ⟨_, _, rfl⟩, ?_⟩
              rw [hs, hdrop, show (itemsT (.tuple ws)).all (restB rows) = true from hb']
              rfl
        · rintro σ H5 ⟨e5, ⟨p1, p2, rfl⟩, hs⟩
          refine kN' ?_ H5 e5
          rw [hs, hxl, List.drop_length]
          rfl
end
end Wk

set_option Elab.async false
set_option linter.all false
set_option maxRecDepth 100000
set_option maxHeartbeats 2000000
namespace Wk
open PySem PySem.Spec PyProof.Rows L2 Evl
abbrev FnM (K : PySem.W.Frag) (x q : Str) (st : Stmt) (f : Addr) (fd : FuncData) : Prop := FunD K x q (defArgs st) (defBody st) (defScope st) [] [] f fd
/-- the fields of wishes -/
def wf (n : Int) (v : V) : List (Str × V) := putF "_lists" v (putF "size" (.int n) [])
theorem wf_size (n : Int) (v : V) : (wf n v).lookup ("size" : Str) = some (.int n) := by
  unfold wf
  rw [lookup_putF, if_neg (by decide +kernel), lookup_putF, if_pos rfl]
theorem wf_lists (n : Int) (v : V) : (wf n v).lookup ("_lists" : Str) = some v := by
  unfold wf
  rw [lookup_putF, if_pos rfl]
theorem wf_no (n : Int) (v : V) {m : Str} (h1 : ¬ m = "_lists") (h2 : ¬ m = "size") : (wf n v).lookup m = none := by
  unfold wf
  rw [lookup_putF, if_neg h1, lookup_putF, if_neg h2]
  rfl
section
variable {P : Program} {w : World} {K : PySem.W.Frag} {mg : Str → Option Value} {base : Heap} {f : Addr} {fd : FuncData}
abbrev sXN : Stmt := inClass (top 3) 0
abbrev sXB : Stmt := inClass (top 4) 0
theorem scXN : FnScope ["self", "router"] ["self", "router"] (defScope sXN) := ⟨rfl, rfl, rfl, by decide +kernel, rfl, by decide +kernel, by decide +kernel⟩
theorem scXB : FnScope ["self", "router"] ["self", "router"] (defScope sXB) := ⟨rfl, rfl, rfl, by decide +kernel, rfl, by decide +kernel, by decide +kernel⟩
theorem ok_xn {C : Addr} (T : OexC K C) (no : PySem.W.findIn K (.ref C) "router" = some none) (F : FnM K "__init__" "NoRouter.__init__" sXN f fd) : FnOk P w K mg base CX0 1 f fd ["self", "router"] (spXI C) := by
  refine F.ok scXN (fun vs H Q E h => ?_) (fun cdv A outer s H vs Q E hr h => ?_)
  · obtain ⟨a, y, rfl, _⟩ := h
    rfl
  · obtain ⟨a, y, rfl, ha, k⟩ := h
    exact ⟨_, pss_one (ps_ost (pv 0) (pv 1)), y, rfl, .ref a, rfl, a, C, rfl, T, no, .inl ⟨ha, k⟩⟩
theorem ok_xb {C : Addr} (T : OexC K C) (no : PySem.W.findIn K (.ref C) "router" = some none) (F : FnM K "__init__" "BadWishes.__init__" sXB f fd) : FnOk P w K mg base CX0 1 f fd ["self", "router"] (spXI C) := by
  refine F.ok scXB (fun vs H Q E h => ?_) (fun cdv A outer s H vs Q E hr h => ?_)
  · obtain ⟨a, y, rfl, _⟩ := h
    rfl
  · obtain ⟨a, y, rfl, ha, k⟩ := h
    exact ⟨_, pss_one (ps_ost (pv 0) (pv 1)), y, rfl, .ref a, rfl, a, C, rfl, T, no, .inl ⟨ha, k⟩⟩
/-! Wishes.__init__ -/
structure CalX (P : Program) (w : World) (K : PySem.W.Frag) (mg : Str → Option Value) (base : Heap) (x : Str) (ps : List Str) (k : Nat) (sp : Sp) : Prop where
  ex : ∃ (f : Addr) (fd : FuncData), FnOk P w K mg base (L2.CX P w) k f fd ps sp ∧ mg x = some (.ref f) ∧ PySem.W.keepIn K (.ref f) = true ∧ Binds K fd ps []
def spWI (CW CB : Addr) : Sp := fun vs H Q E => ∃ (G : Hp) (p dx : Addr) (v : V) (d : PyData), vs = [.ref p, v] ∧ H p = some (.ins CW dx []) ∧ Ex G H ∧ G p = none ∧ Dq G v d ∧
  (dueD d = none → ∀ H', Ex G H' → H' p = some (.ins CW dx (wf ((itemsT d).length : Int) v)) → Q .non H') ∧ ∀ r, dueD d = some r → ∀ dx H', H dx = none → Ex H H' → H' dx = some (.xd [("router", .int r)]) → E (.ref CB) (some dx) H'
abbrev sWI : Stmt := inClass (top 16) 0
theorem scWI : FnScope ["self", "lists"] ["self", "lists"] (defScope sWI) := ⟨rfl, rfl, rfl, by decide +kernel, rfl, by decide +kernel, by decide +kernel⟩
theorem due_none {d : PyData} (h : dueD d = none) : isTu d = true ∧ 2 ≤ (itemsT d).length ∧ (itemsT d).length ≤ 8 ∧ due2 (itemsT d) = none := by
  unfold dueD at h
  by_cases c : isTu d = true ∧ 2 ≤ (itemsT d).length ∧ (itemsT d).length ≤ 8
  · rw [if_pos c] at h
    exact ⟨c.1, c.2.1, c.2.2, h⟩
  · rw [if_neg c] at h
    cases h
structure WTx (K : PySem.W.Frag) (mg : Str → Option Value) (CW : Addr) : Prop where
  cl : Cls K CW
  nS : NoAttr K CW "size"
  nL : NoAttr K CW "_lists"
  g : mg "Wishes" = some (.ref CW)
theorem ok_wi {CW CB : Addr} (B : Bl mg) (T : WTx K mg CW) (C : CalX P w K mg base "refuse_wrong_lists" ["lists"] 7 (spRefuse CB)) (F : FnM K "__init__" "Wishes.__init__" sWI f fd) : FnOk P w K mg base (L2.CX P w) 8 f fd ["self", "lists"] (spWI CW CB) := by
  obtain ⟨fR, fdR, FR, gR, kR, bR⟩ := C.ex
  refine F.ok scWI (fun vs H Q E h => ?_) (fun cdv A outer s H vs Q E hr h => ?_)
  · obtain ⟨G, p, dx, v, d, rfl, _⟩ := h
    rfl
  · obtain ⟨G, p, dx, v, d, rfl, hp, eG, gp, hd, kN, kE⟩ := h
    refine ⟨_, pss_cons (ps_expr (pe_call FR hr (by rfl) gR kR bR .nil (passes_call (takes_of rfl rfl rfl rfl) (fun _ _ _ _ h => h)) (pa_cons (pv 1) pa_nil)))
      (pss_cons (ps_fld (pv 0) (pe_callB call_len_seq (by rfl) B.len PySem.boot_len (pa_cons (pv 1) pa_nil)) rfl) (pss_one (ps_fld (pv 0) (pv 1) rfl))), ?_⟩
    refine ⟨v, rfl, v, d, rfl, hd.mono eG, fun hn H1 e1 => ?_, kE⟩
    obtain ⟨ht, hl2, hl8, hdu⟩ := due_none hn
    have hp1 := e1 _ _ hp
    have hd1 := hd.mono (eG.trans e1)
    have kN' := kN hn
    cases hd1 <;> first | (simp [isTu] at ht; done) | skip
    rename_i a xs rows h1 h2
    have npa : a ≠ p := fun z => by rw [z, hp1] at h1; cases h1
    refine ⟨.ref a, rfl, a, xs, rfl, .inr (st_of h1), .ref p, rfl, p, CW, dx, [], rfl, hp1, T.cl, T.nS, (by show 0 < 1000; decide), ?_⟩
    refine ⟨.ref a, rfl, .ref p, rfl, p, CW, dx, _, rfl, upd_same, T.cl, T.nL, (by show 1 < 1000; decide), ?_⟩
    refine kN' _ (fun b o hb => ?_) ?_
    · have nb : b ≠ p := fun z => by rw [z, gp] at hb; cases hb
      rw [upd_ne nb, upd_ne nb]
      exact e1 _ _ (eG _ _ hb)
    · rw [upd_same, h2.length]
      rfl
/-! refuse_no_router -/
def spNoRt (CN : Addr) : Sp := fun vs H Q E => ∃ (n : Int) (v : V) (d : PyData), vs = [.int n, v] ∧ Dq H v d ∧ (isR n d = true → ∀ H', Ex H H' → Q .non H') ∧ (isR n d = false → ∀ dx H', H dx = none → Ex H H' → H' dx = some (.xd [("router", v)]) → E (.ref CN) (some dx) H')
abbrev sNoRt : Stmt := top 10
theorem scNoRt : FnScope ["size", "thing"] ["size", "thing"] (defScope sNoRt) := ⟨rfl, rfl, rfl, by decide +kernel, rfl, by decide +kernel, by decide +kernel⟩
theorem ok_noRt {CN : Addr} (TN : Err P w K mg base "NoRouter" CN) (C : Cal P w K mg base "is_router" ["size", "thing"] 3 spRouter) (F : FnP K "refuse_no_router" sNoRt f fd) : FnOk P w K mg base (L2.CX P w) 4 f fd ["size", "thing"] (spNoRt CN) := by
  refine F.ok scNoRt (fun vs H Q E h => ?_) (fun cdv A outer s H vs Q E hr h => ?_)
  · obtain ⟨n, v, d, rfl, _⟩ := h
    rfl
  · obtain ⟨n, v, d, rfl, hd, kQ, kE⟩ := h
    have hr2 : Room 2 _ := hr.mono (by decide)
    refine ⟨_, pss_one (ps_if (pt_not (pt_val (pe_cal C hr (by rfl) (pa_cons (pv 0) (pa_cons (pv 1) pa_nil))))) (pss_one (ps_raise rfl (takes_of rfl rfl rfl rfl) (pmk_err TN hr2 (by rfl) (pa_cons (pv 1) pa_nil)))) pss_nil), ?_⟩
    refine s_when (b := !isR n d) (et_not (et_B (ev_call (ea_cons (ev_var rfl) (ea_cons (ev_var rfl) ea_nil)) (spP_v fun H1 e => ⟨_, v, d, rfl, hd.mono e, rfl⟩)))) (fun hb H1 e => ?_) (fun hb H1 e => ?_)
    · exact mk_err (ev_var rfl) fun dx H' h0 e' hx => kE (by simpa using hb) dx H' (fresh_back e h0) (e.trans e') hx
    · exact kQ (by simpa using hb) H1 e
/-! Wishes.ways -/
def spWays (CW CN : Addr) : Sp := fun vs H Q E => ∃ (p dx : Addr) (lv v : V) (d : PyData) (rows : List PyData), vs = [.ref p, v] ∧ H p = some (.ins CW dx (wf (rows.length : Int) lv)) ∧ Dq H lv (.tuple rows) ∧ Dq H v d ∧
  (isR (rows.length : Int) d = true → ∀ v' row H', rows[(valI d).toNat]? = some row → Dq H v' row → Ex H H' → Q v' H') ∧ (isR (rows.length : Int) d = false → ∀ dx H', H dx = none → Ex H H' → H' dx = some (.xd [("router", v)]) → E (.ref CN) (some dx) H')
abbrev sWays : Stmt := inClass (top 16) 2
theorem scWays : FnScope ["self", "router"] ["self", "router"] (defScope sWays) := ⟨rfl, rfl, rfl, by decide +kernel, rfl, by decide +kernel, by decide +kernel⟩
theorem ok_ways {CW CN : Addr} (T : WTx K mg CW) (C : CalX P w K mg base "refuse_no_router" ["size", "thing"] 4 (spNoRt CN)) (F : FnM K "ways" "Wishes.ways" sWays f fd) : FnOk P w K mg base (L2.CX P w) 5 f fd ["self", "router"] (spWays CW CN) := by
  obtain ⟨fR, fdR, FR, gR, kR, bR⟩ := C.ex
  refine F.ok scWays (fun vs H Q E h => ?_) (fun cdv A outer s H vs Q E hr h => ?_)
  · obtain ⟨p, dx, lv, v, d, rows, rfl, _⟩ := h
    rfl
  · obtain ⟨p, dx, lv, v, d, rows, rfl, hp, hl, hd, kQ, kE⟩ := h
    have hr2 : Room 2 _ := hr.mono (by decide)
    refine ⟨_, pss_cons (ps_expr (pe_call FR hr (by rfl) gR kR bR .nil (passes_call (takes_of rfl rfl rfl rfl) (fun _ _ _ _ h => h)) (pa_cons (pe_fld (pv 0) rfl) (pa_cons (pv 1) pa_nil))))
      (pss_one (ps_ret (pe_ix ix_tup (pe_fld (pv 0) rfl) (pv 1) (fun _ _ => rfl)))), ?_⟩
    have v1 : ∀ {H1 : Hp}, Ev (tVar 1) (start ["self", "router"] [.ref p, v]) H1 v := ev_var rfl
    have fS : Ev (tFld K (tVar 0) "size") (start ["self", "router"] [.ref p, v]) H (.int (rows.length : Int)) := fun H1 e Q2 q => ⟨.ref p, rfl, p, CW, dx, _, _, rfl, e _ _ hp, T.cl, T.nS, wf_size _ _, q H1 (Ex.refl H1)⟩
    refine ⟨.ref p, rfl, p, CW, dx, _, _, rfl, hp, T.cl, T.nS, wf_size _ _, v, rfl, _, v, d, rfl, hd, fun hR H1 e => ?_, fun hb dx' H' h0 e' hx => kE hb dx' H' h0 e' hx⟩
    · skip
      have hR' := hR
      unfold isR at hR'
      simp only [Bool.and_eq_true, decide_eq_true_eq] at hR'
      obtain ⟨hi, h0, hn⟩ := hR'
      have ei := isI_eq hi
      generalize valI d = j at *
      subst ei
      cases hd
      cases hl with
      | tup ha hx =>
        rename_i a xs
        have hjl : j.toNat < rows.length := by omega
        have hrow : rows[j.toNat]? = some rows[j.toNat] := List.getElem?_eq_getElem hjl
        obtain ⟨rv, hrv, hdr⟩ := hx.at hrow
        have hat : atI xs j = some rv := by
          have q := atI_nat (j := j.toNat) hrv
          rw [Int.toNat_of_nonneg h0] at q
          exact q
        have fL : Ev (tFld K (tVar 0) "_lists") (start ["self", "router"] [.ref p, .int j]) H1 (.ref a) := fun H2 e2 Q2 q => ⟨.ref p, rfl, p, CW, dx, _, _, rfl, e2 _ _ (e _ _ hp), T.cl, T.nL, wf_lists _ _, q H2 (Ex.refl H2)⟩
        exact s_ret (ev_op fL v1 (rv_ixT (st_of (e _ _ ha)) hat)) fun H2 e2 => kQ hR rv _ H2 hrow hdr (e.trans e2)
end
end Wk

set_option Elab.async false
set_option linter.all false
set_option maxRecDepth 100000
set_option maxHeartbeats 2000000
namespace Wk
open PySem PySem.Spec PyProof.Rows L2 Evl
theorem eqv_ints : ∀ a b : List Int, PyData.eqvAll (a.map PyData.int) (b.map PyData.int) = decide (a = b)
  | [], [] => by simp [PyData.eqvAll]
  | [], _ :: _ => by simp [PyData.eqvAll]
  | _ :: _, [] => by simp [PyData.eqvAll]
  | x :: a, y :: b => by
    have ih := eqv_ints a b
    simp only [List.map_cons, PyData.eqvAll, PyData.eqv, ih]
    by_cases h : x = y
    · subst h; simp
    · have : (x == y) = false := by simpa using h
      simp [this, h]
theorem eqv_way {n r m q : Int} {d e : PyData} (h1 : wayB n r d = true) (h2 : wayB m q e = true) : PyData.eqv d e = decide (rts d = rts e) := by
  have e1 := (way_ints h1).1
  have e2 := (way_ints h2).1
  generalize hx : rts d = a at *
  generalize hy : rts e = b at *
  rw [e1, e2]
  show PyData.eqvAll _ _ = _
  exact eqv_ints a b
theorem inV_ints (x : Int) : ∀ ns : List Int, inV (.int x) (ns.map V.int) = decide (x ∈ ns)
  | [] => rfl
  | n :: ns => by
    have ih := inV_ints x ns
    unfold inV at *
    rw [List.map_cons, List.any_cons, ih]
    show ((n == x) || _) = _
    by_cases h : n = x
    · subst h; simp
    · have : (n == x) = false := by simpa using h
      rw [this]
      simp [Ne.symm h]
theorem cut_to (xs : List V) (i : Nat) (h : i ≤ xs.length) : cutV xs none (some (i : Int)) = xs.take i := by
  unfold cutV
  rw [HT.sIx_none, HT.sIx_nat, Nat.min_eq_left h]
  simp
theorem flat_ints (ns : List Int) : (ns.map V.int).all flatV = true := by
  rw [List.all_map, List.all_eq_true]
  intro x _
  rfl
theorem nd_take {α : Type} : ∀ {l : List α} {i : Nat} {x : α}, l.Nodup → l[i]? = some x → x ∉ l.take i
  | [], i, x, _, h, _ => by simp at h
  | y :: l, 0, x, _, _, hm => by simp at hm
  | y :: l, i + 1, x, hn, h, hm => by
    have hn' := List.nodup_cons.mp hn
    have h' : l[i]? = some x := by simpa using h
    rcases List.mem_cons.mp (show x ∈ y :: l.take i from hm) with e | e
    · exact hn'.1 (e ▸ List.mem_of_getElem? h')
    · exact nd_take hn'.2 h' e
theorem nd_snoc {α : Type} {l : List α} {x : α} (h : l.Nodup) (hx : x ∉ l) : (l ++ [x]).Nodup := by
  unfold List.Nodup
  rw [List.pairwise_append]
  refine ⟨h, List.pairwise_singleton _ _, fun a ha b hb => ?_⟩
  rw [List.mem_singleton] at hb
  intro e
  rw [← hb, ← e] at hx
  exact hx ha
theorem take_snoc {α : Type} {l : List α} {i : Nat} {x : α} (h : l[i]? = some x) : l.take (i + 1) = l.take i ++ [x] := by
  rw [List.take_add_one, h]
  rfl
theorem ev_inS {K : PySem.W.Frag} {σ : L2.St} {H : Hp} {ta tb : TE} {x : V} {xs : List V} (ha : Ev ta σ H x) (hb : EvS tb σ H xs) (hx : flatV x = true) (hf : xs.all flatV = true) : Ev (tOp (rIn K false) ta tb) σ H (.bl (inV x xs)) := fun H1 e Q q =>
  ha H1 e _ fun H2 e2 => hb H2 (e.trans e2) _ fun p H3 e3 hp => ⟨p, xs, rfl, .inr (st_of hp), hx, hf, q H3 (e2.trans e3)⟩
section
variable {P : Program} {w : World} {K : PySem.W.Frag} {mg : Str → Option Value} {base : Heap} {f : Addr} {fd : FuncData}
abbrev sLIsInt : Stmt := top 28
theorem scLIsInt : FnScope ["_law_thing"] ["_law_thing"] (defScope sLIsInt) := ⟨rfl, rfl, rfl, by decide +kernel, rfl, by decide +kernel, by decide +kernel⟩
theorem ok_lIsInt (B : Bl mg) (F : FnP K "_law_is_int" sLIsInt f fd) : FnOk P w K mg base CX0 1 f fd ["_law_thing"] spIsInt := by
  refine F.ok scLIsInt (fun vs H Q E h => ?_) (fun cdv A outer s H vs Q E hr h => ?_)
  · obtain ⟨z, ⟨v, d, rfl, _⟩, _⟩ := h
    rfl
  · obtain ⟨z, ⟨v, d, rfl, hd, rfl⟩, k⟩ := h
    refine ⟨_, pss_one (ps_ret (pe_and (pe_callB call_isi (by rfl) B.isi boot_isinstance (pa_cons (pv 0) (pa_cons (pe_bltn (v := .ty "int") (by rfl) B.int PyProof.Rows.boot_int rfl) pa_nil)))
      (pe_one (pe_not (pe_callB call_isi (by rfl) B.isi boot_isinstance (pa_cons (pv 0) (pa_cons (pe_bltn (v := .ty "bool") (by rfl) B.bool PyProof.Rows.boot_bool rfl) pa_nil))))))), ?_⟩
    obtain ⟨b, hb, h1, h2⟩ := kit_int d
    have v0 : Ev (tVar 0) (start ["_law_thing"] [v]) H v := ev_var rfl
    cases b with
    | true =>
      obtain ⟨c, hc, e⟩ := h1 rfl
      rw [← e] at k
      exact s_ret (ev_andV (ev_isi v0 hd hb) fun _ => ev_notV (ev_isi v0 hd hc)) k
    | false =>
      rw [h2 rfl] at k
      exact s_ret (ev_andV (b := false) (ev_isi v0 hd hb) fun z => (by cases z)) k
/-! _law_is_way -/
abbrev sLWay : Stmt := top 32
abbrev nLWay : List Str := ["_law_size", "_law_router", "_law_thing", "_law_place"]
theorem scLWay : FnScope nLWay ["_law_size", "_law_router", "_law_thing"] (defScope sLWay) := ⟨rfl, rfl, rfl, by decide +kernel, rfl, by decide +kernel, by decide +kernel⟩
theorem ok_lWay (B : Bl mg) (C : Cal P w K mg base "_law_is_int" ["_law_thing"] 1 spIsInt) (F : FnP K "_law_is_way" sLWay f fd) : FnOk P w K mg base CX0 2 f fd ["_law_size", "_law_router", "_law_thing"] spWay := by
  refine F.ok scLWay (fun vs H Q E h => ?_) (fun cdv A outer s H vs Q E hr h => ?_)
  · obtain ⟨z, ⟨n, r, v, d, rfl, _⟩, _⟩ := h
    rfl
  · obtain ⟨z, ⟨n, r, v, d, rfl, hd, rfl⟩, k⟩ := h
    refine ⟨_, pss_cons (ps_if (PW.pt (pw_or (pt_not (pt_val (pe_callB call_isi (by rfl) B.isi boot_isinstance (pa_cons (pv 2) (pa_cons (pe_bltn (v := .ty "tuple") (by rfl) B.tuple PyProof.Rows.boot_tuple rfl) pa_nil)))))
        (pw_or1 (pt_not (pt_chain op_le op_le pe_int (pe_callB call_len_seq (by rfl) B.len PySem.boot_len (pa_cons (pv 2) pa_nil)) pe_int))))) (pss_one (ps_ret pe_bl)) pss_nil)
      (pss_cons (ps_for (passes_of rfl) rfl (pi_range1 (by rfl) B.range (pa_cons (pe_callB call_len_seq (by rfl) B.len PySem.boot_len (pa_cons (pv 2) pa_nil)) pa_nil)) (pg_name (i := 3) scLWay.nd rfl (Or.inl rfl))
        (pss_one (ps_if (PW.pt (pw_or (pt_not (pt_val (pe_cal C hr (by rfl) (pa_cons (pe_ix ix_tup (pv 2) (pv 3) (fun _ _ => rfl)) pa_nil)))) (pw_or (pt_not (pt_chain op_le op_lt pe_int (pe_ix ix_tup (pv 2) (pv 3) (fun _ _ => rfl)) (pv 0)))
          (pw_or1 (pt_cmpR op_in_seq (pe_ix ix_tup (pv 2) (pv 3) (fun _ _ => rfl)) (pe_slice sl_tupA (pv 2) po_none (po_some (pv 3))) rfl))))) (pss_one (ps_ret pe_bl)) pss_nil)))
      (pss_one (ps_ret (pe_and (pe_cmpR op_eq (pe_ix ix_tup (pv 2) pe_int (fun _ _ => rfl)) (pv 1) (nomark _)) (pe_one (pe_cmpR op_eq (pe_ix ix_tup (pv 2) (pe_un un_neg pe_int) (fun _ _ => rfl)) pe_int (nomark _))))))), ?_⟩
    have v2 : ∀ {H1 : Hp} {o : Option V}, Ev (tVar 2) [some (.int n), some (.int r), some v, o] H1 v := ev_var rfl
    have hlen : ∀ {H1 : Hp} {o : Option V}, Ex H H1 → isTu d = true → Ev (tCB (rLenS K) (tCons (tVar 2) tNil)) [some (.int n), some (.int r), some v, o] H1 (.int ((itemsT d).length : Int)) := fun {H1 o} e ht => by
      cases hd <;> first | (simp [isTu] at ht; done) | skip
      rename_i a xs ds h1 h2
      rw [show (itemsT (.tuple ds)).length = xs.length from h2.length.symm]
      exact ev_lenT v2 (st_of (e _ _ h1))
    refine q_when (b := !isTu d || !(decide (2 ≤ ((itemsT d).length : Int)) && decide (((itemsT d).length : Int) ≤ 8))) (et_or (et_not (et_B (ev_isi (v2 (H1 := H)) hd (kit_tup d)))) fun ht => et_not (et_test (ev_chain ev_c (hlen (Ex.refl H) (by simpa using ht)) ev_c rv_I0 rv_I0)))
      (fun hb H1 e => s_ret ev_c fun H2 e2 => ?_) (fun hb H1 e => ?_)
    · have ez : wayB n r d = false := by
        unfold wayB
        cases ht : isTu d
        · simp
        · simp [ht] at hb
          have : (decide (2 ≤ (itemsT d).length) && decide ((itemsT d).length ≤ 8)) = false := by simp; omega
          rw [this]
          simp
      rw [ez] at k
      exact k _ (e.trans e2)
    · have ht : isTu d = true := by simp at hb; exact hb.1
      have hl : 2 ≤ (itemsT d).length ∧ (itemsT d).length ≤ 8 := by simp [ht] at hb; omega
      cases hd <;> first | (simp [isTu] at ht; done) | skip
      rename_i a xs ds h1 h2
      have hxl := h2.length
      have hl' : 2 ≤ ds.length ∧ ds.length ≤ 8 := hl
      have hlen' : ∀ {H1 : Hp} {o : Option V}, Ex H H1 → Ev (tCB (rLenS K) (tCons (tVar 2) tNil)) [some (.int n), some (.int r), some (.ref a), o] H1 (.int (ds.length : Int)) := fun {_ _} e => hlen e rfl
      clear hlen hb hl
      refine q_forR1 (ea_cons (hlen' e) ea_nil) (by omega) (fun i σ' H' => Ex H H' ∧ (∃ o, σ' = [some (.int n), some (.int r), some (.ref a), o]) ∧ (ds.take i).all (isR n) = true ∧ ((ds.take i).map valI).Nodup) (fun H2 e2 => ⟨e.trans e2, ⟨none, rfl⟩, by simp, by simp⟩) ?_ ?_
      · rintro i σ' H2 hi ⟨e2, ⟨o, rfl⟩, hall, hnd⟩
        change tIfS _ _ _ _ [some (.int n), some (.int r), some (.ref a), some (.int (i : Int))] _
        have hil : i < ds.length := by omega
        have hdi : ds[i]? = some ds[i] := List.getElem?_eq_getElem hil
        obtain ⟨x, hx, hdx⟩ := h2.at hdi
        generalize hdxi : ds[i] = dx at *
        have ix : ∀ {H3 : Hp}, Ex H2 H3 → Ev (tOp (rIxT K) (tVar 2) (tVar 3)) [some (.int n), some (.int r), some (.ref a), some (.int (i : Int))] H3 x := fun {H3} e3 => ev_op (ev_var rfl) (ev_var rfl) (rv_ixT (st_of ((e2.trans e3) _ _ h1)) (atI_nat hx))
        refine s_when (b := !isI dx || (!(decide (0 ≤ valI dx) && decide (valI dx < n)) || decide (valI dx ∈ (ds.take i).map valI))) (et_or (et_not (et_B (ev_call (ea_cons (ix (Ex.refl H2)) ea_nil) (spP_v fun H3 e3 => ⟨x, dx, rfl, hdx.mono (e2.trans e3), rfl⟩)))) fun hI => ?_) (fun hb H3 e3 => s_ret ev_c fun H4 e4 => ?_) (fun hb H3 e3 => ?_)
        · have hI' : isI dx = true := by simpa using hI
          have ex : x = .int (valI dx) := by
            rw [isI_eq hI'] at hdx
            cases hdx
            rfl
          have ix' := ix (Ex.refl H2)
          rw [ex] at ix'
          refine et_or (et_not (et_test (ev_chain ev_c ix' (ev_var rfl) rv_I0 rv_I0))) fun _ => et_test ?_
          have exs : xs.take i = ((ds.take i).map valI).map V.int := by
            have q := h2.take i
            rw [ints_of hall] at q
            exact q.int_inv
          have q := ev_inS (K := K) ix' (es_sl (K := K) (v2 (H1 := H2)) eo_none (eo_some (ev_var (i := 3) rfl)) (e2 _ _ h1)) rfl (by rw [cut_to xs i (by omega), exs]; exact flat_ints _)
          rw [cut_to xs i (by omega), exs, inV_ints] at q
          exact q
        · have ez : wayB n r (.tuple ds) = false := by
            cases hw : wayB n r (.tuple ds) with
            | false => rfl
            | true =>
              exfalso
              obtain ⟨_, w2, _, _, _, _, w7⟩ := way_ints hw
              have w2' : ds.all (isR n) = true := w2
              have hR := List.all_eq_true.mp w2' dx (List.mem_of_getElem? hdi)
              unfold isR at hR
              simp only [Bool.and_eq_true, decide_eq_true_eq] at hR
              obtain ⟨r1, r2, r3⟩ := hR
              have w7' : (ds.map valI).Nodup := w7
              have nin := nd_take w7' (i := i) (x := valI dx) (by rw [List.getElem?_map, hdi]; rfl)
              rw [← List.map_take] at nin
              rw [r1, decide_eq_true r2, decide_eq_true (show valI dx < n by omega), decide_eq_false nin] at hb
              simp at hb
          rw [ez] at k
          exact k _ ((e2.trans e3).trans e4)
        · simp only [Bool.or_eq_false_iff, Bool.not_eq_false', Bool.and_eq_true, decide_eq_true_eq, decide_eq_false_iff_not] at hb
          obtain ⟨b1, ⟨b2, b3⟩, b4⟩ := hb
          refine ⟨e2.trans e3, ⟨_, rfl⟩, ?_, ?_⟩
          · rw [take_snoc hdi, List.all_append, hall]
            have : isR n dx = true := by
              unfold isR
              rw [b1, decide_eq_true b2, decide_eq_true (show valI dx ≤ n - 1 by omega)]
              rfl
            simp [this]
          · rw [take_snoc hdi, List.map_append]
            exact nd_snoc hnd b4
      · rintro σ' H2 ⟨e2, ⟨o, rfl⟩, hall, hnd⟩
        rw [show ((ds.length : Int)).toNat = ds.length by omega, List.take_length] at hall hnd
        have exs : xs = (ds.map valI).map V.int := by
          have q := h2
          rw [ints_of hall] at q
          exact q.int_inv
        generalize hns : ds.map valI = ns at *
        have hnl : ns.length = ds.length := by rw [← hns, List.length_map]
        subst exs
        have hg : ∃ z, ns.getLast? = some z := by
          cases ns with
          | nil => simp at hnl; omega
          | cons x l => exact ⟨_, List.getLast?_eq_some_getLast (by simp)⟩
        obtain ⟨z, hz⟩ := hg
        have ez : wayB n r (.tuple ds) = (decide (V.int (ns.getD 0 0) = V.int r) && decide (V.int z = V.int 0)) := by
          unfold wayB
          show (true && (decide (2 ≤ ds.length) && decide (ds.length ≤ 8)) && (ds.all (isR n) && (decide ((ds.map valI)[0]? = some r) && (decide ((ds.map valI).getLast? = some 0) && decide (ds.map valI).Nodup)))) = _
          rw [hall, hns, decide_eq_true hl'.1, decide_eq_true hl'.2, hz, decide_eq_true hnd]
          cases ns with
          | nil => simp at hnl; omega
          | cons x l => simp
        rw [ez] at k
        refine s_ret (ev_andV (ev_op (ev_op v2 ev_c (rv_ixT (st_of (e2 _ _ h1)) (v := .int (ns.getD 0 0)) ?_)) (ev_var rfl) (rv_eq rfl)) fun _ => ev_op (ev_op v2 (ev_un ev_c ru_neg) (rv_ixT (st_of (e2 _ _ h1)) (v := .int z) ?_)) ev_c (rv_eq rfl)) fun H3 e3 => k _ (e2.trans e3)
        · cases ns with
          | nil => simp at hnl; omega
          | cons x l => exact atI_nat (j := 0) (by simp)
        · exact getLast_atI (by rw [List.getLast?_map, hz]; rfl)
end
end Wk

set_option Elab.async false
set_option linter.all false
set_option maxRecDepth 100000
set_option maxHeartbeats 2000000
namespace Wk
open PySem PySem.Spec PyProof.Rows L2 Evl
theorem any_rts {n r : Int} {d : PyData} (hd : wayB n r d = true) : ∀ {ds : List PyData}, ds.all (wayB n r) = true → (ds.any fun z => PyData.eqv z d) = decide (rts d ∈ ds.map rts)
  | [], _ => rfl
  | x :: ds, h => by
    have h' : wayB n r x = true ∧ ds.all (wayB n r) = true := by simpa using h
    rw [List.any_cons, any_rts hd h'.2, eqv_way h'.1 hd, List.map_cons]
    by_cases c : rts x = rts d
    · rw [decide_eq_true c, Bool.true_or]
      exact (decide_eq_true (by rw [c]; exact List.mem_cons_self)).symm
    · rw [decide_eq_false c, Bool.false_or]
      rw [decide_eq_decide]
      constructor
      · exact fun z => List.mem_cons_of_mem _ z
      · intro z
        rcases List.mem_cons.mp z with e | e
        · exact absurd e.symm c
        · exact e
section
variable {P : Program} {w : World} {K : PySem.W.Frag} {mg : Str → Option Value} {base : Heap} {f : Addr} {fd : FuncData}
/-! _law_is_row -/
abbrev sLRow : Stmt := top 33
abbrev nLRow : List Str := ["_law_size", "_law_router", "_law_row", "_law_place"]
theorem scLRow : FnScope nLRow ["_law_size", "_law_router", "_law_row"] (defScope sLRow) := ⟨rfl, rfl, rfl, by decide +kernel, rfl, by decide +kernel, by decide +kernel⟩
theorem ok_lRow (B : Bl mg) (C : Cal P w K mg base "_law_is_way" ["_law_size", "_law_router", "_law_thing"] 2 spWay) (F : FnP K "_law_is_row" sLRow f fd) : FnOk P w K mg base CX0 3 f fd ["_law_size", "_law_router", "_law_row"] spRow := by
  refine F.ok scLRow (fun vs H Q E h => ?_) (fun cdv A outer s H vs Q E hr h => ?_)
  · obtain ⟨z, ⟨n, r, v, d, rfl, _⟩, _⟩ := h
    rfl
  · obtain ⟨z, ⟨n, r, v, d, rfl, hd, rfl⟩, k⟩ := h
    have hu0 : (A.deeper (envOfC "_law_is_row" (defScope sLRow) s.heap.objs.size f cdv)).units < cLine := by have := hr.un; omega
    have hu : (A.deeper (envOfC "_law_is_row" (defScope sLRow) s.heap.objs.size f cdv)).units + 66 < cLine := by have := hr.un; omega
    refine ⟨_, pss_cons (ps_if (PW.pt (pw_or (pt_not (pt_val (pe_callB call_isi (by rfl) B.isi boot_isinstance (pa_cons (pv 2) (pa_cons (pe_bltn (v := .ty "tuple") (by rfl) B.tuple PyProof.Rows.boot_tuple rfl) pa_nil)))))
        (pw_or (pt_cmpR op_gt (pe_callB call_len_seq (by rfl) B.len PySem.boot_len (pa_cons (pv 2) pa_nil)) pe_int (nomark _)) (pw_or1 (PW.pt (pw_and (pt_cmpR op_eq (pv 1) pe_int (nomark _)) (pw_and1 (pt_cmpR (op_neEU hu0) (pv 2) (pe_tup pa_nil) (nomark _))))))))) (pss_one (ps_ret pe_bl)) pss_nil)
      (pss_cons (ps_for (passes_of rfl) rfl (pi_range1 (by rfl) B.range (pa_cons (pe_callB call_len_seq (by rfl) B.len PySem.boot_len (pa_cons (pv 2) pa_nil)) pa_nil)) (pg_name (i := 3) scLRow.nd rfl (Or.inl rfl))
        (pss_one (ps_if (PW.pt (pw_or (pt_not (pt_val (pe_cal C hr (by rfl) (pa_cons (pv 0) (pa_cons (pv 1) (pa_cons (pe_ix ix_tup (pv 2) (pv 3) (fun _ _ => rfl)) pa_nil)))))) (pw_or1 (pt_cmpR (op_inU hu) (pe_ix ix_tup (pv 2) (pv 3) (fun _ _ => rfl)) (pe_slice sl_tupA (pv 2) po_none (po_some (pv 3))) rfl)))) (pss_one (ps_ret pe_bl)) pss_nil)))
      (pss_one (ps_ret pe_bl))), ?_⟩
    have v1 : ∀ {H1 : Hp} {o : Option V}, Ev (tVar 1) [some (.int n), some (.int r), some v, o] H1 (.int r) := ev_var rfl
    have v2 : ∀ {H1 : Hp} {o : Option V}, Ev (tVar 2) [some (.int n), some (.int r), some v, o] H1 v := ev_var rfl
    have hlen : ∀ {H1 : Hp} {o : Option V}, Ex H H1 → isTu d = true → Ev (tCB (rLenS K) (tCons (tVar 2) tNil)) [some (.int n), some (.int r), some v, o] H1 (.int ((itemsT d).length : Int)) := fun {H1 o} e ht => by
      cases hd <;> first | (simp [isTu] at ht; done) | skip
      rename_i a xs ds h1 h2
      rw [show (itemsT (.tuple ds)).length = xs.length from h2.length.symm]
      exact ev_lenT v2 (st_of (e _ _ h1))
    have hne : isTu d = true → EvT (tTest (tOp (rNeEU K) (tVar 2) (tTup tNil))) [some (.int n), some (.int r), some v, none] H (!(itemsT d).isEmpty) := fun ht => by
      cases hd <;> first | (simp [isTu] at ht; done) | skip
      rename_i a xs ds h1 h2
      refine et_test (ev_opU v2 (eu_tup ea_nil (by simp)) fun p H1 hp e => ?_)
      have ee : (itemsT (.tuple ds)).isEmpty = xs.isEmpty := by
        show ds.isEmpty = xs.isEmpty
        have := h2.length
        cases ds <;> cases xs <;> first | rfl | (simp at this)
      rw [ee]
      exact fun H2 e2 Q2 q => ⟨a, p, xs, rfl, rfl, st_of ((e.trans e2) _ _ h1), st_of (e2 _ _ hp), q H2 (Ex.refl H2)⟩
    refine q_when (b := !isTu d || (decide (((itemsT d).length : Int) > 6) || (decide (V.int r = V.int 0) && !(itemsT d).isEmpty))) (et_or (et_not (et_B (ev_isi (v2 (H1 := H)) hd (kit_tup d)))) fun ht => et_or (et_test (ev_op (hlen (Ex.refl H) (by simpa using ht)) ev_c rv_I0)) fun _ => et_and (et_test (ev_op v1 ev_c (rv_eq rfl))) fun _ => hne (by simpa using ht))
      (fun hb H1 e => s_ret ev_c fun H2 e2 => ?_) (fun hb H1 e => ?_)
    · have ez : rowB n r d = false := by
        cases hw : rowB n r d with
        | false => rfl
        | true =>
          exfalso
          obtain ⟨ws, ew, _, wl, _, w0⟩ := row_lay hw
          subst ew
          have hwl : (itemsT (.tuple ws)).length = ws.length := rfl
          simp only [isTu, Bool.not_true, Bool.false_or, Bool.or_eq_true, Bool.and_eq_true, decide_eq_true_eq] at hb
          rcases hb with hb | ⟨hb1, hb2⟩
          · rw [hwl] at hb; omega
          · have hr0 : r = 0 := by injection hb1
            rw [w0 hr0] at hb2
            simp [itemsT] at hb2
      rw [ez] at k
      exact k _ (e.trans e2)
    · have ht : isTu d = true := by simp at hb; exact hb.1
      cases hd <;> first | (simp [isTu] at ht; done) | skip
      rename_i a xs ds h1 h2
      have hxl := h2.length
      have hl' : ds.length ≤ 6 ∧ (r = 0 → ds = []) := by
        simp only [isTu, Bool.not_true, Bool.false_or, Bool.or_eq_false_iff, decide_eq_false_iff_not] at hb
        obtain ⟨b1, b2⟩ := hb
        have b1' : ¬ ((ds.length : Int) > 6) := b1
        refine ⟨by omega, fun hr0 => ?_⟩
        rw [hr0] at b2
        have b2' : (true && !ds.isEmpty) = false := by
          have : decide (V.int 0 = V.int 0) = true := by simp
          rw [← this]
          exact b2
        cases ds with
        | nil => rfl
        | cons x l => simp at b2'
      have hlen' : ∀ {H1 : Hp} {o : Option V}, Ex H H1 → Ev (tCB (rLenS K) (tCons (tVar 2) tNil)) [some (.int n), some (.int r), some (.ref a), o] H1 (.int (ds.length : Int)) := fun {_ _} e => hlen e rfl
      clear hlen hb hne
      refine q_forR1 (ea_cons (hlen' e) ea_nil) (by omega) (fun i σ' H' => Ex H H' ∧ (∃ o, σ' = [some (.int n), some (.int r), some (.ref a), o]) ∧ (ds.take i).all (wayB n r) = true ∧ ((ds.take i).map rts).Nodup) (fun H2 e2 => ⟨e.trans e2, ⟨none, rfl⟩, by simp, by simp⟩) ?_ ?_
      · rintro i σ' H2 hi ⟨e2, ⟨o, rfl⟩, hall, hnd⟩
        change tIfS _ _ _ _ [some (.int n), some (.int r), some (.ref a), some (.int (i : Int))] _
        have hil : i < ds.length := by omega
        have hr0 : r ≠ 0 := fun z => by rw [hl'.2 z] at hil; simp at hil
        have hdi : ds[i]? = some ds[i] := List.getElem?_eq_getElem hil
        obtain ⟨x, hx, hdx⟩ := h2.at hdi
        generalize hdxi : ds[i] = dx at *
        have ix : ∀ {H3 : Hp}, Ex H2 H3 → Ev (tOp (rIxT K) (tVar 2) (tVar 3)) [some (.int n), some (.int r), some (.ref a), some (.int (i : Int))] H3 x := fun {H3} e3 => ev_op (ev_var rfl) (ev_var rfl) (rv_ixT (st_of ((e2.trans e3) _ _ h1)) (atI_nat hx))
        refine s_when (b := !wayB n r dx || decide (rts dx ∈ (ds.take i).map rts)) (et_or (et_not (et_B (ev_call (ea_cons (ev_var rfl) (ea_cons (ev_var rfl) (ea_cons (ix (Ex.refl H2)) ea_nil))) (spP_v fun H3 e3 => ⟨n, r, x, dx, rfl, hdx.mono (e2.trans e3), rfl⟩)))) fun hW => ?_) (fun hb H3 e3 => s_ret ev_c fun H4 e4 => ?_) (fun hb H3 e3 => ?_)
        · have hW' : wayB n r dx = true := by simpa using hW
          refine et_test fun H3 e3 Q2 q => ix e3 H3 (Ex.refl H3) _ fun H4 e4 => ?_
          refine es_sl (K := K) (v2 (H1 := H4)) eo_none (eo_some (ev_var (i := 3) rfl)) (((e2.trans e3).trans e4) _ _ h1) H4 (Ex.refl H4) _ fun p H5 e5 hp => ?_
          rw [cut_to xs i (by omega)] at hp
          have e35 := (e3.trans e4).trans e5
          refine ⟨dx, ds.take i, Dq.dp (way_lay hW') (hdx.mono (e2.trans e35)), .tup (st_of hp) (DqA.dp (ways_lay hall) ((h2.mono (e2.trans e35)).take i)), ?_, ways_lay hall, ?_⟩
          · rw [(way_ints hW').1]
            exact shaped_ints _
          · rw [any_rts hW' hall]
            exact q H5 (e4.trans e5)
        · have ez : rowB n r (.tuple ds) = false := by
            cases hw : rowB n r (.tuple ds) with
            | false => rfl
            | true =>
              exfalso
              unfold rowB at hw
              rw [if_neg hr0] at hw
              simp only [Bool.and_eq_true, decide_eq_true_eq] at hw
              obtain ⟨_, w2, w3⟩ := hw
              have w2' : ds.all (wayB n r) = true := w2
              have w3' : (ds.map rts).Nodup := w3
              have hW := List.all_eq_true.mp w2' dx (List.mem_of_getElem? hdi)
              have nin := nd_take w3' (i := i) (x := rts dx) (by rw [List.getElem?_map, hdi]; rfl)
              rw [← List.map_take] at nin
              rw [hW, decide_eq_false nin] at hb
              simp at hb
          rw [ez] at k
          exact k _ ((e2.trans e3).trans e4)
        · simp only [Bool.or_eq_false_iff, Bool.not_eq_false', decide_eq_false_iff_not] at hb
          obtain ⟨b1, b4⟩ := hb
          refine ⟨e2.trans e3, ⟨_, rfl⟩, ?_, ?_⟩
          · rw [take_snoc hdi, List.all_append, hall]
            simp [b1]
          · rw [take_snoc hdi, List.map_append]
            exact nd_snoc hnd b4
      · rintro σ' H2 ⟨e2, ⟨o, rfl⟩, hall, hnd⟩
        rw [show ((ds.length : Int)).toNat = ds.length by omega, List.take_length] at hall hnd
        have ez : rowB n r (.tuple ds) = true := by
          unfold rowB
          show (true && decide (ds.length ≤ 6) && (if r = 0 then decide (ds.length = 0) else (ds.all (wayB n r) && decide (ds.map rts).Nodup))) = true
          rw [decide_eq_true hl'.1]
          by_cases hr0 : r = 0
          · rw [if_pos hr0, hl'.2 hr0]
            simp
          · rw [if_neg hr0, hall, decide_eq_true hnd]
            rfl
        rw [ez] at k
        exact s_ret ev_c fun H3 e3 => k _ (e2.trans e3)
end
end Wk

set_option Elab.async false
set_option linter.all false
set_option maxRecDepth 100000
set_option maxHeartbeats 2000000
namespace Wk
open PySem PySem.Spec PyProof.Rows L2 Evl
theorem way_second {n r : Int} {w : PyData} (h : wayB n r w = true) : (rts w).getD 1 0 = 0 ↔ (rts w).length = 2 := by
  obtain ⟨_, _, h2, _, _, hlast, hnd⟩ := way_ints h
  generalize rts w = ns at *
  cases ns with
  | nil => simp at h2
  | cons a l =>
    cases l with
    | nil => simp at h2
    | cons b l =>
      cases l with
      | nil =>
        simp at hlast
        simp [hlast]
      | cons c l =>
        have hb : b ∉ c :: l := (List.nodup_cons.mp (List.nodup_cons.mp hnd).2).1
        have h0 : (0 : Int) ∈ c :: l := by
          have e : (c :: l).getLast? = some 0 := by
            rw [← hlast]
            simp [List.getLast?_cons_cons]
          exact List.mem_of_getLast? e
        constructor
        · intro z
          have z' : b = 0 := z
          rw [z'] at hb
          exact absurd h0 hb
        · intro z
          simp at z
/-- None, or the router -/
def dueV (o : Option Int) : V := match o with
  | none => .non
  | some r => .int r
section
variable {P : Program} {w : World} {K : PySem.W.Frag} {mg : Str → Option Value} {base : Heap} {f : Addr} {fd : FuncData}
abbrev spDue : Sp := spP fun H vs z => ∃ (v : V) (d : PyData), vs = [v] ∧ Dq H v d ∧ z = dueV (dueD d)
abbrev sDue : Stmt := top 34
abbrev nDue : List Str := ["_law_thing", "_law_router", "_law_way"]
theorem scDue : FnScope nDue ["_law_thing"] (defScope sDue) := ⟨rfl, rfl, rfl, by decide +kernel, rfl, by decide +kernel, by decide +kernel⟩
theorem ok_due (B : Bl mg) (C : Cal P w K mg base "_law_is_row" ["_law_size", "_law_router", "_law_row"] 3 spRow) (F : FnP K "_law_due" sDue f fd) : FnOk P w K mg base CX0 5 f fd ["_law_thing"] spDue := by
  refine F.ok scDue (fun vs H Q E h => ?_) (fun cdv A outer s H vs Q E hr h => ?_)
  · obtain ⟨z, ⟨v, d, rfl, _⟩, _⟩ := h
    rfl
  · obtain ⟨z, ⟨v, d, rfl, hd, rfl⟩, k⟩ := h
    have hu : (A.deeper (envOfC "_law_due" (defScope sDue) s.heap.objs.size f cdv)).units + 66 < cLine := by have := hr.un; omega
    refine ⟨_, pss_cons (ps_if (PW.pt (pw_or (pt_not (pt_val (pe_callB call_isi (by rfl) B.isi boot_isinstance (pa_cons (pv 0) (pa_cons (pe_bltn (v := .ty "tuple") (by rfl) B.tuple PyProof.Rows.boot_tuple rfl) pa_nil)))))
        (pw_or1 (pt_not (pt_chain op_le op_le pe_int (pe_callB call_len_seq (by rfl) B.len PySem.boot_len (pa_cons (pv 0) pa_nil)) pe_int))))) (pss_one (ps_ret (pe_un un_neg pe_int))) pss_nil)
      (pss_cons (ps_for (passes_of rfl) rfl (pi_range1 (by rfl) B.range (pa_cons (pe_callB call_len_seq (by rfl) B.len PySem.boot_len (pa_cons (pv 0) pa_nil)) pa_nil)) (pg_name (i := 1) scDue.nd rfl (Or.inl rfl))
        (pss_one (ps_if (pt_not (pt_val (pe_cal C hr (by rfl) (pa_cons (pe_callB call_len_seq (by rfl) B.len PySem.boot_len (pa_cons (pv 0) pa_nil)) (pa_cons (pv 1) (pa_cons (pe_ix ix_tup (pv 0) (pv 1) (fun _ _ => rfl)) pa_nil)))))) (pss_one (ps_ret (pv 1))) pss_nil)))
      (pss_cons (ps_for (passes_of rfl) rfl (pi_range1 (by rfl) B.range (pa_cons (pe_callB call_len_seq (by rfl) B.len PySem.boot_len (pa_cons (pv 0) pa_nil)) pa_nil)) (pg_name (i := 1) scDue.nd rfl (Or.inl rfl))
        (pss_one (ps_for (passes_of rfl) rfl (pi_tup (pe_ix ix_tup (pv 0) (pv 1) (fun _ _ => rfl))) (pg_name (i := 2) scDue.nd rfl (Or.inl rfl))
          (pss_one (ps_if (PW.pt (pw_and (pt_cmpR op_gt (pe_callB call_len_seq (by rfl) B.len PySem.boot_len (pa_cons (pv 2) pa_nil)) pe_int (nomark _)) (pw_and1 (pt_cmpR (op_notInU hu) (pe_slice sl_tupA (pv 2) (po_some pe_int) po_none) (pe_ix ix_tup (pv 0) (pe_ix ix_tup (pv 2) pe_int (fun _ _ => rfl)) (fun _ _ => rfl)) rfl)))) (pss_one (ps_ret (pv 1))) pss_nil)))))
      (pss_one (ps_ret pe_non)))), ?_⟩
    have v0 : ∀ {H1 : Hp} {o1 o2 : Option V}, Ev (tVar 0) [some v, o1, o2] H1 v := ev_var rfl
    have hlen : ∀ {H1 : Hp} {o1 o2 : Option V}, Ex H H1 → isTu d = true → Ev (tCB (rLenS K) (tCons (tVar 0) tNil)) [some v, o1, o2] H1 (.int ((itemsT d).length : Int)) := fun {H1 o1 o2} e ht => by
      cases hd <;> first | (simp [isTu] at ht; done) | skip
      rename_i a xs ds h1 h2
      rw [show (itemsT (.tuple ds)).length = xs.length from h2.length.symm]
      exact ev_lenT v0 (st_of (e _ _ h1))
    refine q_when (b := !isTu d || !(decide (2 ≤ ((itemsT d).length : Int)) && decide (((itemsT d).length : Int) ≤ 8))) (et_or (et_not (et_B (ev_isi (v0 (H1 := H)) hd (kit_tup d)))) fun ht => et_not (et_test (ev_chain ev_c (hlen (Ex.refl H) (by simpa using ht)) ev_c rv_I0 rv_I0)))
      (fun hb H1 e => s_ret (ev_un ev_c ru_neg) fun H2 e2 => ?_) (fun hb H1 e => ?_)
    · have ez : dueD d = some (-1) := by
        unfold dueD
        rw [if_neg]
        rintro ⟨z1, z2, z3⟩
        simp [z1] at hb
        omega
      rw [ez] at k
      exact k _ (e.trans e2)
    · have ht : isTu d = true := by simp at hb; exact hb.1
      have hl : 2 ≤ (itemsT d).length ∧ (itemsT d).length ≤ 8 := by simp [ht] at hb; omega
      have edue : dueD d = due2 (itemsT d) := by unfold dueD; rw [if_pos ⟨ht, hl⟩]
      rw [edue] at k
      cases hd <;> first | (simp [isTu] at ht; done) | skip
      rename_i a xs rows h1 h2
      have hxl := h2.length
      have hl' : 2 ≤ rows.length ∧ rows.length ≤ 8 := hl
      have hlen' : ∀ {H1 : Hp} {o1 o2 : Option V}, Ex H H1 → Ev (tCB (rLenS K) (tCons (tVar 0) tNil)) [some (.ref a), o1, o2] H1 (.int (rows.length : Int)) := fun {_ _ _} e => hlen e rfl
      have k' : ∀ H', Ex H H' → Q (dueV (due2 rows)) H' := k
      clear k hlen edue hl hb
      refine q_forR1 (ea_cons (hlen' e) ea_nil) (by omega) (fun i σ' H' => Ex H H' ∧ (∃ o, σ' = [some (.ref a), o, none]) ∧ fb (rows.length : Int) 0 rows = fb (rows.length : Int) i (rows.drop i)) (fun H2 e2 => ⟨e.trans e2, ⟨none, rfl⟩, rfl⟩) ?_ ?_
      · rintro i σ' H2 hi ⟨e2, ⟨o, rfl⟩, hf⟩
        change tIfS _ _ _ _ [some (.ref a), some (.int (i : Int)), none] _
        have hdi : rows[i]? = some rows[i] := List.getElem?_eq_getElem (by omega)
        obtain ⟨x, hx, hdx⟩ := h2.at hdi
        generalize hdxi : rows[i] = dx at *
        have hdrop := fb_drop (n := (rows.length : Int)) (j := 0) hdi
        rw [Nat.zero_add, Nat.zero_add] at hdrop
        have ix : Ev (tOp (rIxT K) (tVar 0) (tVar 1)) [some (.ref a), some (.int (i : Int)), none] H2 x := ev_op (ev_var rfl) (ev_var rfl) (rv_ixT (st_of (e2 _ _ h1)) (atI_nat hx))
        refine s_when (b := !rowB (rows.length : Int) (i : Int) dx) (et_not (et_B (ev_call (ea_cons (hlen' e2) (ea_cons (ev_var rfl) (ea_cons ix ea_nil))) (spP_v fun H3 e3 => ⟨_, _, x, dx, rfl, hdx.mono (e2.trans e3), rfl⟩)))) (fun hb H3 e3 => s_ret (ev_var rfl) fun H4 e4 => ?_) (fun hb H3 e3 => ?_)
        · have hb' : rowB (rows.length : Int) (i : Int) dx = false := by simpa using hb
          have ez : due2 rows = some (i : Int) := by
            unfold due2
            rw [hf, hdrop, hb']
            rfl
          rw [ez] at k'
          exact k' _ ((e2.trans e3).trans e4)
        · have hb' : rowB (rows.length : Int) (i : Int) dx = true := by simpa using hb
          refine ⟨e2.trans e3, ⟨_, rfl⟩, ?_⟩
          rw [hf, hdrop, hb']
          rfl
      · rintro σ' H2 ⟨e2, ⟨o, rfl⟩, hf⟩
        have hfn : fb (rows.length : Int) 0 rows = none := by
          rw [hf, show ((rows.length : Int)).toNat = rows.length by omega, List.drop_length]
          rfl
        have hG := fb_Good hfn
        have edue : due2 rows = sb rows 0 rows := by unfold due2; rw [hfn]
        rw [edue] at k'
        refine q_forR1 (ea_cons (hlen' e2) ea_nil) (by omega) (fun i σ' H' => Ex H H' ∧ (∃ o1 o2, σ' = [some (.ref a), o1, o2]) ∧ sb rows 0 rows = sb rows i (rows.drop i)) (fun H3 e3 => ⟨e2.trans e3, ⟨_, _, rfl⟩, rfl⟩) ?_ ?_
        · rintro i σ' H3 hi ⟨e3, ⟨o1, o2, rfl⟩, hs⟩
          change tFor _ _ _ _ [some (.ref a), some (.int (i : Int)), o2] _
          have hdi : rows[i]? = some rows[i] := List.getElem?_eq_getElem (by omega)
          obtain ⟨x, hx, hdx⟩ := h2.at hdi
          generalize hdxi : rows[i] = dx at *
          have hdrop := sb_drop (rows := rows) (j := 0) hdi
          rw [Nat.zero_add, Nat.zero_add] at hdrop
          obtain ⟨ws, ew, lay, hwl, hways, hw0⟩ := row_lay (hG i dx hdi)
          subst ew
          have hwall : ∀ w ∈ ws, wayB (rows.length : Int) (i : Int) w = true := fun w hw => by
            by_cases hi0 : (i : Int) = 0
            · rw [hw0 hi0] at hw
              cases hw
            · exact List.all_eq_true.mp (hways hi0) w hw
          have ix : Ev (tOp (rIxT K) (tVar 0) (tVar 1)) [some (.ref a), some (.int (i : Int)), o2] H3 x := ev_op (ev_var rfl) (ev_var rfl) (rv_ixT (st_of (e3 _ _ h1)) (atI_nat hx))
          cases hdx with
          | tup hz1 hz2 =>
            rename_i az zs
            have hzl := hz2.length
            refine s_forT (K := K) ix (st_of (e3 _ _ hz1)) (fun j σ' H' => Ex H H' ∧ (∃ o, σ' = [some (.ref a), some (.int (i : Int)), o]) ∧ (ws.take j).all (restB rows) = true) (fun H4 e4 => ⟨e3.trans e4, ⟨_, rfl⟩, by simp⟩) (fun j σ' H' _ p => st_of (p.1 _ _ hz1)) ?_ ?_
            · rintro j y σ' H4 hy ⟨e4, ⟨o, rfl⟩, hall⟩
              change tIfS _ _ _ _ [some (.ref a), some (.int (i : Int)), some y] _
              obtain ⟨dw, ew, hdw⟩ := hz2.get hy
              have hW := hwall dw (List.mem_of_getElem? ew)
              obtain ⟨w1, w2, w3, w4, w5, w6, w7⟩ := way_ints hW
              have hsec := way_second hW
              have hn1 : ∃ q, (rts dw)[1]? = some q := ⟨_, List.getElem?_eq_getElem (by omega)⟩
              obtain ⟨q1, hq1⟩ := hn1
              obtain ⟨hq0, hqn⟩ := way_at hW hq1
              have eqd : (rts dw).getD 1 0 = q1 := by rw [List.getD_eq_getElem?_getD, hq1]; rfl
              have hrB : restB rows dw = (decide (q1 = 0) || (itemsT (rows.getD q1.toNat .none)).any (fun z => PyData.eqv z (.tuple (((rts dw).drop 1).map PyData.int)))) := by
                unfold restB
                rw [eqd]
              rw [eqd] at hsec
              have hql : q1.toNat < rows.length := by omega
              have hrow : rows[q1.toNat]? = some rows[q1.toNat] := List.getElem?_eq_getElem hql
              have hgd : rows.getD q1.toNat .none = rows[q1.toNat] := by rw [List.getD_eq_getElem?_getD, hrow]; rfl
              obtain ⟨vs, evs, vlay, _⟩ := row_lay (hG _ _ hrow)
              obtain ⟨rv, hrv, hdr⟩ := h2.at hrow
              rw [hgd, evs] at hrB
              rw [evs] at hdr
              have hat2 : atI xs q1 = some rv := by
                have q := atI_nat (j := q1.toNat) hrv
                rw [Int.toNat_of_nonneg hq0] at q
                exact q
              generalize hns : rts dw = ns at *
              have hdw2 := hdw
              rw [w1] at hdw2
              generalize hyy : y = y' at hdw2
              cases hdw2 with
              | tup hy1 hy2 =>
                rename_i ay ys
                subst hyy
                have eys := hy2.int_inv
                subst eys
                have v2 : ∀ {H5 : Hp}, Ev (tVar 2) [some (.ref a), some (.int (i : Int)), some (.ref ay)] H5 (.ref ay) := ev_var rfl
                have hat : atI (ns.map V.int) 1 = some (.int q1) := atI_nat (j := 1) (by rw [List.getElem?_map, hq1]; rfl)
                have hlw := ev_lenT (K := K) (v2 (H5 := H4)) (st_of (e4 _ _ hy1))
                rw [List.length_map] at hlw
                refine s_when (b := decide ((ns.length : Int) > 2) && !(vs.any fun z => PyData.eqv z (.tuple ((ns.drop 1).map PyData.int)))) (et_and (et_test (ev_op hlw ev_c rv_I0)) fun _ => et_test fun H5 e5 Q2 q => ?_) (fun hb H5 e5 => s_ret (ev_var rfl) fun H6 e6 => ?_) (fun hb H5 e5 => ?_)
                · refine es_sl (K := K) (v2 (H5 := H5)) (eo_some ev_c) eo_none ((e4.trans e5) _ _ hy1) H5 (Ex.refl H5) _ fun p H6 e6 hp => ?_
                  rw [drop1] at hp
                  have e46 := (e4.trans e5).trans e6
                  refine ev_op (v0 (H1 := H6)) (ev_op (v2 (H5 := H6)) ev_c (rv_ixT (st_of (e46 _ _ hy1)) hat)) (rv_ixT (st_of (e46 _ _ h1)) hat2) H6 (Ex.refl H6) _ fun H7 e7 => ?_
                  exact ⟨.tuple ((ns.drop 1).map PyData.int), vs, .tup (st_of (e7 _ _ hp)) (DqA.dp (lay_ints _) (DqA.ints _)), Dq.dp (by simpa [PyData.canLay0] using vlay) (hdr.mono (e46.trans e7)), shaped_ints _, vlay, q H7 (e6.trans e7)⟩
                · have hrF : restB rows dw = false := by
                    rw [hrB]
                    simp only [Bool.and_eq_true, decide_eq_true_eq, Bool.not_eq_true'] at hb
                    have hq : q1 ≠ 0 := fun z => by have := hsec.mp z; omega
                    rw [decide_eq_false hq, Bool.false_or]
                    exact hb.2
                  have hnall : (itemsT (.tuple ws)).all (restB rows) = false := by
                    cases hc : (itemsT (.tuple ws)).all (restB rows) with
                    | false => rfl
                    | true =>
                      have := List.all_eq_true.mp hc dw (List.mem_of_getElem? ew)
                      rw [hrF] at this
                      cases this
                  have ez : sb rows 0 rows = some (i : Int) := by
                    rw [hs, hdrop, hnall]
                    rfl
                  rw [ez] at k'
                  exact k' _ ((e4.trans e5).trans e6)
                · have hrT : restB rows dw = true := by
                    rw [hrB]
                    by_cases hq : q1 = 0
                    · rw [decide_eq_true hq]
                      rfl
                    · have hne2 : ns.length ≠ 2 := fun z => hq (hsec.mpr z)
                      have hgt : decide ((ns.length : Int) > 2) = true := decide_eq_true (by omega)
                      rw [hgt] at hb
                      rw [decide_eq_false hq, Bool.false_or]
                      have hb' : (vs.any fun z => PyData.eqv z (.tuple ((ns.drop 1).map PyData.int))) = true := by simpa using hb
                      exact hb'
                  refine ⟨e4.trans e5, ⟨_, rfl⟩, ?_⟩
                  rw [take_snoc ew, List.all_append, hall]
                  simp [hrT]
            · rintro σ' H4 ⟨e4, ⟨o, rfl⟩, hall⟩
              rw [hzl, List.take_length] at hall
              refine ⟨e4, ⟨_, _, rfl⟩, ?_⟩
              rw [hs, hdrop, show (itemsT (.tuple ws)).all (restB rows) = true from hall]
              rfl
        · rintro σ' H3 ⟨e3, ⟨o1, o2, rfl⟩, hs⟩
          have ez : sb rows 0 rows = none := by
            rw [hs, show ((rows.length : Int)).toNat = rows.length by omega, List.drop_length]
            rfl
          rw [ez] at k'
          exact s_ret ev_c fun H4 e4 => k' _ (e3.trans e4)
end
end Wk

set_option Elab.async false
set_option linter.all false
set_option maxRecDepth 100000
set_option maxHeartbeats 2000000
namespace Wk
open PySem PySem.Spec PyProof.Rows L2 Evl
/-- plain data: ints, texts, tuples of such -/
inductive Smp : Nat → PyData → Prop
  | int (n : Nat) (i : Int) : Smp n (.int i)
  | str (n : Nat) (z : Str) : Smp n (.str z)
  | tup (n : Nat) (ds : List PyData) : (∀ d ∈ ds, Smp n d) → ds.length ≤ 100 → Smp (n + 1) (.tuple ds)
section
variable {K : PySem.W.Frag} {σ : L2.St} {H : Hp} {ta : TE}
theorem ev_isi2 {v : V} {d : PyData} {n m : String} {b c : Bool} (h : Ev ta σ H v) (hd : Dq H v d) (h1 : kitB (tyN d) n = some b) (h2 : kitB (tyN d) m = some c) :
    Ev (tCB (rIsiT K) (tCons ta (tCons (tTup (tCons (tC (.ty n)) (tCons (tC (.ty m)) tNil))) tNil))) σ H (.bl (b || c)) := fun H1 e Q q =>
  h H1 e _ fun H2 e2 => ⟨by show 2 ≤ sizeLine; decide, fun p hp => ⟨v, p, [.ty n, .ty m], .type (tyN d), [.type n, .type m], b || c, rfl, upd_same, .cons (.ty n) (.cons (.ty m) .nil), (hd.mono ((e.trans e2).trans (Ex.new hp))).ty,
    kitAny_cons (kit_ty h1) (fun hb => kitAny_cons (kit_ty h2) (fun hc => by rw [hb, hc]; exact kitAny_nil) (fun hc => by rw [hc]; simp)) (fun hb => by rw [hb]; rfl), q _ (e2.trans (Ex.new hp))⟩⟩
end
theorem k_tl : kitB "tuple" "list" = some false := by decide +kernel
theorem k_tt : kitB "tuple" "tuple" = some true := by decide +kernel
theorem k_il : kitB "int" "list" = some false := by decide +kernel
theorem k_it : kitB "int" "tuple" = some false := by decide +kernel
theorem k_sl : kitB "str" "list" = some false := by decide +kernel
theorem k_st : kitB "str" "tuple" = some false := by decide +kernel
theorem k_ii : kitB "int" "int" = some true := by decide +kernel
theorem k_ib : kitB "int" "bool" = some false := by decide +kernel
theorem k_si : kitB "str" "int" = some false := by decide +kernel
theorem k_ss : kitB "str" "str" = some true := by decide +kernel
section
variable {P : Program} {w : World} {K : PySem.W.Frag} {mg : Str → Option Value} {base : Heap} {f : Addr} {fd : FuncData}
abbrev spSame (n : Nat) : Sp := spP fun H vs z => ∃ (va ve : V) (d : PyData), vs = [va, ve] ∧ Dq H va d ∧ Dq H ve d ∧ Smp n d ∧ z = .bl true
abbrev sSame : Stmt := top 27
abbrev nSame : List Str := ["_law_actual", "_law_expected", "_law_place"]
theorem scSame : FnScope nSame ["_law_actual", "_law_expected"] (defScope sSame) := ⟨rfl, rfl, rfl, by decide +kernel, rfl, by decide +kernel, by decide +kernel⟩
theorem ok_same (B : Bl mg) (n k' : Nat) (sp' : Sp) (hk : k' ≤ n) (C : Cal P w K mg base "_law_same" ["_law_actual", "_law_expected"] k' sp') (hC : ∀ (va ve : V) (d : PyData) (H : Hp), Dq H va d → Dq H ve d → (∃ m, n = m + 1 ∧ Smp m d) → SpV sp' [va, ve] H (.bl true)) (F : FnP K "_law_same" sSame f fd) : FnOk P w K mg base CX0 (n + 1) f fd ["_law_actual", "_law_expected"] (spSame n) := by
  refine F.ok scSame (fun vs H Q E h => ?_) (fun cdv A outer s H vs Q E hr h => ?_)
  · obtain ⟨z, ⟨va, ve, d, rfl, _⟩, _⟩ := h
    rfl
  · obtain ⟨z, ⟨va, ve, d, rfl, ha, he, hs, rfl⟩, k⟩ := h
    have hr' : Room k' _ := hr.mono hk
    refine ⟨_, pss_cons (ps_if (pt_val (pe_callB call_isiT (by rfl) B.isi boot_isinstance (pa_cons (pv 1) (pa_cons (pe_tup (pa_cons (pe_bltn (v := .ty "list") (by rfl) B.list PyProof.Rows.boot_list rfl) (pa_cons (pe_bltn (v := .ty "tuple") (by rfl) B.tuple PyProof.Rows.boot_tuple rfl) pa_nil))) pa_nil))))
        (pss_cons (ps_if (PW.pt (pw_or (pt_not (pt_val (pe_callB call_isiT (by rfl) B.isi boot_isinstance (pa_cons (pv 0) (pa_cons (pe_tup (pa_cons (pe_bltn (v := .ty "list") (by rfl) B.list PyProof.Rows.boot_list rfl) (pa_cons (pe_bltn (v := .ty "tuple") (by rfl) B.tuple PyProof.Rows.boot_tuple rfl) pa_nil))) pa_nil)))))
            (pw_or1 (pt_cmpR op_ne (pe_callB call_isi (by rfl) B.isi boot_isinstance (pa_cons (pv 1) (pa_cons (pe_bltn (v := .ty "list") (by rfl) B.list PyProof.Rows.boot_list rfl) pa_nil))) (pe_callB call_isi (by rfl) B.isi boot_isinstance (pa_cons (pv 0) (pa_cons (pe_bltn (v := .ty "list") (by rfl) B.list PyProof.Rows.boot_list rfl) pa_nil))) (nomark _))))) (pss_one (ps_ret pe_bl)) pss_nil)
        (pss_cons (ps_if (pt_cmpR op_ne (pe_callB call_len_seq (by rfl) B.len PySem.boot_len (pa_cons (pv 0) pa_nil)) (pe_callB call_len_seq (by rfl) B.len PySem.boot_len (pa_cons (pv 1) pa_nil)) (nomark _)) (pss_one (ps_ret pe_bl)) pss_nil)
        (pss_cons (ps_for (passes_of rfl) rfl (pi_range1 (by rfl) B.range (pa_cons (pe_callB call_len_seq (by rfl) B.len PySem.boot_len (pa_cons (pv 1) pa_nil)) pa_nil)) (pg_name (i := 2) scSame.nd rfl (Or.inl rfl))
          (pss_one (ps_if (pt_not (pt_val (pe_cal C hr' (by rfl) (pa_cons (pe_ix ix_tup (pv 0) (pv 2) (fun _ _ => rfl)) (pa_cons (pe_ix ix_tup (pv 1) (pv 2) (fun _ _ => rfl)) pa_nil)) (Nat.le_refl _)))) (pss_one (ps_ret pe_bl)) pss_nil)))
        (pss_one (ps_ret pe_bl))))) pss_nil)
      (pss_cons (ps_if (pt_val (pe_callB call_isi (by rfl) B.isi boot_isinstance (pa_cons (pv 1) (pa_cons (pe_bltn (v := .ty "int") (by rfl) B.int PyProof.Rows.boot_int rfl) pa_nil))))
        (pss_one (ps_ret (pe_and (pe_callB call_isi (by rfl) B.isi boot_isinstance (pa_cons (pv 0) (pa_cons (pe_bltn (v := .ty "int") (by rfl) B.int PyProof.Rows.boot_int rfl) pa_nil)))
          (pe_and (pe_cmpR op_eq (pe_callB call_isi (by rfl) B.isi boot_isinstance (pa_cons (pv 0) (pa_cons (pe_bltn (v := .ty "bool") (by rfl) B.bool PyProof.Rows.boot_bool rfl) pa_nil))) (pe_callB call_isi (by rfl) B.isi boot_isinstance (pa_cons (pv 1) (pa_cons (pe_bltn (v := .ty "bool") (by rfl) B.bool PyProof.Rows.boot_bool rfl) pa_nil))) (nomark _))
            (pe_one (pe_cmpR op_eq (pv 0) (pv 1) (nomark _))))))) pss_nil)
      (pss_cons (ps_if (pt_cmp (pc_isN (pv 1))) (pss_one (ps_ret (pe_cmp (pc_isN (pv 0))))) pss_nil)
      (pss_one (ps_ret (pe_and (pe_callB call_isi (by rfl) B.isi boot_isinstance (pa_cons (pv 0) (pa_cons (pe_bltn (v := .ty "str") (by rfl) B.str PyProof.Rows.boot_str rfl) pa_nil))) (pe_one (pe_cmpR op_eq (pv 0) (pv 1) (nomark _)))))))), ?_⟩
    have v0 : ∀ {H1 : Hp} {o : Option V}, Ev (tVar 0) [some va, some ve, o] H1 va := ev_var rfl
    have v1 : ∀ {H1 : Hp} {o : Option V}, Ev (tVar 1) [some va, some ve, o] H1 ve := ev_var rfl
    cases hs with
    | int _ i =>
      have ea := ha
      have ee := he
      cases ha
      cases he
      refine q_when (b := false || false) (et_B (ev_isi2 v1 ee k_il k_it)) (fun hb => by cases hb) (fun _ H1 e1 => ?_)
      refine q_when (b := true) (et_B (ev_isi v1 (ee.mono e1) k_ii)) (fun _ H2 e2 => ?_) (fun hb => by cases hb)
      have ea2 := ea.mono (e1.trans e2)
      have ee2 := ee.mono (e1.trans e2)
      refine s_ret (ev_is (ev_andV (ev_isi v0 ea2 k_ii) fun _ => ev_andV (ev_op (ev_isi v0 ea2 k_ib) (ev_isi v1 ee2 k_ib) (rv_eq rfl)) fun _ => ev_op v0 v1 (rv_eq rfl)) (by simp)) fun H3 e3 => k _ ((e1.trans e2).trans e3)
    | str _ z =>
      have ea := ha
      have ee := he
      cases ha
      cases he
      refine q_when (b := false || false) (et_B (ev_isi2 v1 ee k_sl k_st)) (fun hb => by cases hb) (fun _ H1 e1 => ?_)
      refine q_when (b := false) (et_B (ev_isi v1 (ee.mono e1) k_si)) (fun hb => by cases hb) (fun _ H2 e2 => ?_)
      refine q_when (b := false) (et_B (fun H3 e3 Q2 q => v1 H3 (Ex.refl H3) _ fun H4 e4 => q H4 e4)) (fun hb => by cases hb) (fun _ H3 e3 => ?_)
      have ea2 := ea.mono ((e1.trans e2).trans e3)
      refine s_ret (ev_is (ev_andV (ev_isi v0 ea2 k_ss) fun _ => ev_op v0 v1 (rv_eq rfl)) (by simp)) fun H4 e4 => k _ (((e1.trans e2).trans e3).trans e4)
    | tup _ ds hds hl =>
      have ea := ha
      have ee := he
      cases ha with
      | tup ha1 ha2 =>
        cases he with
        | tup he1 he2 =>
          rename_i aa xs ab ys
          have l1 := ha2.length
          have l2 := he2.length
          refine q_when (b := false || true) (et_B (ev_isi2 v1 ee k_tl k_tt)) (fun _ H1 e1 => ?_) (fun hb => by cases hb)
          have ea1 := ea.mono e1
          have ee1 := ee.mono e1
          refine q_when (b := !(false || true) || !decide (V.bl false = V.bl false)) (et_or (et_not (et_B (ev_isi2 v0 ea1 k_tl k_tt))) fun _ => et_test (ev_op (ev_isi v1 ee1 k_tl) (ev_isi v0 ea1 k_tl) (rv_ne rfl))) (fun hb => by simp at hb) (fun _ H2 e2 => ?_)
          have e12 := e1.trans e2
          have hn1 := ev_lenT (K := K) (v0 (H1 := H2) (o := none)) (st_of (e12 _ _ ha1))
          have hn2 := ev_lenT (K := K) (v1 (H1 := H2) (o := none)) (st_of (e12 _ _ he1))
          rw [l1] at hn1
          rw [l2] at hn2
          refine q_when (b := !decide (V.int (ds.length : Int) = V.int (ds.length : Int))) (et_test (ev_op hn1 hn2 (rv_ne rfl))) (fun hb => by simp at hb) (fun _ H3 e3 => ?_)
          have e13 := e12.trans e3
          have hn3 := ev_lenT (K := K) (v1 (H1 := H3) (o := none)) (st_of (e13 _ _ he1))
          rw [l2] at hn3
          refine q_forR1 (ea_cons hn3 ea_nil) (by omega) (fun i σ' H' => Ex H H' ∧ ∃ o, σ' = [some (.ref aa), some (.ref ab), o]) (fun H4 e4 => ⟨e13.trans e4, _, rfl⟩) ?_ ?_
          · rintro i σ' H4 hi ⟨e4, o, rfl⟩
            change tIfS _ _ _ _ [some (.ref aa), some (.ref ab), some (.int (i : Int))] _
            have hdi : ds[i]? = some ds[i] := List.getElem?_eq_getElem (by omega)
            obtain ⟨x, hx, hdx⟩ := ha2.at hdi
            obtain ⟨y, hy, hdy⟩ := he2.at hdi
            refine s_when (b := !true) (et_not (et_B (ev_call (ea_cons (ev_op (ev_var rfl) (ev_var rfl) (rv_ixT (st_of (e4 _ _ ha1)) (atI_nat hx))) (ea_cons (ev_op (ev_var rfl) (ev_var rfl) (rv_ixT (st_of (e4 _ _ he1)) (atI_nat hy))) ea_nil)) (hC x y ds[i] H4 (hdx.mono e4) (hdy.mono e4) ⟨_, rfl, hds _ (List.mem_of_getElem? hdi)⟩)))) (fun hb => by simp at hb) (fun _ H5 e5 => ⟨e4.trans e5, _, rfl⟩)
          · rintro σ' H4 ⟨e4, o, rfl⟩
            exact s_ret ev_c fun H5 e5 => k _ (e4.trans e5)
/-- each depth, one after another -/
theorem same_all (B : Bl mg) (F : FnP K "_law_same" sSame f fd) (hg : mg "_law_same" = some (.ref f)) : ∀ n, FnOk P w K mg base CX0 (n + 1) f fd ["_law_actual", "_law_expected"] (spSame n)
  | 0 => ok_same B 0 0 (fun _ _ _ _ => False) (Nat.le_refl _) ⟨⟨f, fd, ⟨fun _ _ _ _ h => h.elim, fun _ _ _ _ _ _ _ _ _ _ _ _ _ h => h.elim⟩, hg, F.kp, F.bindsN fun _ _ _ _ _ _ us hl => match us, hl with | [_, _], _ => rfl⟩⟩ (fun _ _ _ _ _ _ ⟨m, e, _⟩ => by cases e) F
  | n + 1 => ok_same B (n + 1) (n + 1) (spSame n) (Nat.le_refl _) ⟨⟨f, fd, same_all B F hg n, hg, F.kp, F.bindsN fun _ _ _ _ _ _ us hl => match us, hl with | [_, _], _ => rfl⟩⟩ (fun va ve d H h1 h2 ⟨m, e, hs⟩ => by
      cases e
      exact spP_v fun H1 e1 => ⟨va, ve, d, rfl, h1.mono e1, h2.mono e1, hs, rfl⟩) F
end
end Wk

set_option Elab.async false
set_option linter.all false
set_option maxRecDepth 100000
set_option maxHeartbeats 2000000
namespace Wk
open PySem PySem.Spec PyProof.Rows L2 Evl
/-- t == u, equal plain items -/
def rEqSm (K : PySem.W.Frag) : R2 := fun x y H Q => ∃ a b xs, x = .ref a ∧ y = .ref b ∧ SqT K H a xs ∧ SqT K H b xs ∧ xs.all flatV = true ∧ (∀ z ∈ xs, eqV z z = true) ∧ Q (.bl true) H
theorem op_eqSm {X : Cx} (hu : X.A.units < cLine) : OpR X (compareOp .Eq) (rEqSm X.K) := fun pins s σ H x y v u Q I rx ry h => by
  obtain ⟨a, b, xs, rfl, rfl, ha, hb, hf, he, q⟩ := h
  cases rx
  cases ry
  obtain ⟨its, r1, p1, _⟩ := I.tuple ha
  obtain ⟨its2, r2, p2, _⟩ := I.tuple hb
  have l1 := r1.length
  have l2 := r2.length
  refine SeqAt.eq_tupleAt (e := fun _ => true) p1 p2 hu (fun j h1 h2 => ?_) ⟨.bl true, H, I, ?_, q⟩
  · have hj : j < xs.length := by simp at h1; omega
    have hx : xs[j]? = some xs[j] := List.getElem?_eq_getElem hj
    obtain ⟨u1, e1, q1⟩ := r1.get hx
    obtain ⟨u2, e2, q2⟩ := r2.get hx
    have f1 := List.all_eq_true.mp hf xs[j] (List.getElem_mem hj)
    have z := eqAt_V (A := X.A.in1) (s := s) q1 q2 f1 f1
    rw [he _ (List.getElem_mem hj)] at z
    have i1 : its.toArray[j] = u1 := by
      have := (List.getElem?_eq_some_iff.mp e1).2
      simpa using this
    have i2 : its2.toArray[j] = u2 := by
      have := (List.getElem?_eq_some_iff.mp e2).2
      simpa using this
    rw [i1, i2]
    exact z
  · show Value.bool _ = Value.bool true
    have : its.length = its2.length := by omega
    simp [this]
theorem call_reprK {X : Cx} {K : PySem.W.Frag} (hK : X.K = K) (gu : X.A.guards = some []) (hu : X.A.units + 64 < cLine) : CallR X (.builtin "repr") (rRepr K) := by
  subst hK
  exact call_reprD gu hu
/-- how wishes are made -/
structure Mkr (P : Program) (w : World) (K : PySem.W.Frag) (mg : Str → Option Value) (base : Heap) (CW CB : Addr) : Prop where
  tx : WTx K mg CW
  ex : ∃ (fI : Addr) (fd : FuncData), Mk K CW fI ∧ FnOk P w K mg base (L2.CX P w) 8 fI fd ["self", "lists"] (spWI CW CB) ∧ Binds K fd ["self", "lists"] []
structure Wys (P : Program) (w : World) (K : PySem.W.Frag) (mg : Str → Option Value) (base : Heap) (CW CN : Addr) : Prop where
  ex : ∃ (fM : Addr) (fd : FuncData), Meth K CW "ways" fM ∧ FnOk P w K mg base (L2.CX P w) 5 fM fd ["self", "router"] (spWays CW CN) ∧ Binds K fd ["self", "router"] []
section
variable {P : Program} {w : World} {K : PySem.W.Frag} {mg : Str → Option Value} {base : Heap} {f : Addr} {fd : FuncData}
def spRefusal : Sp := fun vs H Q _ => ∃ (v : V) (d : PyData) (r : Int), vs = [v] ∧ Dq H v d ∧ dueD d = some r ∧ ∀ p H', Ex H H' → H' p = some (.tup [.str "bad", .int r]) → Q (.ref p) H'
abbrev sRefusal : Stmt := top 35
abbrev nRefusal : List Str := ["_law_thing", "_law_found", "e"]
theorem scRefusal : FnScope nRefusal ["_law_thing"] (defScope sRefusal) := ⟨rfl, rfl, rfl, by decide +kernel, rfl, by decide +kernel, by decide +kernel⟩
theorem ok_refusal {CW CB : Addr} (M : Mkr P w K mg base CW CB) (T : Err P w K mg base "BadWishes" CB) (F : FnP K "_law_refusal" sRefusal f fd) : FnOk P w K mg base CX0 10 f fd ["_law_thing"] spRefusal := by
  obtain ⟨fI, fdI, mk, FI, bI⟩ := M.ex
  refine F.ok scRefusal (fun vs H Q E h => ?_) (fun cdv A outer s H vs Q E hr h => ?_)
  · obtain ⟨v, d, r, rfl, _⟩ := h
    rfl
  · obtain ⟨v, d, r, rfl, hd, hdue, k⟩ := h
    refine ⟨_, pss_cons (ps_set (i := 1) scRefusal.nd rfl (Or.inl rfl) (pe_tup (pa_cons pe_str pa_nil)))
      (pss_cons (ps_try_as (i := 2) rfl rfl scRefusal.nd rfl rfl ⟨rfl, by decide, .inl T.g⟩ takes0
          (fun W pn xe tk _ => pss_one (ps_expr (pe_mkAt mk FI hr rfl M.tx.g bI (fun σ => passAt tk σ) (pa_cons (pv 0) pa_nil))))
          (fun a oe cls d pn hz hf => pss_one (ps_set (i := 1) scRefusal.nd rfl (Or.inl rfl) (pe_tup (pa_cons pe_str (pa_cons (pe_xf T.xf T.no hz hf (pv 2)) pa_nil))))))
      (pss_one (ps_ret (pv 1)))), ?_⟩
    refine ⟨by show 1 ≤ sizeLine; decide, fun p1 hp1 => ?_⟩
    have e1 : Ex H (upd H p1 (.tup [.str "made"])) := Ex.new hp1
    refine ⟨v, rfl, fun x dx nx ndx nex => ?_⟩
    refine ⟨upd H p1 (.tup [.str "made"]), x, dx, v, d, rfl, upd_same, fun b o hb => ?_, nx, hd.mono e1, fun z => ?_, fun r' hr' dx' H' h0 e' hx' => ?_⟩
    · rw [upd_ne (ne_of_none hb nx), upd_ne (ne_of_none hb ndx)]
      exact hb
    · rw [hdue] at z
      cases z
    · rw [hdue] at hr'
      cases hr'
      refine ⟨true, T.te, fun _ a ha => ?_, fun z => Bool.noConfusion z⟩
      refine ⟨.ref a, rfl, rfl, rfl, dx', _, .int r, rfl, hx', rfl, by show 2 ≤ sizeLine; decide, fun p2 hp2 => ?_⟩
      refine ⟨.ref p2, rfl, k p2 _ (fun b o hb => ?_) upd_same⟩
      have hb1 := e1 _ _ hb
      have hb2 : (upd (upd (upd H p1 (.tup [.str "made"])) dx (.own x)) x (.ins CW dx [])) b = some o := by
        rw [upd_ne (ne_of_none hb1 nx), upd_ne (ne_of_none hb1 ndx)]
        exact hb1
      have hb3 := e' _ _ hb2
      rw [upd_ne (ne_of_none hb3 hp2)]
      exact hb3
def spNoR (CW : Addr) : Sp := fun vs H Q _ => ∃ (p dx : Addr) (lv v : V) (d : PyData) (rows : List PyData), vs = [.ref p, v] ∧ H p = some (.ins CW dx (wf (rows.length : Int) lv)) ∧ Dq H lv (.tuple rows) ∧ Dq H v d ∧ isR (rows.length : Int) d = false ∧
  d.canLay0 = true ∧ d.showable = true ∧ d.hasDict = false ∧ d.depth ≤ 60 ∧ d.shown.length ≤ sizeLine ∧ ∀ H', Ex H H' → Q (.bl true) H'
abbrev sNoR : Stmt := top 36
abbrev nNoR : List Str := ["_law_wishes", "_law_thing", "_law_found", "e"]
theorem scNoR : FnScope nNoR ["_law_wishes", "_law_thing"] (defScope sNoR) := ⟨rfl, rfl, rfl, by decide +kernel, rfl, by decide +kernel, by decide +kernel⟩
theorem ok_noR {CW CN : Addr} (B : Bl mg) (X : WTx K mg CW) (M : Wys P w K mg base CW CN) (T : Err P w K mg base "NoRouter" CN) (F : FnP K "_law_no_router" sNoR f fd) : FnG P w K mg base 6 f fd ["_law_wishes", "_law_thing"] (spNoR CW) := by
  obtain ⟨fM, fdM, me, FM, bM⟩ := M.ex
  refine okG F scNoR (fun vs H Q E h => ?_) (fun cdv A outer s H vs Q E hr hg h => ?_)
  · obtain ⟨p, dx, lv, v, d, rows, rfl, _⟩ := h
    rfl
  · obtain ⟨p, dx, lv, v, d, rows, rfl, hp, hl, hd, hR, lay, sh, nd, dp, sz, k⟩ := h
    have hu : (A.deeper (envOfC "_law_no_router" (defScope sNoR) s.heap.objs.size f cdv)).units + 64 < cLine := by have := hr.un; omega
    have hu0 : (A.deeper (envOfC "_law_no_router" (defScope sNoR) s.heap.objs.size f cdv)).units < cLine := by omega
    refine ⟨_, pss_cons (ps_set (i := 2) scNoR.nd rfl (Or.inl rfl) (pe_tup (pa_cons pe_str pa_nil)))
      (pss_cons (ps_try_as (i := 3) rfl rfl scNoR.nd rfl rfl ⟨rfl, by decide, .inl T.g⟩ takes0
          (fun W pn xe tk _ => pss_one (ps_expr (pe_meAt (pv 0) X.cl me FM hr bM (fun σ => passAt tk σ) (pa_cons (pv 1) pa_nil))))
          (fun a oe cls d pn hz hf => pss_one (ps_set (i := 2) scNoR.nd rfl (Or.inl rfl) (pe_tup (pa_cons pe_str (pa_cons (pe_callB (call_reprK (K := K) rfl hg hu) (by rfl) B.repr boot_repr (pa_cons (pe_xf T.xf T.no hz hf (pv 3)) pa_nil)) pa_nil))))))
      (pss_one (ps_ret (pe_cmpR (op_eqSm hu0) (pv 2) (pe_tup (pa_cons pe_str (pa_cons (pe_callB (call_reprK (K := K) rfl hg hu) (by rfl) B.repr boot_repr (pa_cons (pv 1) pa_nil)) pa_nil))) (nomark _))))), ?_⟩
    refine ⟨by show 1 ≤ sizeLine; decide, fun p1 hp1 => ?_⟩
    have e1 : Ex H (upd H p1 (.tup [.str "told"])) := Ex.new hp1
    refine ⟨.ref p, rfl, p, dx, _, rfl, e1 _ _ hp, wf_no _ _ (by decide +kernel) (by decide +kernel), v, rfl, ?_⟩
    refine ⟨p, dx, lv, v, d, rows, rfl, e1 _ _ hp, hl.mono e1, hd.mono e1, fun z => ?_, fun _ dx' H' h0 e' hx' => ?_⟩
    · rw [hR] at z
      cases z
    · refine ⟨true, T.te, fun _ a ha => ?_, fun z => Bool.noConfusion z⟩
      have hd' := hd.mono (e1.trans e')
      refine ⟨.ref a, rfl, rfl, rfl, dx', _, v, rfl, hx', rfl, v, d, rfl, Dq.dp lay hd', sh, nd, dp, sz, by show 2 ≤ sizeLine; decide, fun p2 hp2 => ?_⟩
      have e2 : Ex H' (upd H' p2 (.tup [.str "none", .str d.shown])) := Ex.new hp2
      refine ⟨.ref p2, rfl, v, rfl, v, d, rfl, Dq.dp lay (hd'.mono e2), sh, nd, dp, sz, by show 2 ≤ sizeLine; decide, fun p3 hp3 => ?_⟩
      have e3 : Ex (upd H' p2 (.tup [.str "none", .str d.shown])) (upd (upd H' p2 (.tup [.str "none", .str d.shown])) p3 (.tup [.str "none", .str d.shown])) := Ex.new hp3
      exact ⟨p2, p3, [.str "none", .str d.shown], rfl, rfl, st_of (e3 _ _ upd_same), st_of upd_same, rfl, fun z hz => by
        rcases List.mem_cons.mp hz with q | q
        · rw [q]; simp [eqV]
        · rw [List.mem_singleton.mp q]; simp [eqV], k _ (((e1.trans e').trans e2).trans e3)⟩
end
end Wk

set_option Elab.async false
set_option linter.all false
set_option maxRecDepth 100000
set_option maxHeartbeats 2000000
namespace Wk
open PySem PySem.Spec PyProof.Rows L2 Evl
/-! the pool of numbers: the list at p with a count and the list at q of cells; G is what stays -/
structure Pl (G H : Hp) (p q : Addr) : Prop where
  ex : Ex G H
  gp : G p = none
  gq : G q = none
  ne : p ≠ q
  at_ : ∃ (n : Int) (cs : List Int), H p = some (.lst [.int n, .ref q]) ∧ H q = some (.lst (cs.map V.int)) ∧ cs ≠ [] ∧ cs.length ≤ 63
theorem Pl.np {G H : Hp} {p q a : Addr} (h : Pl G H p q) (ha : H a = none) : a ≠ p := fun z => by
  obtain ⟨n, cs, h1, _⟩ := h.at_
  rw [z, h1] at ha
  cases ha
theorem Pl.nq {G H : Hp} {p q a : Addr} (h : Pl G H p q) (ha : H a = none) : a ≠ q := fun z => by
  obtain ⟨n, cs, _, h2, _⟩ := h.at_
  rw [z, h2] at ha
  cases ha
theorem Pl.ext {G H H' : Hp} {p q : Addr} (h : Pl G H p q) (e : Ex H H') : Pl G H' p q := by
  obtain ⟨n, cs, h1, h2, r⟩ := h.at_
  exact ⟨h.ex.trans e, h.gp, h.gq, h.ne, n, cs, e _ _ h1, e _ _ h2, r⟩
/-- a new object that stays -/
theorem Pl.new {G H : Hp} {p q a : Addr} {o : HO} (h : Pl G H p q) (ha : H a = none) : Pl (upd G a o) (upd H a o) p q := by
  obtain ⟨n, cs, h1, h2, r⟩ := h.at_
  have np := h.np ha
  have nq := h.nq ha
  refine ⟨fun b u hb => ?_, by rw [upd_ne (Ne.symm np)]; exact h.gp, by rw [upd_ne (Ne.symm nq)]; exact h.gq, h.ne, n, cs, by rw [upd_ne (Ne.symm np)]; exact h1, by rw [upd_ne (Ne.symm nq)]; exact h2, r⟩
  by_cases c : b = a
  · rw [c, upd_same] at hb ⊢
    exact hb
  · rw [upd_ne c] at hb ⊢
    exact h.ex _ _ hb
/-- an object that does not stay is changed -/
theorem Pl.mut {G H : Hp} {p q a : Addr} {o : HO} (h : Pl G H p q) (ga : G a = none) (np : a ≠ p) (nq : a ≠ q) : Pl G (upd H a o) p q := by
  obtain ⟨n, cs, h1, h2, r⟩ := h.at_
  exact ⟨Ex.mut h.ex ga, h.gp, h.gq, h.ne, n, cs, by rw [upd_ne (Ne.symm np)]; exact h1, by rw [upd_ne (Ne.symm nq)]; exact h2, r⟩
/-- what an object holds now stays for a while -/
theorem Pl.hold {G H : Hp} {p q a : Addr} {o : HO} (h : Pl G H p q) (ha : H a = some o) (np : a ≠ p) (nq : a ≠ q) : Pl (upd G a o) H p q := by
  refine ⟨fun b u hb => ?_, by rw [upd_ne (Ne.symm np)]; exact h.gp, by rw [upd_ne (Ne.symm nq)]; exact h.gq, h.ne, h.at_⟩
  by_cases c : b = a
  · rw [c, upd_same] at hb
    cases hb
    rw [c]
    exact ha
  · rw [upd_ne c] at hb
    exact h.ex _ _ hb
/-- less stays -/
theorem Pl.less {G G' H : Hp} {p q : Addr} (h : Pl G H p q) (e : Ex G' G) : Pl G' H p q := ⟨e.trans h.ex, fresh_back e h.gp, fresh_back e h.gq, h.ne, h.at_⟩
theorem Ex.upd2 {G : Hp} {a : Addr} {o : HO} (h : G a = none) : Ex G (upd G a o) := Ex.new h
section
variable {P : Program} {w : World} {K : PySem.W.Frag} {mg : Str → Option Value} {base : Heap} {f : Addr} {fd : FuncData}
/-! _law_pool -/
def spPool (K : PySem.W.Frag) : Sp := fun vs H Q _ => ∃ (a : Addr) (ns : List Int), vs = [.ref a] ∧ SqL K H a (ns.map V.int) ∧ ns.length ≤ 63 ∧ ∀ H' p q, Pl H H' p q → Q (.ref p) H'
abbrev sPool : Stmt := top 21
abbrev nPool : List Str := ["_law_script", "_law_cells", "_law_cell"]
theorem scPool : FnScope nPool ["_law_script"] (defScope sPool) := ⟨rfl, rfl, rfl, by decide +kernel, rfl, by decide +kernel, by decide +kernel⟩
theorem ok_pool (B : Bl mg) (F : FnP K "_law_pool" sPool f fd) : FnOk P w K mg base CX0 1 f fd ["_law_script"] (spPool K) := by
  refine F.ok scPool (fun vs H Q E h => ?_) (fun cdv A outer s H vs Q E hr h => ?_)
  · obtain ⟨a, ns, rfl, _⟩ := h
    rfl
  · obtain ⟨a, ns, rfl, hs, hl, k⟩ := h
    have hu0 : (A.deeper (envOfC "_law_pool" (defScope sPool) s.heap.objs.size f cdv)).units < cLine := by have := hr.un; omega
    refine ⟨_, pss_cons (ps_setLc (i := 1) (own := [("_law_cell", 2)]) (g := gName 2) (tt := tYes) rfl scPool.nd rfl rfl (sw_true rfl rfl rfl (by decide +kernel)) (pi_list (pv 0)) (blkOk_by (N := nPool) (sc := defScope sPool) (by decide +kernel))
          (fun _ _ _ _ _ => pg_name (i := 2) scPool.nd rfl (Or.inl rfl)) (fun _ _ _ _ _ => pts_nil)
          (fun _ _ _ _ _ => pe_op op_add (pe_op op_mul pe_int (pe_callB call_abs (by rfl) B.abs boot_abs (pa_cons (pv 2) pa_nil))) (pe_callTy call_int1 (by rfl) B.int PyProof.Rows.boot_int (pa_cons (pe_cmpR op_lt (pv 2) pe_int (nomark _)) pa_nil))))
      (pss_cons (ps_if (pt_cmpR (op_eqEL hu0) (pv 1) (pe_lst pa_nil) (nomark _)) (pss_one (ps_set (i := 1) scPool.nd rfl (Or.inl rfl) (pe_lst (pa_cons pe_int pa_nil)))) pss_nil)
      (pss_one (ps_ret (pe_lst (pa_cons pe_int (pa_cons (pv 1) pa_nil)))))), ?_⟩
    have cell : ∀ (i : Nat) (x : V) (H1 : Hp), Ex H H1 → (ns.map V.int)[i]? = some x → Ev (tOp (rI0 fun i j => .int (i + j)) (tOp (rI CMul fun i j => .int (i * j)) (tC (.int 2)) (tCB (fun xs H Q => ∃ i, xs = [.int i] ∧ Q (.int (if i < 0 then -i else i)) H) (tCons (tVar 2) tNil)))
        (tCB (fun xs H Q => (∃ i, xs = [.int i] ∧ Q (.int i) H) ∨ ∃ k, xs = [.bl k] ∧ Q (.int (if k then 1 else 0)) H) (tCons (tOp (rI0 fun i j => .bl (decide (i < j))) (tVar 2) (tC (.int 0))) tNil))) [some (.ref a), none, some x] H1
        (.int (2 * (if ns.getD i 0 < 0 then -(ns.getD i 0) else ns.getD i 0) + (if decide (ns.getD i 0 < 0) = true then 1 else 0))) := fun i x H1 e hx => by
      rw [List.getElem?_map] at hx
      cases hn : ns[i]? with
      | none => rw [hn] at hx; cases hx
      | some n =>
        rw [hn] at hx
        have ex : x = .int n := (Option.some.inj hx).symm
        subst ex
        rw [show ns.getD i 0 = n by rw [List.getD_eq_getElem?_getD, hn]; rfl]
        refine ev_op (ev_op ev_c (ev_cb (ea_cons (ev_var rfl) ea_nil) fun H2 e2 Q2 q => ⟨n, rfl, q H2 (Ex.refl H2)⟩) (rv_I (.inl ⟨by decide, by decide⟩))) (ev_cb (ea_cons (ev_op (ev_var rfl) ev_c rv_I0) ea_nil) fun H2 e2 Q2 q => .inr ⟨_, rfl, q H2 (Ex.refl H2)⟩) rv_I0
    refine q_asgL (el_lcL (K := K) (j := 2) (vs := [2]) (fun _ => true) (fun i => .int (2 * (if ns.getD i 0 < 0 then -(ns.getD i 0) else ns.getD i 0) + (if decide (ns.getD i 0 < 0) = true then 1 else 0))) (ev_var rfl) hs (by rw [List.length_map]; omega) (fun x => rfl) (fun _ _ _ _ _ => et_yes) (fun i x H1 e hx _ => cell i x H1 e hx)) fun p1 H1 hp1 e1 hl1 => ?_
    rw [given_all, List.length_map] at hl1
    generalize hcs : (List.range ns.length).map (fun i => 2 * (if ns.getD i 0 < 0 then -(ns.getD i 0) else ns.getD i 0) + (if decide (ns.getD i 0 < 0) = true then 1 else 0)) = cs
    have hl2 : H1 p1 = some (.lst (cs.map V.int)) := by
      rw [hl1, ← hcs, List.map_map]
      rfl
    have hcl : cs.length = ns.length := by rw [← hcs]; simp
    have fin : ∀ (q : Addr) (H2 : Hp) (ds : List Int) (o : Option V), Ex H H2 → H q = none → H2 q = some (.lst (ds.map V.int)) → ds ≠ [] → ds.length ≤ 63 → tRet (tLst (tCons (tC (.int 0)) (tCons (tVar 1) tNil))) { nx := fun _ H' => Q .non H', rt := Q } [some (.ref a), some (.ref q), o] H2 := fun q H2 ds o e hq h2 hne hle => by
      refine s_retL (el_lst (ea_cons ev_c (ea_cons (ev_var rfl) ea_nil)) (by show 2 ≤ 100000; decide)) fun p H3 hp e3 h3 => k H3 p q ?_
      exact ⟨e.trans e3, fresh_back e hp, hq, (fun z => by rw [z, h2] at hp; cases hp), 0, ds, h3, e3 _ _ h2, hne, hle⟩
    refine q_when (b := (cs.map V.int).isEmpty) (et_test (ev_opL (xs := []) (ev_var rfl) (el_lst ea_nil (by simp)) fun p2 H2 hp2 e2 => fun H3 e3 Q2 q => ⟨p1, p2, _, rfl, rfl, sq_of ((e2.trans e3) _ _ hl2), sq_of (e3 _ _ hp2), q H3 (Ex.refl H3)⟩)) (fun hb H2 e2 => ?_) (fun hb H2 e2 => ?_)
    · refine s_asgL (el_lst (ea_cons ev_c ea_nil) (by show 1 ≤ 100000; decide)) fun p3 H3 hp3 e3 h3 => ?_
      exact fin p3 H3 [0] none ((e1.trans e2).trans e3) (fresh_back (e1.trans e2) hp3) h3 (by simp) (by simp)
    · refine fin p1 H2 cs none (e1.trans e2) hp1 (e2 _ _ hl2) (fun z => ?_) (by omega)
      rw [z] at hb
      simp at hb
/-! _law_draw -/
def spDraw : Sp := fun vs H Q _ => ∃ (G : Hp) (p q : Addr) (z : Int), vs = [.ref p, .int z] ∧ Pl G H p q ∧ 0 < z ∧ z ≤ 1000 ∧ ∀ H' (i : Int), Pl G H' p q → 0 ≤ i → i < z → Q (.int i) H'
abbrev sDraw : Stmt := top 22
abbrev nDraw : List Str := ["_law_pool_here", "_law_size", "_law_place", "_law_cell", "_law_number"]
theorem scDraw : FnScope nDraw ["_law_pool_here", "_law_size"] (defScope sDraw) := ⟨rfl, rfl, rfl, by decide +kernel, rfl, by decide +kernel, by decide +kernel⟩
theorem modP (a b : Int) (h : 0 < b) : 0 ≤ a % b ∧ a % b < b := ⟨Int.emod_nonneg _ (by omega), Int.emod_lt_of_pos _ h⟩
theorem ok_draw (B : Bl mg) (F : FnP K "_law_draw" sDraw f fd) : FnOk P w K mg base CX0 1 f fd ["_law_pool_here", "_law_size"] spDraw := by
  refine F.ok scDraw (fun vs H Q E h => ?_) (fun cdv A outer s H vs Q E hr h => ?_)
  · obtain ⟨G, p, q, z, rfl, _⟩ := h
    rfl
  · obtain ⟨G, p, q, z, rfl, hP, hz, hz2, k⟩ := h
    refine ⟨_, pss_cons (ps_asg (pe_op op_add (pe_ix ix_list (pv 0) pe_int (fun _ _ => rfl)) pe_int) (pg_sub (pv 0) pe_int set_list))
      (pss_cons (ps_set (i := 2) scDraw.nd rfl (Or.inl rfl) (pe_op op_mod (pe_callTy call_int1 (by rfl) B.int PyProof.Rows.boot_int (pa_cons (pe_ix ix_list (pv 0) pe_int (fun _ _ => rfl)) pa_nil)) (pe_callB call_len_seq (by rfl) B.len PySem.boot_len (pa_cons (pe_ix ix_list (pv 0) pe_int (fun _ _ => rfl)) pa_nil))))
      (pss_cons (ps_set (i := 3) scDraw.nd rfl (Or.inl rfl) (pe_ix ix_list (pe_ix ix_list (pv 0) pe_int (fun _ _ => rfl)) (pv 2) (fun _ _ => rfl)))
      (pss_cons (ps_if (pt_cmpR op_ge (pv 3) (pe_op op_pow pe_int pe_int) (nomark _))
          (pss_cons (ps_asg (pe_op op_fdiv (pv 3) (pv 1)) (pg_sub (pe_ix ix_list (pv 0) pe_int (fun _ _ => rfl)) (pv 2) set_list)) (pss_one (ps_ret (pe_op op_mod (pe_callTy call_int1 (by rfl) B.int PyProof.Rows.boot_int (pa_cons (pv 3) pa_nil)) (pv 1))))) pss_nil)
      (pss_cons (ps_set (i := 4) scDraw.nd rfl (Or.inl rfl) (pe_op op_mod (pe_callTy call_int1 (by rfl) B.int PyProof.Rows.boot_int (pa_cons (pe_op op_mul (pe_op op_add (pe_op op_add (pv 3) (pe_op op_mul pe_int (pe_ix ix_list (pv 0) pe_int (fun _ _ => rfl)))) pe_int) pe_int) pa_nil)) pe_int))
      (pss_cons (ps_set (i := 4) scDraw.nd rfl (Or.inl rfl) (pe_op op_mod (pe_callTy call_int1 (by rfl) B.int PyProof.Rows.boot_int (pa_cons (pe_op op_mul (pv 4) (pe_op op_add (pe_op op_fdiv (pv 4) pe_int) pe_int)) pa_nil)) pe_int))
      (pss_cons (ps_set (i := 4) scDraw.nd rfl (Or.inl rfl) (pe_op op_mod (pe_callTy call_int1 (by rfl) B.int PyProof.Rows.boot_int (pa_cons (pe_op op_mul (pv 4) (pe_op op_add (pe_op op_fdiv (pv 4) pe_int) pe_int)) pa_nil)) pe_int))
      (pss_one (ps_ret (pe_op op_mod (pe_callTy call_int1 (by rfl) B.int PyProof.Rows.boot_int (pa_cons (pv 4) pa_nil)) (pv 1)))))))))), ?_⟩
    obtain ⟨n, cs, h1, h2, hne, hle⟩ := hP.at_
    have hcl : 0 < cs.length := List.length_pos_iff.mpr hne
    refine ⟨.ref p, rfl, p, _, 0, .int n, rfl, rfl, sq_of h1, rfl, n, 1, rfl, rfl, .ref p, rfl, p, _, 0, 0, rfl, rfl, h1, rfl, ?_⟩
    -- the count is set
    generalize hH1 : upd H p (.lst ([V.int n, V.ref q].set 0 (.int (n + 1)))) = H1
    have p1 : H1 p = some (.lst [.int (n + 1), .ref q]) := by rw [← hH1]; exact upd_same
    have q1 : H1 q = some (.lst (cs.map V.int)) := by rw [← hH1, upd_ne (Ne.symm hP.ne)]; exact h2
    have P1 : Pl G H1 p q := ⟨by rw [← hH1]; exact Ex.mut hP.ex hP.gp, hP.gp, hP.gq, hP.ne, n + 1, cs, p1, q1, hne, hle⟩
    have pl0 := modP (n + 1) ((cs.map V.int).length : Int) (by rw [List.length_map]; omega)
    rw [List.length_map] at pl0
    obtain ⟨j, hj⟩ : ∃ j : Nat, (n + 1) % ((cs.map V.int).length : Int) = (j : Int) := ⟨((n + 1) % ((cs.map V.int).length : Int)).toNat, by rw [Int.toNat_of_nonneg]; rw [List.length_map]; exact pl0.1⟩
    have hjl : j < cs.length := by rw [List.length_map] at hj; omega
    refine ⟨.ref p, rfl, p, _, 0, .int (n + 1), rfl, rfl, sq_of p1, rfl, .inl ⟨n + 1, rfl, .ref p, rfl, p, _, 1, .ref q, rfl, rfl, sq_of p1, rfl, q, _, rfl, .inl (sq_of q1), n + 1, _, rfl, rfl, by rw [List.length_map]; omega, ?_⟩⟩
    change tSeq _ _ _ [some (.ref p), some (.int z), some (.int ((n + 1) % ((cs.map V.int).length : Int))), none, none] H1
    rw [hj]
    have hcj : (cs.map V.int)[j]? = some (.int cs[j]) := by rw [List.getElem?_map, List.getElem?_eq_getElem hjl]; rfl
    refine ⟨.ref p, rfl, p, _, 1, .ref q, rfl, rfl, sq_of p1, rfl, .int (j : Int), rfl, q, _, j, _, rfl, rfl, sq_of q1, atI_nat hcj, ?_⟩
    change tSeq _ _ _ [some (.ref p), some (.int z), some (.int (j : Int)), some (.int cs[j]), none] H1
    generalize cs[j] = c
    refine ⟨.int c, rfl, 10, 18, rfl, rfl, ⟨by decide, by decide, by decide⟩, c, _, rfl, rfl, _, rfl, ?_⟩
    refine ite2 (fun _ => ?_) (fun _ => ?_)
    · refine ⟨.int c, rfl, .int z, rfl, c, z, rfl, rfl, ⟨hz, by omega⟩, .ref p, rfl, p, _, 1, .ref q, rfl, rfl, sq_of p1, rfl, .int (j : Int), rfl, q, _, (j : Int), j, rfl, rfl, q1, ixN_nat (by rw [List.length_map]; exact hjl), ?_⟩
      have m := modP c z hz
      refine ⟨.int c, rfl, .inl ⟨c, rfl, .int z, rfl, c, z, rfl, rfl, hz, k _ _ ?_ m.1 m.2⟩⟩
      refine ⟨Ex.mut P1.ex hP.gq, hP.gp, hP.gq, hP.ne, n + 1, cs.set j (c / z), by rw [upd_ne hP.ne]; exact p1, by rw [upd_same, List.map_set], fun e => ?_, by rw [List.length_set]; exact hle⟩
      have := congrArg List.length e
      rw [List.length_set] at this
      exact hne (by simpa using this)
    · refine ⟨.int c, rfl, .ref p, rfl, p, _, 0, .int (n + 1), rfl, rfl, sq_of p1, rfl, 7919, n + 1, rfl, rfl, .inl ⟨by decide, by decide⟩, c, _, rfl, rfl, _, 1, rfl, rfl, _, 48271, rfl, rfl, .inr ⟨by decide, by decide⟩, .inl ⟨_, rfl, _, 2147483647, rfl, rfl, (show (0 : Int) < 2147483647 by decide), ?_⟩⟩
      have m1 := modP ((c + 7919 * (n + 1) + 1) * 48271) 2147483647 (by decide)
      change tSeq _ _ _ [some (.ref p), some (.int z), some (.int (j : Int)), some (.int c), some (.int (((c + 7919 * (n + 1) + 1) * 48271) % 2147483647))] H1
      generalize ((c + 7919 * (n + 1) + 1) * 48271) % 2147483647 = y1 at m1 ⊢
      refine ⟨.int y1, rfl, .int y1, rfl, y1, 1009, rfl, rfl, ⟨by decide, by decide⟩, _, 69621, rfl, rfl, y1, _, rfl, rfl, .inl ⟨by omega, by omega⟩, .inl ⟨_, rfl, _, 2147483647, rfl, rfl, (show (0 : Int) < 2147483647 by decide), ?_⟩⟩
      have m2 := modP (y1 * (y1 / 1009 + 69621)) 2147483647 (by decide)
      change tSeq _ _ _ [some (.ref p), some (.int z), some (.int (j : Int)), some (.int c), some (.int ((y1 * (y1 / 1009 + 69621)) % 2147483647))] H1
      generalize (y1 * (y1 / 1009 + 69621)) % 2147483647 = y2 at m2 ⊢
      refine ⟨.int y2, rfl, .int y2, rfl, y2, 2003, rfl, rfl, ⟨by decide, by decide⟩, _, 40692, rfl, rfl, y2, _, rfl, rfl, .inl ⟨by omega, by omega⟩, .inl ⟨_, rfl, _, 2147483399, rfl, rfl, (show (0 : Int) < 2147483399 by decide), ?_⟩⟩
      have m := modP ((y2 * (y2 / 2003 + 40692)) % 2147483399) z hz
      exact ⟨.int ((y2 * (y2 / 2003 + 40692)) % 2147483399), rfl, .inl ⟨_, rfl, .int z, rfl, _, z, rfl, rfl, hz, k _ _ P1 m.1 m.2⟩⟩
end
end Wk

set_option Elab.async false
set_option linter.all false
set_option maxRecDepth 100000
set_option maxHeartbeats 2000000
namespace Wk
open PySem PySem.Spec PyProof.Rows L2 Evl
/-- all but the pool stays -/
def Off (p q : Addr) (H H' : Hp) : Prop := ∀ b o, b ≠ p → b ≠ q → H b = some o → H' b = some o
theorem Off.refl (p q : Addr) (H : Hp) : Off p q H H := fun _ _ _ _ h => h
theorem Off.trans {p q : Addr} {H H1 H2 : Hp} (a : Off p q H H1) (b : Off p q H1 H2) : Off p q H H2 := fun c o h1 h2 h => b c o h1 h2 (a c o h1 h2 h)
theorem Off.ex {p q : Addr} {H H1 : Hp} (e : Ex H H1) : Off p q H H1 := fun c o _ _ h => e c o h
open Classical in
noncomputable def Hd (H : Hp) (p q : Addr) : Hp := fun b => if b = p ∨ b = q then none else H b
theorem hd_none {H : Hp} {p q a : Addr} (h : Hd H p q a = none) (hp : a ≠ p) (hq : a ≠ q) : H a = none := by
  unfold Hd at h
  rw [if_neg (by simp [hp, hq])] at h
  exact h
theorem Pl.hd {G H : Hp} {p q : Addr} (h : Pl G H p q) : Pl (Hd H p q) H p q :=
  ⟨fun b o hb => by
    unfold Hd at hb
    split at hb
    · cases hb
    · exact hb, by unfold Hd; rw [if_pos (.inl rfl)], by unfold Hd; rw [if_pos (.inr rfl)], h.ne, h.at_⟩
theorem Pl.off {H H' : Hp} {p q : Addr} (h : Pl (Hd H p q) H' p q) : Off p q H H' := fun b o hp hq hb => h.ex b o (by unfold Hd; rw [if_neg (by simp [hp, hq])]; exact hb)
theorem Pl.back {G H H' : Hp} {p q : Addr} (h0 : Pl G H p q) (h : Pl (Hd H p q) H' p q) : Pl G H' p q := h.less fun b o hb => by
  have hp : b ≠ p := fun z => by rw [z, h0.gp] at hb; cases hb
  have hq : b ≠ q := fun z => by rw [z, h0.gq] at hb; cases hb
  unfold Hd
  rw [if_neg (by simp [hp, hq])]
  exact h0.ex _ _ hb
/-- a draw, as a call -/
theorem ev_draw {G H : Hp} {p q : Addr} {z : Int} {Q : VK} (h : Pl G H p q) (hz : 0 < z) (hz2 : z ≤ 1000) (k : ∀ H' (i : Int), Pl G H' p q → Off p q H H' → 0 ≤ i → i < z → Q (.int i) H') (E : XK) : spDraw [.ref p, .int z] H Q E :=
  ⟨Hd H p q, p, q, z, rfl, h.hd, hz, hz2, fun H' i hP h0 h1 => k H' i (h.back hP) hP.off h0 h1⟩
theorem eraseIdx_mp {α β : Type} (f : α → β) : ∀ (l : List α) (k : Nat), (l.map f).eraseIdx k = (l.eraseIdx k).map f
  | [], _ => rfl
  | _ :: _, 0 => rfl
  | x :: l, k + 1 => by
    show f x :: (l.map f).eraseIdx k = f x :: (l.eraseIdx k).map f
    rw [eraseIdx_mp f l k]
section
variable {P : Program} {w : World} {K : PySem.W.Frag} {mg : Str → Option Value} {base : Heap} {f : Addr} {fd : FuncData}
/-! _law_order -/
def spOrder : Sp := fun vs H Q _ => ∃ (G : Hp) (p q : Addr) (n : Nat), vs = [.ref p, .int (n : Int)] ∧ Pl G H p q ∧ 2 ≤ n ∧ n ≤ 8 ∧ ∀ H' a (os : List Int), Pl G H' p q → Off p q H H' → H a = none → H' a = some (.lst (os.map V.int)) → os.length = n → (∀ x ∈ os, 0 ≤ x ∧ x < n) → Q (.ref a) H'
abbrev sOrder : Stmt := top 23
abbrev nOrder : List Str := ["_law_pool_here", "_law_size", "_law_left", "_law_order_here", "_law_count"]
theorem scOrder : FnScope nOrder ["_law_pool_here", "_law_size"] (defScope sOrder) := ⟨rfl, rfl, rfl, by decide +kernel, rfl, by decide +kernel, by decide +kernel⟩
theorem seqIx {k n : Nat} (h : k < n) : seqIndex? (k : Int) n = some k := by
  have q := ixN_seq (n := n) (i := (k : Int)) (j := k) (by
    unfold ixN
    rw [if_pos (by omega), if_pos (by omega)]
    simp)
  exact q.1
theorem ok_order (B : Bl mg) (C : Cal P w K mg base "_law_draw" ["_law_pool_here", "_law_size"] 1 spDraw) (F : FnP K "_law_order" sOrder f fd) : FnOk P w K mg base CX0 2 f fd ["_law_pool_here", "_law_size"] spOrder := by
  refine F.ok scOrder (fun vs H Q E h => ?_) (fun cdv A outer s H vs Q E hr h => ?_)
  · obtain ⟨G, p, q, n, rfl, _⟩ := h
    rfl
  · obtain ⟨G, p, q, n, rfl, hP, hn2, hn8, k⟩ := h
    refine ⟨_, pss_cons (ps_set (i := 2) scOrder.nd rfl (Or.inl rfl) (pe_listRg rfl (by rfl) B.list (prg_2 (by rfl) B.range pe_int (pv 1))))
      (pss_cons (ps_set (i := 3) scOrder.nd rfl (Or.inl rfl) (pe_lst (pa_cons pe_int pa_nil)))
      (pss_cons (ps_for (passes_of rfl) rfl (pi_range1 (by rfl) B.range (pa_cons (pe_op op_sub (pv 1) pe_int) pa_nil)) (pg_name (i := 4) scOrder.nd rfl (Or.inl rfl))
        (pss_one (ps_expr (pe_bm PySem.F.plainAttrs_list PySem.F.slot_list_append PySem.F.type_list_append mt_append (pv 3) (pa_cons
          (pe_bm PySem.F.plainAttrs_list PySem.F.slot_list_pop PySem.F.type_list_pop mt_popAt (pv 2) (pa_cons (pe_cal C hr (by rfl) (pa_cons (pv 0) (pa_cons (pe_callB call_len_seq (by rfl) B.len PySem.boot_len (pa_cons (pv 2) pa_nil)) pa_nil))) pa_nil)) pa_nil)))))
      (pss_one (ps_ret (pv 3))))), ?_⟩
    refine ⟨.int (n : Int), rfl, 1, (n : Int), rfl, rfl, RgOk.of_le (by decide) (by omega) (by decide) (by omega), fun a1 ha1 => ?_⟩
    refine ⟨by show 1 ≤ sizeLine; decide, fun a2 ha2 => ?_⟩
    have n12 : a1 ≠ a2 := fun z => by rw [← z, upd_same] at ha2; cases ha2
    have ha2' : H a2 = none := by rw [upd_ne (Ne.symm n12)] at ha2; exact ha2
    have ga1 := fresh_back hP.ex ha1
    have ga2 := fresh_back hP.ex ha2'
    have p1 := hP.np ha1
    have q1 := hP.nq ha1
    have p2 := hP.np ha2'
    have q2 := hP.nq ha2'
    have e0 : rgV 1 (n : Int) = ((List.range (n - 1)).map fun (i : Nat) => (1 : Int) + (i : Int)).map V.int := by
      unfold rgV
      rw [show ((n : Int) - 1).toNat = n - 1 by omega, List.map_map]
      rfl
    change tSeq _ _ _ [some (.ref p), some (.int (n : Int)), some (.ref a1), some (.ref a2), none] _
    refine q_forR1 (ea_cons (ev_op (ev_var rfl) ev_c rv_I0) ea_nil) (n := (n : Int) - 1) (by omega) (fun i σ' H' => ∃ (ls os : List Int) (o : Option V), σ' = [some (.ref p), some (.int (n : Int)), some (.ref a1), some (.ref a2), o] ∧ Pl G H' p q ∧ Off p q H H' ∧ H' a1 = some (.lst (ls.map V.int)) ∧ H' a2 = some (.lst (os.map V.int)) ∧ ls.length + i = n - 1 ∧ os.length = i + 1 ∧ (∀ x ∈ ls, 0 ≤ x ∧ x < n) ∧ (∀ x ∈ os, 0 ≤ x ∧ x < n)) ?_ ?_ ?_
    · intro H1 e1
      refine ⟨_, [0], none, rfl, ((hP.ext (Ex.new ha1)).ext (Ex.new ha2)).ext e1, Off.ex (((Ex.new ha1).trans (Ex.new ha2)).trans e1), e1 _ _ (by rw [upd_ne n12, upd_same, e0]), e1 _ _ upd_same, by simp, rfl, fun x hx => ?_, fun x hx => ?_⟩
      · obtain ⟨i, hi, rfl⟩ := List.mem_map.mp hx
        have := List.mem_range.mp hi
        omega
      · rw [List.mem_singleton.mp hx]
        omega
    · rintro i σ' H1 hi ⟨ls, os, o, rfl, hP1, hO, h1, h2, hl, hol, b1, b2⟩
      have hlp : 0 < ls.length := by omega
      refine ⟨.ref a2, rfl, .inl ⟨rfl, _, sq_of h2⟩, .ref a1, rfl, .inl ⟨rfl, _, sq_of h1⟩, .ref p, rfl, .ref a1, rfl, a1, _, rfl, .inl (sq_of h1), ?_⟩
      refine ⟨Hd H1 p q, p, q, ((ls.map V.int).length : Int), rfl, hP1.hd, by rw [List.length_map]; omega, by rw [List.length_map]; omega, fun H2 j hP0 hj0 hj1 => ?_⟩
      have hP2 := hP1.back hP0
      have hO2 := hP0.off
      rw [List.length_map] at hj1
      obtain ⟨m, rfl⟩ : ∃ m : Nat, j = (m : Int) := ⟨j.toNat, by omega⟩
      have hm : m < ls.length := by omega
      have h1' := hO2 _ _ p1 q1 h1
      have h2' := hO2 _ _ p2 q2 h2
      refine ⟨a1, _, (m : Int), m, .int ls[m], rfl, rfl, h1', by omega, by omega, by rw [List.length_map]; exact seqIx hm, by rw [List.getElem?_map, List.getElem?_eq_getElem hm]; rfl, ?_⟩
      refine ⟨a2, _, .int ls[m], rfl, rfl, by rw [upd_ne (Ne.symm n12)]; exact h2', by rw [List.length_map, sizeLine_eq]; omega, ?_⟩
      refine ⟨ls.eraseIdx m, os ++ [ls[m]], _, rfl, (hP2.mut ga1 p1 q1).mut ga2 p2 q2, fun b u hb1 hb2 hb => ?_, by rw [upd_ne n12, upd_same, eraseIdx_mp], by rw [upd_same, List.map_append]; rfl, by rw [List.length_eraseIdx_of_lt hm]; omega, by simp; omega, fun x hx => b1 x (List.mem_of_mem_eraseIdx hx), fun x hx => ?_⟩
      · have nb1 : b ≠ a1 := ne_of_none hb ha1
        have nb2 : b ≠ a2 := ne_of_none hb ha2'
        rw [upd_ne nb2, upd_ne nb1]
        exact hO2 _ _ hb1 hb2 (hO _ _ hb1 hb2 hb)
      · rcases List.mem_append.mp hx with z | z
        · exact b2 x z
        · rw [List.mem_singleton.mp z]
          exact b1 _ (List.getElem_mem hm)
    · rintro σ' H1 ⟨ls, os, o, rfl, hP1, hO, h1, h2, hl, hol, b1, b2⟩
      exact ⟨.ref a2, rfl, k H1 a2 os hP1 hO ha2' h2 (by omega) b2⟩
end
end Wk

set_option Elab.async false
set_option linter.all false
set_option maxRecDepth 100000
set_option maxHeartbeats 2000000
namespace Wk
open PySem PySem.Spec PyProof.Rows L2 Evl
/-! rows: the list at R of lists, each with at most m items that are so -/
structure Rw (It : PyData → Prop) (m : Nat) (G H : Hp) (p q R : Addr) (rs : List Addr) : Prop where
  at_ : H R = some (.lst (rs.map V.ref))
  gR : G R = none
  Rp : R ≠ p
  Rq : R ≠ q
  nin : R ∉ rs
  row : ∀ r ∈ rs, G r = none ∧ r ≠ p ∧ r ≠ q ∧ ∃ vs ds, H r = some (.lst vs) ∧ DqA G vs ds ∧ ds.length ≤ m ∧ ∀ d ∈ ds, It d
section
variable {It : PyData → Prop} {m : Nat} {G H H' : Hp} {p q R : Addr} {rs : List Addr}
theorem Rw.off (h : Rw It m G H p q R rs) (o : Off p q H H') : Rw It m G H' p q R rs := by
  refine ⟨o _ _ h.Rp h.Rq h.at_, h.gR, h.Rp, h.Rq, h.nin, fun r hr => ?_⟩
  obtain ⟨g, rp, rq, vs, ds, h1, h2⟩ := h.row r hr
  exact ⟨g, rp, rq, vs, ds, o _ _ rp rq h1, h2⟩
theorem Rw.ext (h : Rw It m G H p q R rs) (e : Ex H H') : Rw It m G H' p q R rs := h.off (Off.ex e)
/-- something new stays -/
theorem Rw.new {t : Addr} {o : HO} (h : Rw It m G H p q R rs) (ht : H t = none) (gt : G t = none) : Rw It m (upd G t o) (upd H t o) p q R rs := by
  have h2 := h.ext (Ex.new (o := o) ht)
  have nR : R ≠ t := ne_of_none h.at_ ht
  refine ⟨h2.at_, by rw [upd_ne nR]; exact h.gR, h.Rp, h.Rq, h.nin, fun r hr => ?_⟩
  obtain ⟨g, rp, rq, vs, ds, h1, hd, hl, hi⟩ := h.row r hr
  have nr : r ≠ t := ne_of_none h1 ht
  exact ⟨by rw [upd_ne nr]; exact g, rp, rq, vs, ds, by rw [upd_ne nr]; exact h1, hd.mono (Ex.new gt), hl, hi⟩
/-- what stays has grown -/
theorem Rw.grow {G' : Hp} (h : Rw It m G H p q R rs) (e : Ex G G') (gR : G' R = none) (gr : ∀ r ∈ rs, G' r = none) : Rw It m G' H p q R rs := by
  refine ⟨h.at_, gR, h.Rp, h.Rq, h.nin, fun r hr => ?_⟩
  obtain ⟨g, rp, rq, vs, ds, h1, hd, hl⟩ := h.row r hr
  exact ⟨gr r hr, rp, rq, vs, ds, h1, hd.mono e, hl⟩
theorem Rw.imp {It' : PyData → Prop} {m' : Nat} (h : Rw It m G H p q R rs) (hi : ∀ d, It d → It' d) (hm : m ≤ m') : Rw It' m' G H p q R rs := by
  refine ⟨h.at_, h.gR, h.Rp, h.Rq, h.nin, fun r hr => ?_⟩
  obtain ⟨g, rp, rq, vs, ds, h1, hd, hl, hit⟩ := h.row r hr
  exact ⟨g, rp, rq, vs, ds, h1, hd, Nat.le_trans hl hm, fun d hx => hi d (hit d hx)⟩
/-- a row is changed -/
theorem Rw.mut {r : Addr} {vs : List V} {ds : List PyData} (h : Rw It m G H p q R rs) (hr : r ∈ rs) (hd : DqA G vs ds) (hl : ds.length ≤ m) (hi : ∀ d ∈ ds, It d) : Rw It m G (upd H r (.lst vs)) p q R rs := by
  have nR : R ≠ r := fun z => h.nin (by rw [z]; exact hr)
  refine ⟨by rw [upd_ne nR]; exact h.at_, h.gR, h.Rp, h.Rq, h.nin, fun r' hr' => ?_⟩
  obtain ⟨g, rp, rq, vs', ds', h1, h2⟩ := h.row r' hr'
  by_cases c : r' = r
  · subst c
    exact ⟨g, rp, rq, vs, ds, upd_same, hd, hl, hi⟩
  · exact ⟨g, rp, rq, vs', ds', by rw [upd_ne c]; exact h1, h2⟩
/-- another list in the place of a row -/
theorem Rw.set {b : Addr} {i : Nat} {vs : List V} {ds : List PyData} (h : Rw It m G H p q R rs) (hb : H b = some (.lst vs)) (gb : G b = none) (bp : b ≠ p) (bq : b ≠ q) (bR : b ≠ R) (hd : DqA G vs ds) (hl : ds.length ≤ m) (hi : ∀ d ∈ ds, It d) :
    Rw It m G (upd H R (.lst ((rs.map V.ref).set i (.ref b)))) p q R (rs.set i b) := by
  refine ⟨by rw [upd_same, List.map_set], h.gR, h.Rp, h.Rq, fun z => ?_, fun r hr => ?_⟩
  · rcases List.mem_or_eq_of_mem_set z with z | z
    · exact h.nin z
    · exact bR z.symm
  · rcases List.mem_or_eq_of_mem_set hr with z | z
    · obtain ⟨g, rp, rq, vs', ds', h1, h2⟩ := h.row r z
      have nr : r ≠ R := fun c => h.nin (by rw [← c]; exact z)
      exact ⟨g, rp, rq, vs', ds', by rw [upd_ne nr]; exact h1, h2⟩
    · subst z
      exact ⟨gb, bp, bq, vs, ds, by rw [upd_ne bR]; exact hb, hd, hl, hi⟩
end
theorem ix_listK {X : Cx} {K : PySem.W.Frag} (hK : X.K = K) : IxR X (rIxL K) := by
  subst hK
  exact ix_list
/-- a new list becomes a row -/
theorem put_row {It : PyData → Prop} {m : Nat} {G H : Hp} {p q R b : Addr} {rs : List Addr} {i : Nat} {vs : List V} {ds : List PyData} (hP : Pl G H p q) (hR : Rw It m G H p q R rs) (hb : H b = none) (hd : DqA G vs ds) (hl : ds.length ≤ m) (hi : ∀ d ∈ ds, It d) :
    Pl G (upd (upd H b (.lst vs)) R (.lst ((rs.map V.ref).set i (.ref b)))) p q ∧ Rw It m G (upd (upd H b (.lst vs)) R (.lst ((rs.map V.ref).set i (.ref b)))) p q R (rs.set i b) := by
  have e : Ex H (upd H b (.lst vs)) := Ex.new hb
  exact ⟨(hP.ext e).mut hR.gR hR.Rp hR.Rq, (hR.ext e).set upd_same (fresh_back hP.ex hb) (hP.np hb) (hP.nq hb) (Ne.symm (ne_of_none hR.at_ hb)) hd hl hi⟩
theorem ixNat {n : Nat} {x : Int} (h0 : 0 ≤ x) (h1 : x < n) : ixN n x = some x.toNat := by
  unfold ixN
  rw [if_pos h0, if_pos h1]
theorem at_ints {os : List Int} {j : Nat} (h : j < os.length) : atI (os.map V.int) (j : Int) = some (.int os[j]) := atI_nat (by rw [List.getElem?_map, List.getElem?_eq_getElem h]; rfl)
theorem g_name {i : Nat} {x : V} {σ : L2.St} {H : Hp} {k : L2.St → Hp → Prop} (h : k (σ.set i (some x)) H) : gName i x σ H k := h
theorem asg_lst1 {te : TE} {g : TG} {D : Ends} {σ : L2.St} {H : Hp} (h : te σ H fun x H1 => 1 ≤ sizeLine ∧ ∀ b, H1 b = none → g (.ref b) σ (upd H1 b (.lst [x])) D.nx) : tAsg (tLst (tCons te tNil)) g D σ H := h
theorem cb1 {r : List V → Hp → VK → Prop} {ta : TE} {σ : L2.St} {H : Hp} {Q : VK} (h : ta σ H fun x H1 => r [x] H1 Q) : tCB r (tCons ta tNil) σ H Q := h
/-- an item of the lists made -/
def WayI (d : PyData) : Prop := ∃ ns : List Int, d = .tuple (ns.map PyData.int) ∧ 1 ≤ ns.length ∧ ns.length ≤ 8
section
variable {P : Program} {w : World} {K : PySem.W.Frag} {mg : Str → Option Value} {base : Heap} {f : Addr} {fd : FuncData}
/-! _law_planted -/
def spPlanted : Sp := fun vs H Q _ => ∃ (G : Hp) (p q : Addr) (n : Nat), vs = [.ref p, .int (n : Int)] ∧ Pl G H p q ∧ 2 ≤ n ∧ n ≤ 8 ∧ ∀ G' H' R rs, Ex G G' → Pl G' H' p q → Rw WayI 2 G' H' p q R rs → rs.length = n → Q (.ref R) H'
abbrev sPlanted : Stmt := top 24
abbrev nPlanted : List Str := ["_law_pool_here", "_law_size", "_law_lists_here", "_law_kind", "_law_order_here", "_law_many", "_law_k", "_law_router", "_law_step"]
theorem scPlanted : FnScope nPlanted ["_law_pool_here", "_law_size"] (defScope sPlanted) := ⟨rfl, rfl, rfl, by decide +kernel, rfl, by decide +kernel, by decide +kernel⟩
theorem ok_planted (B : Bl mg) (C : Cal P w K mg base "_law_draw" ["_law_pool_here", "_law_size"] 1 spDraw) (C2 : Cal P w K mg base "_law_order" ["_law_pool_here", "_law_size"] 2 spOrder) (F : FnP K "_law_planted" sPlanted f fd) : FnOk P w K mg base CX0 3 f fd ["_law_pool_here", "_law_size"] spPlanted := by
  refine F.ok scPlanted (fun vs H Q E h => ?_) (fun cdv A outer s H vs Q E hr h => ?_)
  · obtain ⟨G, p, q, n, rfl, _⟩ := h
    rfl
  · obtain ⟨G, p, q, n, rfl, hP, hn2, hn8, k⟩ := h
    have hr1 : Room 1 _ := hr.mono (by decide)
    refine ⟨_, pss_cons (ps_setLc (i := 2) (own := [("_law_router", 7)]) (g := gName 7) (tt := tYes) rfl scPlanted.nd rfl rfl (sw_true rfl rfl rfl (by decide +kernel)) (pi_range1 (by rfl) B.range (pa_cons (pv 1) pa_nil)) (blkOk_by (N := nPlanted) (sc := defScope sPlanted) (by decide +kernel))
          (fun _ _ _ _ _ => pg_name (i := 7) scPlanted.nd rfl (Or.inl rfl)) (fun _ _ _ _ _ => pts_nil) (fun _ _ _ _ _ => pe_lst pa_nil))
      (pss_cons (ps_set (i := 3) scPlanted.nd rfl (Or.inl rfl) (pe_cal C hr1 (by rfl) (pa_cons (pv 0) (pa_cons pe_int pa_nil))))
      (pss_cons (ps_set (i := 4) scPlanted.nd rfl (Or.inr rfl) (pe_cal C2 hr (by rfl) (pa_cons (pv 0) (pa_cons (pv 1) pa_nil))))
      (pss_cut (ps_if (PW.pt (pw_and (pt_cmpR op_lt (pv 3) pe_int (nomark _)) (pw_and1 (pt_cmpR op_gt (pv 1) pe_int (nomark _)))))
          (pss_cons (ps_set (i := 5) scPlanted.nd rfl (Or.inl rfl) (pe_op op_add pe_int (pe_cal C hr1 (by rfl) (pa_cons (pv 0) (pa_cons (pe_callB (call_min2 rfl) (by rfl) B.min boot_min (pa_cons pe_int (pa_cons (pe_op op_sub (pv 1) pe_int) pa_nil))) pa_nil)))))
            (pss_one (ps_for (passes_of rfl) rfl (pi_range2 (by rfl) B.range (pa_cons pe_int (pa_cons (pe_op op_add (pv 5) pe_int) pa_nil))) (pg_name (i := 6) scPlanted.nd rfl (Or.inr rfl))
              (pss_one (ps_asg (pe_lst (pa_cons (pe_tup (pa_cons (pe_ix ix_list (pv 4) (pv 6) (fun _ _ => rfl)) (pa_cons (pe_ix ix_list (pv 4) (pe_op op_add (pe_op op_mod (pv 6) (pv 5)) pe_int) (fun _ _ => rfl)) (pa_cons pe_int pa_nil)))) (pa_cons (pe_tup (pa_cons (pe_ix ix_list (pv 4) (pv 6) (fun _ _ => rfl)) (pa_cons pe_int pa_nil))) pa_nil)))
                (pg_sub (pv 2) (pe_ix ix_list (pv 4) (pv 6) (fun _ _ => rfl)) set_list)))))) pss_nil)
      (pss_cut (ps_if (pt_cmpR op_eq (pv 3) pe_int (nomark _))
          (pss_one (ps_for (passes_of rfl) rfl (pi_range2 (by rfl) B.range (pa_cons pe_int (pa_cons (pv 1) pa_nil))) (pg_name (i := 6) scPlanted.nd rfl (Or.inr rfl))
            (pss_one (ps_asg (pe_lst (pa_cons (pe_callTy call_tuple_of (by rfl) B.tuple PyProof.Rows.boot_tuple (pa_cons (pe_lc (own := [("_law_step", 8)]) (g := gName 8) (tt := tYes) rfl scPlanted.nd (pi_range1 (by rfl) B.range (pa_cons (pe_op op_add (pv 6) pe_int) pa_nil)) (blkOk_by (N := nPlanted) (sc := defScope sPlanted) (by decide +kernel))
                (fun _ _ _ _ _ => pg_name (i := 8) scPlanted.nd rfl (Or.inl rfl)) (fun _ _ _ _ _ => pts_nil) (fun _ _ _ _ _ => pe_ix (ix_listK (K := K) rfl) (pv 4) (pe_op op_sub (pv 6) (pv 8)) (fun _ _ => rfl))) pa_nil)) pa_nil))
              (pg_sub (pv 2) (pe_ix ix_list (pv 4) (pv 6) (fun _ _ => rfl)) set_list))))) pss_nil)
      (pss_one (ps_ret (pv 2))))))), ?_⟩
    refine ⟨.int (n : Int), rfl, (n : Int), rfl, by omega, by omega, fun R hR => lc_range (lo := 0) (n := (n : Int).toNat) (fun i H' => ∃ rs : List Addr, Ex H H' ∧ H' R = some (.lst (rs.map V.ref)) ∧ rs.length = i ∧ R ∉ rs ∧ ∀ r ∈ rs, H r = none ∧ H' r = some (.lst [])) ⟨[], Ex.new hR, upd_same, rfl, by simp, by simp⟩ ?_ ?_⟩
    · rintro i H' hi ⟨rs, e, hRl, hl, hnin, hrow⟩
      refine ⟨rfl, Nat.zero_le _, fun b hb => ?_⟩
      have nRb : R ≠ b := ne_of_none hRl hb
      refine ⟨_, by rw [upd_ne nRb]; exact hRl, by rw [List.length_map, sizeLine_eq]; omega, rs ++ [b], fun c o hc => ?_, by rw [upd_same, List.map_append]; rfl, by simp [hl], fun z => ?_, fun r hr => ?_⟩
      · have h1 := e _ _ hc
        rw [upd_ne (ne_of_none hc hR), upd_ne (ne_of_none h1 hb)]
        exact h1
      · rcases List.mem_append.mp z with z | z
        · exact hnin z
        · exact nRb (List.mem_singleton.mp z)
      · rcases List.mem_append.mp hr with z | z
        · obtain ⟨r1, r2⟩ := hrow r z
          have nr : r ≠ R := fun c => hnin (by rw [← c]; exact z)
          exact ⟨r1, by rw [upd_ne nr, upd_ne (ne_of_none r2 hb)]; exact r2⟩
        · rw [List.mem_singleton.mp z]
          exact ⟨fresh_back e hb, by rw [upd_ne (Ne.symm nRb), upd_same]⟩
    rintro H1 ⟨rs, e1, hRl, hrl, hnin, hrow⟩
    have hrl' : rs.length = n := by omega
    have hP1 := hP.ext e1
    have hW1 : Rw WayI 2 G H1 p q R rs := ⟨hRl, fresh_back hP.ex hR, hP.np hR, hP.nq hR, hnin, fun r hr => ⟨fresh_back hP.ex (hrow r hr).1, hP.np (hrow r hr).1, hP.nq (hrow r hr).1, [], [], (hrow r hr).2, .nil, by simp, by simp⟩⟩
    refine ⟨.ref p, rfl, Hd H1 p q, p, q, 5, rfl, hP1.hd, by decide, by decide, fun H2 kd hP0 hk0 hk1 => ?_⟩
    have hP2 := hP1.back hP0
    have hW2 := hW1.off hP0.off
    refine ⟨.ref p, rfl, .int (n : Int), rfl, Hd H2 p q, p, q, n, rfl, hP2.hd, hn2, hn8, fun H3 a os hP00 hO3 ha h3 hol hob => ?_⟩
    have hP3 := hP2.back hP00
    have hW3 := hW2.off hP00.off
    have nap := hP2.np ha
    have naq := hP2.nq ha
    have gaN := fresh_back hP2.ex ha
    -- the order stays from now on
    have hP4 : Pl (upd G a (.lst (os.map V.int))) H3 p q := hP3.hold h3 nap naq
    have eG : Ex G (upd G a (.lst (os.map V.int))) := Ex.new gaN
    have hW4 : Rw WayI 2 (upd G a (.lst (os.map V.int))) H3 p q R rs := hW3.grow eG (by rw [upd_ne (ne_of_none hW2.at_ ha)]; exact hW2.gR) (fun r hr => by
      obtain ⟨g, _, _, vs, ds, h1, _⟩ := hW2.row r hr
      rw [upd_ne (ne_of_none h1 ha)]
      exact g)
    generalize hG1 : upd G a (.lst (os.map V.int)) = G1 at *
    have hGa : G1 a = some (.lst (os.map V.int)) := by rw [← hG1]; exact upd_same
    clear hP00 hP0 hO3 hW3 hP3 hW2 hP2 hW1 hP1
    refine ⟨fun σ' H' => ∃ (G' : Hp) (rs' : List Addr) (o5 o6 : Option V), σ' = [some (.ref p), some (.int (n : Int)), some (.ref R), some (.int kd), some (.ref a), o5, o6, none, none] ∧ Ex G1 G' ∧ Pl G' H' p q ∧ Rw WayI 2 G' H' p q R rs' ∧ rs'.length = n, ?_, ?_⟩
    · change tIfS _ _ _ _ [some (.ref p), some (.int (n : Int)), some (.ref R), some (.int kd), some (.ref a), none, none, none, none] H3
      refine s_when (b := decide (kd < 2) && decide ((n : Int) > 2)) (et_and (et_test (ev_op (ev_var rfl) ev_c rv_I0)) fun _ => et_test (ev_op (ev_var rfl) ev_c rv_I0)) (fun hb H4 e4 => ?_) (fun hb H4 e4 => ⟨G1, rs, none, none, rfl, Ex.refl _, hP4.ext e4, hW4.ext e4, hrl'⟩)
      have hn3 : 2 < n := by simp at hb; omega
      have hP5 := hP4.ext e4
      have hW5 := hW4.ext e4
      refine ⟨.ref p, rfl, .int (n : Int), rfl, (n : Int), 2, rfl, rfl, 3, (n : Int) - 2, rfl, Hd H4 p q, p, q, _, rfl, hP5.hd, ?_, ?_, fun H5 y hP0 hy0 hy1 => ⟨2, y, rfl, rfl, ?_⟩⟩
      · split <;> omega
      · split <;> omega
      have hy2 : 2 + y + 1 ≤ n := by split at hy1 <;> omega
      have hP6 := hP5.back hP0
      have hW6 := hW5.off hP0.off
      refine g_name ?_
      refine s_forR2 (ea_cons ev_c (ea_cons (ev_op (ev_var rfl) ev_c rv_I0) ea_nil)) (by omega) (fun i σ' H' => ∃ (G' : Hp) (rs' : List Addr) (o6 : Option V), σ' = [some (.ref p), some (.int (n : Int)), some (.ref R), some (.int kd), some (.ref a), some (.int (2 + y)), o6, none, none] ∧ Ex G1 G' ∧ Pl G' H' p q ∧ Rw WayI 2 G' H' p q R rs' ∧ rs'.length = n) (fun H6 e6 => ⟨G1, rs, none, rfl, Ex.refl _, hP6.ext e6, hW6.ext e6, hrl'⟩) ?_ (fun σ' H' ⟨G', rs', o6, h⟩ => ⟨G', rs', _, o6, h⟩)
      rintro i σ' H6 hi ⟨G', rs', o6, rfl, eG', hP7, hW7, hrl7⟩
      change tAsg _ _ _ [some (.ref p), some (.int (n : Int)), some (.ref R), some (.int kd), some (.ref a), some (.int (2 + y)), some (.int (1 + (i : Int))), none, none] H6
      have hA : H6 a = some (.lst (os.map V.int)) := hP7.ex _ _ (eG' _ _ hGa)
      have hk1' : 1 + i < os.length := by omega
      have at1 : atI (os.map V.int) (1 + (i : Int)) = some (.int os[1 + i]) := by
        have q := at_ints hk1'
        rw [show ((1 + i : Nat) : Int) = 1 + (i : Int) by omega] at q
        exact q
      have hmod := modP (1 + (i : Int)) (2 + y) (by omega)
      obtain ⟨j, hj⟩ : ∃ j : Nat, (1 + (i : Int)) % (2 + y) + 1 = (j : Int) := ⟨((1 + (i : Int)) % (2 + y) + 1).toNat, by omega⟩
      have hjl : j < os.length := by omega
      have at2 : atI (os.map V.int) ((1 + (i : Int)) % (2 + y) + 1) = some (.int os[j]) := by rw [hj]; exact at_ints hjl
      have hx := hob os[1 + i] (List.getElem_mem hk1')
      generalize os[1 + i] = x1 at *
      generalize os[j] = x2 at *
      refine ⟨.ref a, rfl, .int (1 + (i : Int)), rfl, a, _, _, .int x1, rfl, rfl, sq_of hA, at1, .ref a, rfl, .int (1 + (i : Int)), rfl, .int (2 + y), rfl, _, _, rfl, rfl, (show (0 : Int) < 2 + y by omega), _, 1, rfl, rfl, a, _, _, .int x2, rfl, rfl, sq_of hA, at2, by show 3 ≤ sizeLine; decide, fun t1 ht1 => ?_⟩
      have n1 : a ≠ t1 := ne_of_none hA ht1
      refine ⟨.ref a, rfl, .int (1 + (i : Int)), rfl, a, _, _, .int x1, rfl, rfl, sq_of (by rw [upd_ne n1]; exact hA), at1, by show 2 ≤ sizeLine; decide, fun t2 ht2 => ⟨by show 2 ≤ sizeLine; decide, fun b hb => ?_⟩⟩
      have gt1 := fresh_back hP7.ex ht1
      have hP8 := hP7.new (o := .tup [.int x1, .int x2, .int 0]) ht1
      have hW8 := hW7.new (o := .tup [.int x1, .int x2, .int 0]) ht1 gt1
      have gt2 := fresh_back hP8.ex ht2
      have hP9 := hP8.new (o := .tup [.int x1, .int 0]) ht2
      have hW9 := hW8.new (o := .tup [.int x1, .int 0]) ht2 gt2
      have hA9 := hP9.ex _ _ ((Ex.new gt2) _ _ ((Ex.new gt1) _ _ (eG' _ _ hGa)))
      have n12 : t1 ≠ t2 := fun z => by rw [← z, upd_same] at ht2; cases ht2
      have hdq : DqA (upd (upd G' t1 (.tup [.int x1, .int x2, .int 0])) t2 (.tup [.int x1, .int 0])) [.ref t1, .ref t2] [.tuple ([x1, x2, 0].map PyData.int), .tuple ([x1, 0].map PyData.int)] :=
        .cons (.tup (by rw [upd_ne n12, upd_same]; rfl) (DqA.ints [x1, x2, 0])) (.cons (.tup upd_same (DqA.ints [x1, 0])) .nil)
      obtain ⟨f1, f2⟩ := put_row (i := x1.toNat) hP9 hW9 hb hdq (by simp) (fun d hd => by
        rcases List.mem_cons.mp hd with z | z
        · exact ⟨_, z, by simp, by simp⟩
        · exact ⟨_, List.mem_singleton.mp z, by simp, by simp⟩)
      have eb := Ex.new (o := .lst [V.ref t1, V.ref t2]) hb
      refine ⟨.ref R, rfl, .ref a, rfl, .int (1 + (i : Int)), rfl, a, _, _, .int x1, rfl, rfl, sq_of (eb _ _ hA9), at1, R, _, x1, x1.toNat, rfl, rfl, eb _ _ hW9.at_, by rw [List.length_map, hrl7]; exact ixNat hx.1 hx.2, ?_⟩
      exact ⟨_, rs'.set x1.toNat b, _, rfl, (eG'.trans (Ex.new gt1)).trans (Ex.new gt2), f1, f2, by rw [List.length_set]; exact hrl7⟩
    · rintro σ' H4 ⟨G', rs', o5, o6, rfl, eG', hP5, hW5, hrl5⟩
      refine ⟨fun σ' H' => ∃ (G' : Hp) (rs' : List Addr) (o5 o6 : Option V), σ' = [some (.ref p), some (.int (n : Int)), some (.ref R), some (.int kd), some (.ref a), o5, o6, none, none] ∧ Ex G1 G' ∧ Pl G' H' p q ∧ Rw WayI 2 G' H' p q R rs' ∧ rs'.length = n, ?_, ?_⟩
      · refine s_when (b := decide (V.int kd = V.int 2)) (et_test (ev_op (ev_var rfl) ev_c (rv_eq rfl))) (fun hb H5 e5 => ?_) (fun hb H5 e5 => ⟨G', rs', o5, o6, rfl, eG', hP5.ext e5, hW5.ext e5, hrl5⟩)
        refine s_forR2 (ea_cons ev_c (ea_cons (ev_var rfl) ea_nil)) (by omega) (fun i σ' H' => ∃ (G' : Hp) (rs' : List Addr) (o5 o6 : Option V), σ' = [some (.ref p), some (.int (n : Int)), some (.ref R), some (.int kd), some (.ref a), o5, o6, none, none] ∧ Ex G1 G' ∧ Pl G' H' p q ∧ Rw WayI 2 G' H' p q R rs' ∧ rs'.length = n) (fun H6 e6 => ⟨G', rs', o5, o6, rfl, eG', (hP5.ext e5).ext e6, (hW5.ext e5).ext e6, hrl5⟩) ?_ (fun σ' H' h => h)
        clear hP5 hW5 hrl5 eG'
        rintro i σ' H6 hi ⟨G', rs', o5, o6, rfl, eG', hP7, hW7, hrl7⟩
        change tAsg _ _ _ [some (.ref p), some (.int (n : Int)), some (.ref R), some (.int kd), some (.ref a), o5, some (.int (1 + (i : Int))), none, none] H6
        have hA : H6 a = some (.lst (os.map V.int)) := hP7.ex _ _ (eG' _ _ hGa)
        have hk1' : 1 + i < os.length := by omega
        have at1 : atI (os.map V.int) (1 + (i : Int)) = some (.int os[1 + i]) := by
          have q := at_ints hk1'
          rw [show ((1 + i : Nat) : Int) = 1 + (i : Int) by omega] at q
          exact q
        have hx := hob os[1 + i] (List.getElem_mem hk1')
        generalize os[1 + i] = x1 at *
        have hlc := el_lcR1 (j := 8) (vs := [8]) (σ := [some (.ref p), some (.int (n : Int)), some (.ref R), some (.int kd), some (.ref a), o5, some (.int (1 + (i : Int))), none, none]) (H := H6) (t := tYes) (te := tOp (rIxL K) (tVar 4) (tOp (rI0 fun i j => .int (i - j)) (tVar 6) (tVar 8))) (ta := tCons (tOp (rI0 fun i j => .int (i + j)) (tVar 6) (tC (.int 1))) tNil) (n := 1 + (i : Int) + 1)
          (fun _ => true) (fun s => .int (os.getD (1 + i - s) 0)) (ea_cons (ev_op (ev_var rfl) ev_c rv_I0) ea_nil) (by omega) (fun x => rfl) (fun _ _ _ _ => et_yes) (fun s H7 e7 hs _ => by
            have hsl : 1 + i - s < os.length := by omega
            have q := at_ints hsl
            rw [show ((1 + i - s : Nat) : Int) = 1 + (i : Int) - (s : Int) by omega] at q
            rw [show os.getD (1 + i - s) 0 = os[1 + i - s] by rw [List.getD_eq_getElem?_getD, List.getElem?_eq_getElem hsl]; rfl]
            exact ev_op (ev_var rfl) (ev_op (ev_var rfl) (ev_var rfl) rv_I0) (rv_ixL (sq_of (e7 _ _ hA)) q))
        rw [given_all] at hlc
        generalize hns : (List.range (1 + (i : Int) + 1).toNat).map (fun s => os.getD (1 + i - s) 0) = ns at *
        have hlc2 : (List.range (1 + (i : Int) + 1).toNat).map (fun s => V.int (os.getD (1 + i - s) 0)) = ns.map V.int := by
          rw [← hns, List.map_map]
          rfl
        rw [hlc2] at hlc
        have hnl : ns.length = 2 + i := by rw [← hns]; simp; omega
        refine asg_lst1 (cb1 (hlc H6 (Ex.refl H6) _ fun d1 H7 hd1 e7 hd7 => ?_))
        refine ⟨d1, _, rfl, .inl ⟨sq_of hd7, fun t1 ht1 => ⟨by show 1 ≤ sizeLine; decide, fun b hb => ?_⟩⟩⟩
        have hP8 := hP7.ext e7
        have hW8 := hW7.ext e7
        have gt1 := fresh_back hP8.ex ht1
        have hP9 := hP8.new (o := .tup (ns.map V.int)) ht1
        have hW9 := hW8.new (o := .tup (ns.map V.int)) ht1 gt1
        have hA9 := hP9.ex _ _ ((Ex.new gt1) _ _ (eG' _ _ hGa))
        have hdq : DqA (upd G' t1 (.tup (ns.map V.int))) [.ref t1] [.tuple (ns.map PyData.int)] := .cons (.tup upd_same (DqA.ints ns)) .nil
        obtain ⟨f1, f2⟩ := put_row (i := x1.toNat) hP9 hW9 hb hdq (by simp) (fun d hd => ⟨ns, List.mem_singleton.mp hd, by omega, by omega⟩)
        have eb := Ex.new (o := .lst [V.ref t1]) hb
        refine ⟨.ref R, rfl, .ref a, rfl, .int (1 + (i : Int)), rfl, a, _, _, .int x1, rfl, rfl, sq_of (eb _ _ hA9), at1, R, _, x1, x1.toNat, rfl, rfl, eb _ _ hW9.at_, by rw [List.length_map, hrl7]; exact ixNat hx.1 hx.2, ?_⟩
        exact ⟨_, rs'.set x1.toNat b, _, _, rfl, eG'.trans (Ex.new gt1), f1, f2, by rw [List.length_set]; exact hrl7⟩
      · rintro σ' H5 ⟨G', rs', o5, o6, rfl, eG', hP6, hW6, hrl6⟩
        exact ⟨.ref R, rfl, k G' H5 R rs' (eG.trans eG') hP6 hW6 hrl6⟩
end
end Wk

set_option Elab.async false
set_option linter.all false
set_option maxRecDepth 100000
set_option maxHeartbeats 2000000
namespace Wk
open PySem PySem.Spec PyProof.Rows L2 Evl
theorem wayI_lay : ∀ {ds : List PyData}, (∀ d ∈ ds, WayI d) → PyData.canLayAll0 ds = true ∧ PyData.depthAll ds ≤ 1
  | [], _ => by simp [PyData.canLayAll0, PyData.depthAll]
  | d :: ds, h => by
    obtain ⟨ns, rfl, _, _⟩ := h d List.mem_cons_self
    obtain ⟨h1, h2⟩ := wayI_lay (ds := ds) fun x hx => h x (List.mem_cons_of_mem _ hx)
    have l1 := lay_ints ns
    have l2 := depth_ints ns
    refine ⟨by simp [PyData.canLayAll0, PyData.canLay0, l1, h1], ?_⟩
    simp only [PyData.depthAll, PyData.depth, l2]
    omega
theorem wayI_shaped {ds : List PyData} (h : ∀ d ∈ ds, WayI d) : SeqAt.shaped (.list ds) = true := by
  obtain ⟨h1, h2⟩ := wayI_lay h
  unfold SeqAt.shaped
  have : decide ((PyData.list ds).depth ≤ 64) = true := decide_eq_true (by simp only [PyData.depth]; omega)
  rw [this]
  simp [PyData.canLay0, h1]
theorem q_c {i : Nat} {v : V} {tz : TS} {D : Ends} {σ : L2.St} {H : Hp} (h : tz D (σ.set i (some v)) H) : tSeq (tAsg (tC v) (gName i)) tz D σ H := h
section
variable {P : Program} {w : World} {K : PySem.W.Frag} {mg : Str → Option Value} {base : Heap} {f : Addr} {fd : FuncData}
/-! _law_add -/
def spAdd : Sp := fun vs H Q _ => ∃ (G : Hp) (p q R : Addr) (rs : List Addr), vs = [.ref p, .ref R, .int 6, .int 1000000] ∧ Pl G H p q ∧ Rw WayI 6 G H p q R rs ∧ 2 ≤ rs.length ∧ rs.length ≤ 8 ∧ ∀ G' H', Ex G G' → Pl G' H' p q → Rw WayI 6 G' H' p q R rs → Q .non H'
abbrev sAdd : Stmt := top 25
abbrev nAdd : List Str := ["_law_pool_here", "_law_lists_here", "_law_limit", "_law_cap", "_law_bases", "_law_takings", "_law_row", "_law_router", "_law_base", "_law_place", "_law_way"]
theorem scAdd : FnScope nAdd ["_law_pool_here", "_law_lists_here", "_law_limit", "_law_cap"] (defScope sAdd) := ⟨rfl, rfl, rfl, by decide +kernel, rfl, by decide +kernel, by decide +kernel⟩
theorem ok_add (B : Bl mg) (C : Cal P w K mg base "_law_draw" ["_law_pool_here", "_law_size"] 1 spDraw) (F : FnP K "_law_add" sAdd f fd) : FnOk P w K mg base CX0 2 f fd ["_law_pool_here", "_law_lists_here", "_law_limit", "_law_cap"] spAdd := by
  refine F.ok scAdd (fun vs H Q E h => ?_) (fun cdv A outer s H vs Q E hr h => ?_)
  · obtain ⟨G, p, q, R, rs, rfl, _⟩ := h
    rfl
  · obtain ⟨G, p, q, R, rs, rfl, hP, hW, hn2, hn8, k⟩ := h
    have hu : (A.deeper (envOfC "_law_add" (defScope sAdd) s.heap.objs.size f cdv)).units + 65 < cLine := by have := hr.un; omega
    refine ⟨_, pss_cons (ps_set (i := 4) scAdd.nd rfl (Or.inl rfl) (pe_lst (pa_cons (pe_tup (pa_cons pe_int pa_nil)) pa_nil)))
      (pss_cons (ps_set (i := 5) scAdd.nd rfl (Or.inl rfl) pe_int)
      (pss_cons (ps_for (passes_of rfl) rfl (pi_list (pv 1)) (pg_name (i := 6) scAdd.nd rfl (Or.inl rfl))
        (pss_cons (ps_set (i := 4) scAdd.nd rfl (Or.inl rfl) (pe_op op_cat (pv 4) (pv 6)))
          (pss_one (ps_set (i := 5) scAdd.nd rfl (Or.inl rfl) (pe_op op_mul (pv 5) (pe_op op_add (pe_callB call_len_seq (by rfl) B.len PySem.boot_len (pa_cons (pv 6) pa_nil)) pe_int))))))
      (pss_cons (ps_set (i := 7) scAdd.nd rfl (Or.inl rfl) (pe_op op_add pe_int (pe_cal C hr (by rfl) (pa_cons (pv 0) (pa_cons (pe_op op_sub (pe_callB call_len_seq (by rfl) B.len PySem.boot_len (pa_cons (pv 1) pa_nil)) pe_int) pa_nil)))))
      (pss_cons (ps_set (i := 8) scAdd.nd rfl (Or.inl rfl) (pe_ix ix_list (pv 4) (pe_cal C hr (by rfl) (pa_cons (pv 0) (pa_cons (pe_callB call_len_seq (by rfl) B.len PySem.boot_len (pa_cons (pv 4) pa_nil)) pa_nil))) (fun _ _ => rfl)))
      (pss_cons (ps_set (i := 6) scAdd.nd rfl (Or.inl rfl) (pe_ix ix_list (pv 1) (pv 7) (fun _ _ => rfl)))
      (pss_cons (ps_set (i := 9) scAdd.nd rfl (Or.inl rfl) (pe_cal C hr (by rfl) (pa_cons (pv 0) (pa_cons (pe_op op_add (pe_callB call_len_seq (by rfl) B.len PySem.boot_len (pa_cons (pv 6) pa_nil)) pe_int) pa_nil))))
      (pss_cons (ps_if (PW.pt (pw_or (pt_cmpR op_in_seq (pv 7) (pv 8) rfl) (pw_or (pt_cmpR op_gt (pe_callB call_len_seq (by rfl) B.len PySem.boot_len (pa_cons (pv 8) pa_nil)) pe_int (nomark _)) (pw_or1 (pt_cmpR op_ge (pe_callB call_len_seq (by rfl) B.len PySem.boot_len (pa_cons (pv 6) pa_nil)) (pv 2) (nomark _)))))) (pss_one ps_retN) pss_nil)
      (pss_cons (ps_set (i := 10) scAdd.nd rfl (Or.inl rfl) (pe_op op_catA (pe_tup (pa_cons (pv 7) pa_nil)) (pv 8)))
      (pss_one (ps_if (PW.pt (pw_and (pt_cmpR (op_notInD hu) (pv 10) (pv 6) rfl) (pw_and1 (pt_cmpR op_le (pe_op op_mul (pe_op op_fdiv (pv 5) (pe_op op_add (pe_callB call_len_seq (by rfl) B.len PySem.boot_len (pa_cons (pv 6) pa_nil)) pe_int)) (pe_op op_add (pe_callB call_len_seq (by rfl) B.len PySem.boot_len (pa_cons (pv 6) pa_nil)) pe_int)) (pv 3) (nomark _)))))
          (pss_one (ps_expr (pe_bm PySem.F.plainAttrs_list PySem.F.slot_list_insert PySem.F.type_list_insert mt_insert (pv 6) (pa_cons (pv 9) (pa_cons (pv 10) pa_nil))))) pss_nil)))))))))), ?_⟩
    refine ⟨by show 1 ≤ sizeLine; decide, fun t0 ht0 => ⟨by show 1 ≤ sizeLine; decide, fun b0 hb0 => ?_⟩⟩
    have gt0 := fresh_back hP.ex ht0
    have hP1 := hP.new (o := .tup [.int 0]) ht0
    have hW1 := hW.new (o := .tup [.int 0]) ht0 gt0
    have eG : Ex G (upd G t0 (.tup [.int 0])) := Ex.new gt0
    have eb := Ex.new (o := .lst [V.ref t0]) hb0
    have hd0 : DqA (upd G t0 (.tup [.int 0])) [.ref t0] [.tuple ([0].map PyData.int)] := .cons (.tup upd_same (DqA.ints [0])) .nil
    generalize upd G t0 (.tup [.int 0]) = G1 at *
    have hP2 := hP1.ext eb
    have hW2 := hW1.ext eb
    refine g_name (q_c ?_)
    refine q_forL (K := K) (ev_var rfl) (sq_of hW2.at_) (fun i σ' H' => ∃ (b : Addr) (bs : List V) (ds : List PyData) (tk : Int) (o : Option V), σ' = [some (.ref p), some (.ref R), some (.int 6), some (.int 1000000), some (.ref b), some (.int tk), o, none, none, none, none] ∧ Pl G1 H' p q ∧ Rw WayI 6 G1 H' p q R rs ∧ H' b = some (.lst bs) ∧ b ≠ p ∧ b ≠ q ∧ DqA G1 bs ds ∧ (∀ d ∈ ds, WayI d) ∧ 1 ≤ ds.length ∧ ds.length ≤ 1 + 6 * i)
      (fun H3 e3 => ⟨b0, _, _, 1, none, rfl, hP2.ext e3, hW2.ext e3, e3 _ _ upd_same, hP1.np hb0, hP1.nq hb0, hd0, fun d hd => ⟨[0], List.mem_singleton.mp hd, by simp, by simp⟩, by simp, by simp⟩) (fun i σ' H' _ p => by
        obtain ⟨_, _, _, _, _, _, _, h, _⟩ := p
        exact sq_of h.at_) ?_ ?_
    · rintro i x σ' H3 hx ⟨b, bs, ds, tk, o, rfl, hP3, hW3, hb, nbp, nbq, hd, hdi, hd1, hdl⟩
      obtain ⟨r, hr1, rfl⟩ : ∃ r, rs[i]? = some r ∧ x = V.ref r := by
        rw [List.getElem?_map] at hx
        cases hq : rs[i]? with
        | none => rw [hq] at hx; cases hx
        | some r => rw [hq] at hx; exact ⟨r, rfl, (Option.some.inj hx).symm⟩
      obtain ⟨gr, rp, rq, vs, es, h1, h2, hl2, hi2⟩ := hW3.row r (List.mem_of_getElem? hr1)
      have hil : i < rs.length := (List.getElem?_eq_some_iff.mp hr1).1
      have lb := hd.length
      have lv := h2.length
      refine g_name ?_
      refine ⟨.ref b, rfl, .ref r, rfl, b, r, bs, vs, rfl, rfl, hb, h1, by rw [sizeLine_eq]; omega, fun b2 hb2 => ?_⟩
      have e2 := Ex.new (o := .lst (bs ++ vs)) hb2
      refine ⟨.int tk, rfl, .ref r, rfl, r, vs, rfl, .inl (sq_of (e2 _ _ h1)), _, 1, rfl, rfl, tk, _, rfl, rfl, .inr ⟨by omega, by omega⟩, ?_⟩
      exact ⟨b2, _, ds ++ es, _, _, rfl, hP3.ext e2, hW3.ext e2, upd_same, hP3.np hb2, hP3.nq hb2, hd.append h2, fun d hx => (List.mem_append.mp hx).elim (hdi d) (hi2 d), by simp; omega, by simp; omega⟩
    · rintro σ' H3 ⟨b, bs, ds, tk, o, rfl, hP3, hW3, hb, nbp, nbq, hd, hdi, hd1, hdl⟩
      rw [List.length_map] at hdl
      have lb := hd.length
      refine ⟨.ref p, rfl, .ref R, rfl, R, _, rfl, .inl (sq_of hW3.at_), _, 1, rfl, rfl, Hd H3 p q, p, q, _, rfl, hP3.hd, by rw [List.length_map]; omega, by rw [List.length_map]; omega, fun H4 y hP0 hy0 hy1 => ⟨1, y, rfl, rfl, ?_⟩⟩
      rw [List.length_map] at hy1
      have hP4 := hP3.back hP0
      have hW4 := hW3.off hP0.off
      have hb4 := hP0.off _ _ nbp nbq hb
      refine g_name ?_
      refine ⟨.ref b, rfl, .ref p, rfl, .ref b, rfl, b, bs, rfl, .inl (sq_of hb4), Hd H4 p q, p, q, _, rfl, hP4.hd, by omega, by omega, fun H5 z hP00 hz0 hz1 => ?_⟩
      have hP5 := hP4.back hP00
      have hW5 := hW4.off hP00.off
      have hb5 := hP00.off _ _ nbp nbq hb4
      obtain ⟨zn, rfl⟩ : ∃ m : Nat, z = (m : Int) := ⟨z.toNat, by omega⟩
      have hzl : zn < bs.length := by omega
      have hbz : bs[zn]? = some bs[zn] := List.getElem?_eq_getElem hzl
      obtain ⟨dz, edz, hdz⟩ := hd.get hbz
      obtain ⟨ns, rfl, hns1, hns8⟩ := hdi dz (List.mem_of_getElem? edz)
      generalize bs[zn] = bv at *
      cases hdz with
      | tup hbt hbt2 =>
        rename_i ba bxs
        have ebx := hbt2.int_inv
        subst ebx
        refine ⟨b, bs, (zn : Int), .ref ba, rfl, rfl, sq_of hb5, atI_nat hbz, ?_⟩
        refine g_name ?_
        obtain ⟨rn, hrn⟩ : ∃ m : Nat, (1 : Int) + y = (m : Int) := ⟨(1 + y).toNat, by omega⟩
        have hrl : rn < rs.length := by omega
        have hrr : (rs.map V.ref)[rn]? = some (.ref rs[rn]) := by rw [List.getElem?_map, List.getElem?_eq_getElem hrl]; rfl
        have hrm : rs[rn] ∈ rs := List.getElem_mem hrl
        generalize rs[rn] = r at *
        refine ⟨.ref R, rfl, .int (1 + y), rfl, R, _, _, .ref r, rfl, rfl, sq_of hW5.at_, by rw [hrn]; exact atI_nat hrr, ?_⟩
        refine g_name ?_
        obtain ⟨gr, rp, rq, vs, es, h1, h2, hl2, hi2⟩ := hW5.row r hrm
        have lv := h2.length
        refine ⟨.ref p, rfl, .ref r, rfl, r, vs, rfl, .inl (sq_of h1), _, 1, rfl, rfl, Hd H5 p q, p, q, _, rfl, hP5.hd, by omega, by omega, fun H6 pl hP000 hpl0 hpl1 => ?_⟩
        have hP6 := hP5.back hP000
        have hW6 := hW5.off hP000.off
        have h16 := hP000.off _ _ rp rq h1
        refine g_name ?_
        change tSeq _ _ _ [some (.ref p), some (.ref R), some (.int 6), some (.int 1000000), some (.ref b), some (.int tk), some (.ref r), some (.int (1 + y)), some (.ref ba), some (.int pl), none] H6
        have hB : ∀ {H7 : Hp}, Ex H6 H7 → H7 ba = some (.tup (ns.map V.int)) := fun {H7} e => e _ _ (hP6.ex _ _ hbt)
        have hlb : Ev (tCB (rLenS K) (tCons (tVar 8) tNil)) [some (.ref p), some (.ref R), some (.int 6), some (.int 1000000), some (.ref b), some (.int tk), some (.ref r), some (.int (1 + y)), some (.ref ba), some (.int pl), none] H6 (.int ((ns.map V.int).length : Int)) := ev_lenT (ev_var rfl) (st_of (hB (Ex.refl H6)))
        have hlr : Ev (tCB (rLenS K) (tCons (tVar 6) tNil)) [some (.ref p), some (.ref R), some (.int 6), some (.int 1000000), some (.ref b), some (.int tk), some (.ref r), some (.int (1 + y)), some (.ref ba), some (.int pl), none] H6 (.int (vs.length : Int)) := ev_len (ev_var rfl) (sq_of h16)
        refine q_when (b := inV (.int (1 + y)) (ns.map V.int) || (decide (((ns.map V.int).length : Int) > 7) || decide ((vs.length : Int) ≥ 6))) (et_or (et_test (ev_op (ev_var rfl) (ev_var rfl) (rv_isT (st_of (hB (Ex.refl H6))) rfl (flat_ints ns)))) fun _ => et_or (et_test (ev_op hlb ev_c rv_I0)) fun _ => et_test (ev_op hlr (ev_var rfl) rv_I0)) (fun hb7 H7 e7 => k G1 H7 eG (hP6.ext e7) (hW6.ext e7)) (fun hb7 H7 e7 => ?_)
        simp only [Bool.or_eq_false_iff, decide_eq_false_iff_not, List.length_map] at hb7
        obtain ⟨_, hb71, hb72⟩ := hb7
        have hP7 := hP6.ext e7
        have hW7 := hW6.ext e7
        have h17 := e7 _ _ h16
        have hns7 : ns.length ≤ 7 := by omega
        have hvl : vs.length ≤ 5 := by omega
        refine ⟨.int (1 + y), rfl, by show 1 ≤ sizeLine; decide, fun t1 ht1 => ?_⟩
        have gt1 := fresh_back hP7.ex ht1
        have e8 := Ex.new (o := .tup [V.int (1 + y)]) ht1
        refine ⟨.ref ba, rfl, t1, ba, _, _, rfl, rfl, st_of upd_same, st_of (hB (e7.trans e8)), (by rw [List.length_map, sizeLine_eq]; show 1 + ns.length ≤ 16777216; omega), (fun z => by cases z), fun _ z => ?_, fun _ _ t2 ht2 => ?_⟩
        · rw [List.map_eq_nil_iff] at z
          rw [z] at hns1
          simp at hns1
        have hP8 := hP7.ext e8
        have hW8 := hW7.ext e8
        have gt2 := fresh_back hP8.ex ht2
        have hP9 := hP8.new (o := .tup ([V.int (1 + y)] ++ ns.map V.int)) ht2
        have hW9 := hW8.new (o := .tup ([V.int (1 + y)] ++ ns.map V.int)) ht2 gt2
        have e9 := Ex.new (o := .tup ([V.int (1 + y)] ++ ns.map V.int)) ht2
        have hw9 : Dq (upd G1 t2 (.tup ([V.int (1 + y)] ++ ns.map V.int))) (.ref t2) (.tuple (((1 + y) :: ns).map PyData.int)) := .tup upd_same (DqA.ints ((1 + y) :: ns))
        have eG2 : Ex G1 (upd G1 t2 (.tup ([V.int (1 + y)] ++ ns.map V.int))) := Ex.new gt2
        have h19 := e9 _ _ (e8 _ _ h17)
        refine g_name ?_
        generalize upd G1 t2 (.tup ([V.int (1 + y)] ++ ns.map V.int)) = G2 at *
        generalize upd (upd H7 t1 (.tup [V.int (1 + y)])) t2 (.tup ([V.int (1 + y)] ++ ns.map V.int)) = H9 at *
        have h2' := h2.mono eG2
        have hlr9 : Ev (tCB (rLenS K) (tCons (tVar 6) tNil)) [some (.ref p), some (.ref R), some (.int 6), some (.int 1000000), some (.ref b), some (.int tk), some (.ref r), some (.int (1 + y)), some (.ref ba), some (.int pl), some (.ref t2)] H9 (.int (vs.length : Int)) := ev_len (ev_var rfl) (sq_of h19)
        have hnin : ∃ bb : Bool, EvT (tTest (tOp (rNotInD K) (tVar 10) (tVar 6))) [some (.ref p), some (.ref R), some (.int 6), some (.int 1000000), some (.ref b), some (.int tk), some (.ref r), some (.int (1 + y)), some (.ref ba), some (.int pl), some (.ref t2)] H9 bb := by
          refine ⟨_, et_test (ev_op (ev_var rfl) (ev_var rfl) fun H10 e10 Q2 q => ⟨.tuple (((1 + y) :: ns).map PyData.int), es, Dq.dp (SeqAt.canLay_of_shaped (shaped_ints _)) (hw9.mono (hP9.ex.trans e10)), .lst (sq_of (e10 _ _ h19)) (DqA.dp (wayI_lay hi2).1 (h2'.mono (hP9.ex.trans e10))), shaped_ints _, wayI_shaped hi2, q H10 (Ex.refl H10)⟩)⟩
        obtain ⟨bb, hbb⟩ := hnin
        refine s_when (b := bb && decide (tk / ((vs.length : Int) + 1) * ((vs.length : Int) + 2) ≤ 1000000)) (et_and hbb fun _ => et_test (ev_op (ev_op (ev_op (ev_var rfl) (ev_op hlr9 ev_c rv_I0) (rv_I ⟨by omega, by omega⟩)) (ev_op hlr9 ev_c rv_I0) (rv_I (.inr ⟨by omega, by omega⟩))) (ev_var rfl) rv_I0)) (fun hb10 H10 e10 => ?_) (fun hb10 H10 e10 => k G2 H10 (eG.trans eG2) (hP9.ext e10) (hW9.ext e10))
        have h110 := e10 _ _ h19
        have hP10 := hP9.ext e10
        have hW10 := hW9.ext e10
        refine ⟨.ref r, rfl, .inl ⟨rfl, _, sq_of h110⟩, .int pl, rfl, .ref t2, rfl, r, vs, pl, .ref t2, rfl, rfl, h110, by rw [sizeLine_eq]; omega, hpl0, by omega, ?_⟩
        have hdn : DqA G2 (vs.take pl.toNat ++ [.ref t2] ++ vs.drop pl.toNat) (es.take pl.toNat ++ [.tuple (((1 + y) :: ns).map PyData.int)] ++ es.drop pl.toNat) := ((h2'.take _).append (.cons hw9 .nil)).append (h2'.drop _)
        refine k G2 _ (eG.trans eG2) (hP10.mut (hW10.row r hrm).1 rp rq) (hW10.mut hrm hdn ?_ fun d hd => ?_)
        · simp
          omega
        · rcases List.mem_append.mp hd with z | z
          · rcases List.mem_append.mp z with z | z
            · exact hi2 d (List.mem_of_mem_take z)
            · exact ⟨(1 + y) :: ns, List.mem_singleton.mp z, by simp, by simp; omega⟩
          · exact hi2 d (List.mem_of_mem_drop z)
end
end Wk

set_option Elab.async false
set_option linter.all false
set_option maxRecDepth 100000
set_option maxHeartbeats 2000000
namespace Wk
open PySem PySem.Spec PyProof.Rows L2 Evl
theorem call_tupleK {X : Cx} {K : PySem.W.Frag} (hK : X.K = K) : CallR X (.type "tuple") (fun xs H Q => ∃ p ys, xs = [.ref p] ∧ ((SqL K H p ys ∧ ∀ l, H l = none → Q (.ref l) (upd H l (.tup ys))) ∨ (SqT K H p ys ∧ Q (.ref p) H))) := by
  subst hK
  exact call_tuple_of
theorem ret_cb {r : List V → Hp → VK → Prop} {ta : TE} {D : Ends} {σ : L2.St} {H : Hp} (h : ta σ H fun x H1 => r [x] H1 D.rt) : tRet (tCB r (tCons ta tNil)) D σ H := h
/-- a row of ways -/
def RowI (m : Nat) (It : PyData → Prop) (d : PyData) : Prop := ∃ ds, d = .tuple ds ∧ ds.length ≤ m ∧ ∀ x ∈ ds, It x
/-- tuple(row) for each row: the new tuples stay -/
structure Tups (It : PyData → Prop) (m : Nat) (G0 H : Hp) (p q R : Addr) (rs : List Addr) (D : Addr) (i : Nat) : Prop where
  ex : ∃ (G : Hp) (ts : List V) (rows : List PyData), Ex G0 G ∧ Pl G H p q ∧ Rw It m G H p q R rs ∧ H D = some (.lst ts) ∧ G D = none ∧ D ≠ p ∧ D ≠ q ∧ DqA G ts rows ∧ rows.length = i ∧ ∀ d ∈ rows, RowI m It d
theorem tups_start {It : PyData → Prop} {m : Nat} {G H : Hp} {p q R D : Addr} {rs : List Addr} (hP : Pl G H p q) (hW : Rw It m G H p q R rs) (hD : H D = none) : Tups It m G (upd H D (.lst [])) p q R rs D 0 :=
  ⟨G, [], [], Ex.refl _, hP.ext (Ex.new hD), hW.ext (Ex.new hD), upd_same, fresh_back hP.ex hD, hP.np hD, hP.nq hD, .nil, rfl, fun d h => by cases h⟩
/-- one turn: x is the i-th row; what call_tuple_of asks -/
theorem tups_turn {K : PySem.W.Frag} {It : PyData → Prop} {m : Nat} {G0 H : Hp} {p q R D r : Addr} {rs : List Addr} {i : Nat} (hi : i < 1000) (h : Tups It m G0 H p q R rs D i) (hr : r ∈ rs) (hDr : D ∉ rs) (hDR : D ≠ R) :
    ∃ pa ys, [V.ref r] = [.ref pa] ∧ ((SqL K H pa ys ∧ ∀ l, H l = none → ∃ acc, (upd H l (.tup ys)) D = some (.lst acc) ∧ acc.length < sizeLine ∧ Tups It m G0 (upd (upd H l (.tup ys)) D (.lst (acc ++ [.ref l]))) p q R rs D (i + 1)) ∨
      (SqT K H pa ys ∧ ∃ acc, H D = some (.lst acc) ∧ acc.length < sizeLine ∧ Tups It m G0 (upd H D (.lst (acc ++ [.ref pa]))) p q R rs D (i + 1))) := by
  obtain ⟨G, ts, rows, eG, hP, hW, hD, gD, Dp, Dq', hts, hl, hrows⟩ := h.ex
  obtain ⟨gr, rp, rq, vs, ds, h1, h2, hl2, hi2⟩ := hW.row r hr
  refine ⟨r, vs, rfl, .inl ⟨sq_of h1, fun l hl' => ?_⟩⟩
  have gl := fresh_back hP.ex hl'
  have nDl : D ≠ l := ne_of_none hD hl'
  have hP1 := hP.new (o := .tup vs) hl'
  have hW1 := hW.new (o := .tup vs) hl' gl
  have tl := hts.length
  refine ⟨ts, by rw [upd_ne nDl]; exact hD, by rw [sizeLine_eq]; omega, upd G l (.tup vs), ts ++ [.ref l], rows ++ [.tuple ds], eG.trans (Ex.new gl), hP1.mut (by rw [upd_ne nDl]; exact gD) Dp Dq', ?_, upd_same, by rw [upd_ne nDl]; exact gD, Dp, Dq', (hts.mono (Ex.new gl)).append (.cons (.tup upd_same (h2.mono (Ex.new gl))) .nil), by simp [hl], fun d hd => ?_⟩
  · refine ⟨by rw [upd_ne (Ne.symm hDR)]; exact hW1.at_, hW1.gR, hW1.Rp, hW1.Rq, hW1.nin, fun r' hr' => ?_⟩
    obtain ⟨g', rp', rq', vs', ds', h1', h2'⟩ := hW1.row r' hr'
    have nr : r' ≠ D := fun z => hDr (by rw [← z]; exact hr')
    exact ⟨g', rp', rq', vs', ds', by rw [upd_ne nr]; exact h1', h2'⟩
  · rcases List.mem_append.mp hd with z | z
    · exact hrows d z
    · exact ⟨ds, List.mem_singleton.mp z, hl2, hi2⟩
section
variable {P : Program} {w : World} {K : PySem.W.Frag} {mg : Str → Option Value} {base : Heap} {f : Addr} {fd : FuncData}
/-! _law_lists -/
def spLists : Sp := fun vs H Q _ => ∃ (G : Hp) (p q : Addr), vs = [.ref p, .int 8, .int 6, .int 1000000] ∧ Pl G H p q ∧ ∀ G' H' v rows, Ex G G' → Pl G' H' p q → Dq G' v (.tuple rows) → 2 ≤ rows.length → rows.length ≤ 8 → (∀ d ∈ rows, RowI 6 WayI d) → Q v H'
abbrev sLists : Stmt := top 26
abbrev nLists : List Str := ["_law_pool_here", "_law_most", "_law_limit", "_law_cap", "_law_size", "_law_lists_here", "_law_count", "_law_row"]
theorem scLists : FnScope nLists ["_law_pool_here", "_law_most", "_law_limit", "_law_cap"] (defScope sLists) := ⟨rfl, rfl, rfl, by decide +kernel, rfl, by decide +kernel, by decide +kernel⟩
theorem ok_lists (B : Bl mg) (C : Cal P w K mg base "_law_draw" ["_law_pool_here", "_law_size"] 1 spDraw) (C2 : Cal P w K mg base "_law_planted" ["_law_pool_here", "_law_size"] 3 spPlanted) (C3 : Cal P w K mg base "_law_add" ["_law_pool_here", "_law_lists_here", "_law_limit", "_law_cap"] 2 spAdd) (F : FnP K "_law_lists" sLists f fd) : FnOk P w K mg base CX0 5 f fd ["_law_pool_here", "_law_most", "_law_limit", "_law_cap"] spLists := by
  refine F.ok scLists (fun vs H Q E h => ?_) (fun cdv A outer s H vs Q E hr h => ?_)
  · obtain ⟨G, p, q, rfl, _⟩ := h
    rfl
  · obtain ⟨G, p, q, rfl, hP, k⟩ := h
    have hr1 : Room 1 _ := hr.mono (by decide)
    have hr2 : Room 2 _ := hr.mono (by decide)
    refine ⟨_, pss_cons (ps_set (i := 4) scLists.nd rfl (Or.inl rfl) (pe_op op_add pe_int (pe_cal C hr1 (by rfl) (pa_cons (pv 0) (pa_cons (pe_op op_sub (pv 1) pe_int) pa_nil)))))
      (pss_cons (ps_set (i := 5) scLists.nd rfl (Or.inl rfl) (pe_cal C2 hr (by rfl) (pa_cons (pv 0) (pa_cons (pv 4) pa_nil))))
      (pss_cons (ps_for (passes_of rfl) rfl (pi_range1 (by rfl) B.range (pa_cons (pe_cal C hr1 (by rfl) (pa_cons (pv 0) (pa_cons pe_int pa_nil))) pa_nil)) (pg_name (i := 6) scLists.nd rfl (Or.inl rfl))
        (pss_one (ps_expr (pe_cal C3 hr2 (by rfl) (pa_cons (pv 0) (pa_cons (pv 5) (pa_cons (pv 2) (pa_cons (pv 3) pa_nil))))))))
      (pss_one (ps_ret (pe_callTy call_tuple_of (by rfl) B.tuple PyProof.Rows.boot_tuple (pa_cons (pe_lc (own := [("_law_row", 7)]) (g := gName 7) (tt := tYes) rfl scLists.nd (pi_list (pv 5)) (blkOk_by (N := nLists) (sc := defScope sLists) (by decide +kernel))
          (fun _ _ _ _ _ => pg_name (i := 7) scLists.nd rfl (Or.inl rfl)) (fun _ _ _ _ _ => pts_nil) (fun _ _ _ _ _ => pe_callTy (call_tupleK (K := K) rfl) (by rfl) B.tuple PyProof.Rows.boot_tuple (pa_cons (pv 7) pa_nil))) pa_nil)))))), ?_⟩
    refine ⟨.ref p, rfl, .int 8, rfl, 8, 1, rfl, rfl, Hd H p q, p, q, _, rfl, hP.hd, by decide, by decide, fun H1 y hP0 hy0 hy1 => ⟨2, y, rfl, rfl, ?_⟩⟩
    have hP1 := hP.back hP0
    obtain ⟨n, hn⟩ : ∃ n : Nat, (2 : Int) + y = (n : Int) := ⟨(2 + y).toNat, by omega⟩
    refine g_name ?_
    refine ⟨.ref p, rfl, .int (2 + y), rfl, G, p, q, n, by rw [hn]; rfl, hP1, by omega, by omega, fun G1 H2 R rs eG hP2 hW2 hrl => ?_⟩
    refine g_name ?_
    refine ⟨.ref p, rfl, Hd H2 p q, p, q, 16, rfl, hP2.hd, by decide, by decide, fun H3 cnt hP00 hc0 hc1 => ⟨cnt, rfl, by omega, by omega, for_range (lo := 0) (n := cnt.toNat) (fun i σ' H' => ∃ (G' : Hp) (o : Option V), σ' = [some (.ref p), some (.int 8), some (.int 6), some (.int 1000000), some (.int (2 + y)), some (.ref R), o, none] ∧ Ex G G' ∧ Pl G' H' p q ∧ Rw WayI 6 G' H' p q R rs) ⟨G1, none, rfl, eG, hP2.back hP00, (hW2.off hP00.off).imp (fun _ h => h) (by decide)⟩ ?_ ?_⟩⟩
    · rintro i σ' H4 hi ⟨G', o, rfl, eG', hP4, hW4⟩
      exact ⟨.ref p, rfl, .ref R, rfl, .int 6, rfl, .int 1000000, rfl, G', p, q, R, rs, rfl, hP4, hW4, by omega, by omega, fun G2 H5 eG2 hP5 hW5 => ⟨G2, _, rfl, eG'.trans eG2, hP5, hW5⟩⟩
    · rintro σ' H4 ⟨G', o, rfl, eG', hP4, hW4⟩
      dsimp only
      refine ret_cb ?_
      refine ⟨.ref R, rfl, R, rfl, ⟨_, sq_of hW4.at_⟩, fun D hD => lc_list (K := K) (xs := rs.map V.ref) (fun i H' => Tups WayI 6 G' H' p q R rs D i) (tups_start hP4 hW4 hD) (fun i H' _ h => ?_) ?_ ?_⟩
      · obtain ⟨G5, ts, rows, _, _, hW, _⟩ := h.ex
        exact sq_of hW.at_
      · rintro i x H5 hx h
        obtain ⟨r, hr1, rfl⟩ : ∃ r, rs[i]? = some r ∧ x = V.ref r := by
          rw [List.getElem?_map] at hx
          cases hq : rs[i]? with
          | none => rw [hq] at hx; cases hx
          | some r => rw [hq] at hx; exact ⟨r, rfl, (Option.some.inj hx).symm⟩
        have hil := (List.getElem?_eq_some_iff.mp hr1).1
        refine ⟨rfl, .ref r, rfl, ?_⟩
        exact tups_turn (K := K) (by omega) h (List.mem_of_getElem? hr1) (fun z => by
          obtain ⟨_, _, _, _, _, h1, _⟩ := hW4.row D z
          rw [hD] at h1
          cases h1) (Ne.symm (ne_of_none hW4.at_ hD))
      · intro H5 h
        obtain ⟨G5, ts, rows, eG5, hP5, hW5, hD5, gD5, Dp5, Dq5, hts, hrl5, hrows⟩ := h.ex
        rw [List.length_map] at hrl5
        refine ⟨D, ts, rfl, .inl ⟨sq_of hD5, fun t ht => ?_⟩⟩
        have gt := fresh_back hP5.ex ht
        exact k (upd G5 t (.tup ts)) _ (.ref t) rows ((eG'.trans eG5).trans (Ex.new gt)) (hP5.new ht) (.tup upd_same (hts.mono (Ex.new gt))) (by omega) (by omega) hrows
end
end Wk

set_option Elab.async false
set_option linter.all false
set_option maxRecDepth 100000
set_option maxHeartbeats 2000000
namespace Wk
open PySem PySem.Spec PyProof.Rows L2 Evl
/-! what stays grows by new things only -/
structure Gr (p q : Addr) (G H G' H' : Hp) : Prop where
  ex : Ex G G'
  nw : ∀ b, G b = none → H b ≠ none → G' b = none
  off : Off p q H H'
  pl : Pl G' H' p q
theorem Gr.refl {p q : Addr} {G H : Hp} (h : Pl G H p q) : Gr p q G H G H := ⟨Ex.refl _, fun _ h _ => h, Off.refl _ _ _, h⟩
theorem Gr.trans {p q : Addr} {G H G1 H1 G2 H2 : Hp} (a : Gr p q G H G1 H1) (b : Gr p q G1 H1 G2 H2) : Gr p q G H G2 H2 := by
  refine ⟨a.ex.trans b.ex, fun c hc hh => ?_, a.off.trans b.off, b.pl⟩
  by_cases cp : c = p
  · rw [cp]; exact b.pl.gp
  by_cases cq : c = q
  · rw [cq]; exact b.pl.gq
  refine b.nw c (a.nw c hc hh) ?_
  cases hx : H c with
  | none => exact absurd hx hh
  | some o => rw [a.off c o cp cq hx]; simp
theorem Gr.new {p q t : Addr} {G H : Hp} {o : HO} (h : Pl G H p q) (ht : H t = none) : Gr p q G H (upd G t o) (upd H t o) := by
  refine ⟨Ex.new (fresh_back h.ex ht), fun b hb hh => ?_, Off.ex (Ex.new ht), h.new ht⟩
  have nb : b ≠ t := fun z => hh (by rw [z]; exact ht)
  rw [upd_ne nb]
  exact hb
theorem Gr.ext {p q : Addr} {G H H' : Hp} (h : Pl G H p q) (e : Ex H H') : Gr p q G H G H' := ⟨Ex.refl _, fun _ h _ => h, Off.ex e, h.ext e⟩
theorem Gr.draw {p q : Addr} {G H H' : Hp} (h : Pl G H p q) (h' : Pl (Hd H p q) H' p q) : Gr p q G H G H' := ⟨Ex.refl _, fun _ h _ => h, h'.off, h.back h'⟩
theorem Rw.gr {It : PyData → Prop} {m : Nat} {p q R : Addr} {G H G' H' : Hp} {rs : List Addr} (h : Rw It m G H p q R rs) (g : Gr p q G H G' H') : Rw It m G' H' p q R rs := by
  refine (h.off g.off).grow g.ex (g.nw R h.gR (by rw [h.at_]; simp)) fun r hr => ?_
  obtain ⟨gr, _, _, vs, ds, h1, _⟩ := h.row r hr
  exact g.nw r gr (by rw [h1]; simp)
/-! displays -/
def EvDt (p q : Addr) (te : TE) (σ : L2.St) (d : PyData) : Prop := ∀ G H, Pl G H p q → ∀ Q : VK, (∀ G' H' v, Gr p q G H G' H' → Dq G' v d → Q v H') → te σ H Q
def EvDA (p q : Addr) (ta : TA) (σ : L2.St) (ds : List PyData) : Prop := ∀ G H, Pl G H p q → ∀ Q : List V → Hp → Prop, (∀ G' H' vs, Gr p q G H G' H' → DqA G' vs ds → Q vs H') → ta σ H Q
section
variable {p q : Addr} {σ : L2.St} {te tb : TE} {ta : TA} {d : PyData} {ds es : List PyData}
theorem ed_c {v : V} (h : ∀ G, Dq G v d) : EvDt p q (tC v) σ d := fun G H hP Q k => k G H v (Gr.refl hP) (h G)
theorem ed_int {i : Nat} {x : Int} (h : σ[i]? = some (some (.int x))) : EvDt p q (tVar i) σ (.int x) := fun G H hP Q k => ⟨.int x, h, k G H _ (Gr.refl hP) (.int x)⟩
theorem ed_nil : EvDA p q tNil σ [] := fun G H hP Q k => k G H [] (Gr.refl hP) .nil
theorem ed_cons (h : EvDt p q te σ d) (hr : EvDA p q ta σ ds) : EvDA p q (tCons te ta) σ (d :: ds) := fun G H hP Q k =>
  h G H hP _ fun G1 H1 v g1 hv => hr G1 H1 g1.pl _ fun G2 H2 vs g2 hvs => k G2 H2 (v :: vs) (g1.trans g2) (.cons (hv.mono g2.ex) hvs)
theorem ed_tup (h : EvDA p q ta σ ds) (hl : ds.length ≤ 1000) : EvDt p q (tTup ta) σ (.tuple ds) := fun G H hP Q k =>
  h G H hP _ fun G1 H1 vs g1 hvs => ⟨by have := hvs.length; rw [sizeLine_eq]; omega, fun t ht => k (upd G1 t (.tup vs)) _ (.ref t) (g1.trans (Gr.new g1.pl ht)) (.tup upd_same (hvs.mono (Gr.new (o := .tup vs) g1.pl ht).ex))⟩
theorem ed_lst (h : EvDA p q ta σ ds) (hl : ds.length ≤ 1000) : EvDt p q (tLst ta) σ (.list ds) := fun G H hP Q k =>
  h G H hP _ fun G1 H1 vs g1 hvs => ⟨by have := hvs.length; rw [sizeLine_eq]; omega, fun t ht => k (upd G1 t (.lst vs)) _ (.ref t) (g1.trans (Gr.new g1.pl ht)) (.lst upd_same (hvs.mono (Gr.new (o := .lst vs) g1.pl ht).ex))⟩
theorem ed_dict : EvDt p q tDNewK σ (.dict []) := fun G H hP Q k t ht => k (upd G t (.dK [])) _ (.ref t) (Gr.new hP ht) (.dic upd_same)
/-- things + [..] -/
theorem ed_cat (G0 : Hp) {v : V} {i : Nat} (hv : σ[i]? = some (some v)) (h0 : Dq G0 v (.list ds)) (hb : EvDt p q tb σ (.list es)) (hl : ds.length + es.length ≤ 1000) {H : Hp} (hP : Pl G0 H p q) {Q : VK} (k : ∀ G' H' v, Gr p q G0 H G' H' → Dq G' v (.list (ds ++ es)) → Q v H') : tOp rCat (tVar i) tb σ H Q := by
  refine ⟨v, hv, hb G0 H hP _ fun G1 H1 u g1 hu => ?_⟩
  have h1 := h0.mono g1.ex
  cases h1 with
  | lst a1 a2 =>
    cases hu with
    | lst b1 b2 =>
      rename_i aa xs ab ys
      have l1 := a2.length
      have l2 := b2.length
      refine ⟨aa, ab, xs, ys, rfl, rfl, g1.pl.ex _ _ a1, g1.pl.ex _ _ b1, by rw [sizeLine_eq]; omega, fun t ht => ?_⟩
      have gn := Gr.new (o := .lst (xs ++ ys)) g1.pl ht
      exact k _ _ (.ref t) (g1.trans gn) (.lst upd_same ((a2.append b2).mono gn.ex))
end
theorem q_asgD {p q : Addr} {i : Nat} {te : TE} {tz : TS} {D : Ends} {σ : L2.St} {G H : Hp} {d : PyData} (h : EvDt p q te σ d) (hP : Pl G H p q) (k : ∀ G' H' v, Gr p q G H G' H' → Dq G' v d → tz D (σ.set i (some v)) H') : tSeq (tAsg te (gName i)) tz D σ H := h G H hP _ k
theorem q_catD {p q : Addr} {i j : Nat} {tb : TE} {tz : TS} {D : Ends} {σ : L2.St} {H : Hp} {ds es : List PyData} (G0 : Hp) {v : V} (hv : σ[i]? = some (some v)) (h0 : Dq G0 v (.list ds)) (hb : EvDt p q tb σ (.list es)) (hl : ds.length + es.length ≤ 1000) (hP : Pl G0 H p q) (k : ∀ G' H' v, Gr p q G0 H G' H' → Dq G' v (.list (ds ++ es)) → tz D (σ.set j (some v)) H') : tSeq (tAsg (tOp rCat (tVar i) tb) (gName j)) tz D σ H := ed_cat G0 hv h0 hb hl hP k
/-- an odd thing -/
def OddI (d : PyData) : Prop := Itm d ∧ ∀ ds, d = .tuple ds → ds.length ≤ 20
def oddB : PyData → Bool
  | .dict [] => true
  | .tuple ds => PyData.canLayAll0 ds && decide (PyData.depthAll ds ≤ 7) && decide (ds.length ≤ 20)
  | .list ds => PyData.canLayAll0 ds && decide (PyData.depthAll ds ≤ 7)
  | .str z => PyData.canLay0 (.str z)
  | .none => true
  | .bool _ => true
  | .int _ => true
  | .dict _ => false
theorem oddB_ok {d : PyData} (h : oddB d = true) : OddI d := by
  cases d with
  | none => exact ⟨.inr ⟨by simp [PyData.canLay0], by simp [PyData.depth]⟩, fun ds e => by cases e⟩
  | bool b => exact ⟨.inr ⟨by simp [PyData.canLay0], by simp [PyData.depth]⟩, fun ds e => by cases e⟩
  | int b => exact ⟨.inr ⟨by simp [PyData.canLay0], by simp [PyData.depth]⟩, fun ds e => by cases e⟩
  | str z => exact ⟨.inr ⟨h, by simp [PyData.depth]⟩, fun ds e => by cases e⟩
  | list ds =>
    have h' : PyData.canLayAll0 ds = true ∧ PyData.depthAll ds ≤ 7 := by simpa [oddB] using h
    exact ⟨.inr ⟨by simpa [PyData.canLay0] using h'.1, by simp only [PyData.depth]; omega⟩, fun ds e => by cases e⟩
  | tuple ds =>
    have h' : (PyData.canLayAll0 ds = true ∧ PyData.depthAll ds ≤ 7) ∧ ds.length ≤ 20 := by simpa [oddB] using h
    exact ⟨.inr ⟨by simpa [PyData.canLay0] using h'.1.1, by simp only [PyData.depth]; omega⟩, fun es e => by cases e; exact h'.2⟩
  | dict kvs =>
    cases kvs with
    | nil => exact ⟨.inl rfl, fun ds e => by cases e⟩
    | cons a l => simp [oddB] at h
section
variable {P : Program} {w : World} {K : PySem.W.Frag} {mg : Str → Option Value} {base : Heap} {f : Addr} {fd : FuncData}
/-! _law_odd -/
def spOdd : Sp := fun vs H Q _ => ∃ (G : Hp) (p q : Addr) (r z : Int), vs = [.ref p, .int r, .int z] ∧ Pl G H p q ∧ ∀ G' H' v d, Gr p q G H G' H' → Dq G' v d → OddI d → Q v H'
abbrev sOdd : Stmt := top 29
abbrev nOdd : List Str := ["_law_pool_here", "_law_router", "_law_size", "_law_things"]
theorem scOdd : FnScope nOdd ["_law_pool_here", "_law_router", "_law_size"] (defScope sOdd) := ⟨rfl, rfl, rfl, by decide +kernel, rfl, by decide +kernel, by decide +kernel⟩
def odd1 (r z : Int) : List PyData := [.none, .bool true, .int 7, .str "1-0", .tuple [], .tuple [.int 0], .tuple [.int r], .list [.int r, .int 0], .tuple [.int r, .int z, .int 0], .tuple [.int r, .int (-1), .int 0], .dict []]
def odd2 (r : Int) : List PyData := [.tuple [.int r, .bool true, .int 0], .tuple [.int r, .bool false], .tuple [.int r, .str "0"], .tuple [.int r, .int (10 ^ 25), .int 0], .tuple [.tuple [.int r, .int 0]]]
def odd3 (r z : Int) : List PyData := [.tuple [.int r, .int r, .int 0], .tuple [.int r, .int 0, .int 0], .tuple [.int r, .none, .int 0], .tuple [.int z, .int 0], .tuple [.int r, .tuple [.int 0]], .list [], .str "", .int 0]
theorem odd_all (r z : Int) : ((odd1 r z ++ odd2 r) ++ odd3 r z).all oddB = true := by
  have s1 : PyData.strOk "1-0" = true := by decide +kernel
  have s2 : PyData.strOk "0" = true := by decide +kernel
  have s3 : PyData.strOk "" = true := by decide +kernel
  simp [odd1, odd2, odd3, oddB, PyData.canLayAll0, PyData.canLay0, PyData.depthAll, PyData.depth, s1, s2, s3]
theorem ok_odd (B : Bl mg) (C : Cal P w K mg base "_law_draw" ["_law_pool_here", "_law_size"] 1 spDraw) (F : FnP K "_law_odd" sOdd f fd) : FnOk P w K mg base CX0 2 f fd ["_law_pool_here", "_law_router", "_law_size"] spOdd := by
  refine F.ok scOdd (fun vs H Q E h => ?_) (fun cdv A outer s H vs Q E hr h => ?_)
  · obtain ⟨G, p, q, r, z, rfl, _⟩ := h
    rfl
  · obtain ⟨G, p, q, r, z, rfl, hP, k⟩ := h
    refine ⟨_, pss_cons (ps_set (i := 3) scOdd.nd rfl (Or.inl rfl) (pe_lst (pa_cons pe_non (pa_cons pe_bl (pa_cons pe_int (pa_cons pe_str (pa_cons (pe_tup pa_nil) (pa_cons (pe_tup (pa_cons pe_int pa_nil)) (pa_cons (pe_tup (pa_cons (pv 1) pa_nil)) (pa_cons (pe_lst (pa_cons (pv 1) (pa_cons pe_int pa_nil)))
          (pa_cons (pe_tup (pa_cons (pv 1) (pa_cons (pv 2) (pa_cons pe_int pa_nil)))) (pa_cons (pe_tup (pa_cons (pv 1) (pa_cons (pe_un un_neg pe_int) (pa_cons pe_int pa_nil)))) (pa_cons pe_dnewK pa_nil)))))))))))))
      (pss_cons (ps_set (i := 3) scOdd.nd rfl (Or.inl rfl) (pe_op op_cat (pv 3) (pe_lst (pa_cons (pe_tup (pa_cons (pv 1) (pa_cons pe_bl (pa_cons pe_int pa_nil)))) (pa_cons (pe_tup (pa_cons (pv 1) (pa_cons pe_bl pa_nil))) (pa_cons (pe_tup (pa_cons (pv 1) (pa_cons pe_str pa_nil)))
          (pa_cons (pe_tup (pa_cons (pv 1) (pa_cons (pe_op op_pow pe_int pe_int) (pa_cons pe_int pa_nil)))) (pa_cons (pe_tup (pa_cons (pe_tup (pa_cons (pv 1) (pa_cons pe_int pa_nil))) pa_nil)) pa_nil))))))))
      (pss_cons (ps_set (i := 3) scOdd.nd rfl (Or.inl rfl) (pe_op op_cat (pv 3) (pe_lst (pa_cons (pe_tup (pa_cons (pv 1) (pa_cons (pv 1) (pa_cons pe_int pa_nil)))) (pa_cons (pe_tup (pa_cons (pv 1) (pa_cons pe_int (pa_cons pe_int pa_nil)))) (pa_cons (pe_tup (pa_cons (pv 1) (pa_cons pe_non (pa_cons pe_int pa_nil))))
          (pa_cons (pe_tup (pa_cons (pv 2) (pa_cons pe_int pa_nil))) (pa_cons (pe_tup (pa_cons (pv 1) (pa_cons (pe_tup (pa_cons pe_int pa_nil)) pa_nil))) (pa_cons (pe_lst pa_nil) (pa_cons pe_str (pa_cons pe_int pa_nil)))))))))))
      (pss_one (ps_ret (pe_ix ix_list (pv 3) (pe_cal C hr (by rfl) (pa_cons (pv 0) (pa_cons (pe_callB call_len_seq (by rfl) B.len PySem.boot_len (pa_cons (pv 3) pa_nil)) pa_nil))) (fun _ _ => rfl)))))), ?_⟩
    have c0 : ∀ {σ : L2.St} {x : Int}, EvDt p q (tC (.int x)) σ (.int x) := ed_c fun G => .int _
    have cb : ∀ {σ : L2.St} {x : Bool}, EvDt p q (tC (.bl x)) σ (.bool x) := ed_c fun G => .bl _
    have cs : ∀ {σ : L2.St} {x : Str}, EvDt p q (tC (.str x)) σ (.str x) := ed_c fun G => .str _
    have cn : ∀ {σ : L2.St}, EvDt p q (tC .non) σ .none := ed_c fun G => .non
    have neg : ∀ {σ : L2.St}, EvDt p q (tUn (rU fun i => .int (-i)) (tC (.int 1))) σ (.int (-1)) := fun G H hP Q k => ⟨1, rfl, k G H _ (Gr.refl hP) (.int (-1))⟩
    have pow : ∀ {σ : L2.St}, EvDt p q (tOp (rI CPow fun i j => .int (i ^ j.toNat)) (tC (.int 10)) (tC (.int 25))) σ (.int (10 ^ 25)) := fun G H hP Q k => ⟨10, 25, rfl, rfl, ⟨by decide, by decide, by decide⟩, k G H _ (Gr.refl hP) (.int (10 ^ 25))⟩
    have t1 : ∀ {o : Option V}, EvDt p q (tLst _) [some (.ref p), some (.int r), some (.int z), o] (.list (odd1 r z)) := fun {o} => ed_lst (ed_cons cn (ed_cons cb (ed_cons c0 (ed_cons cs (ed_cons (ed_tup ed_nil (by simp)) (ed_cons (ed_tup (ed_cons c0 ed_nil) (by simp)) (ed_cons (ed_tup (ed_cons (ed_int (i := 1) rfl) ed_nil) (by simp)) (ed_cons (ed_lst (ed_cons (ed_int (i := 1) rfl) (ed_cons c0 ed_nil)) (by simp))
      (ed_cons (ed_tup (ed_cons (ed_int (i := 1) rfl) (ed_cons (ed_int (i := 2) rfl) (ed_cons c0 ed_nil))) (by simp)) (ed_cons (ed_tup (ed_cons (ed_int (i := 1) rfl) (ed_cons neg (ed_cons c0 ed_nil))) (by simp)) (ed_cons ed_dict ed_nil))))))))))) (by simp [odd1])
    have t2 : ∀ {o : Option V}, EvDt p q (tLst _) [some (.ref p), some (.int r), some (.int z), o] (.list (odd2 r)) := fun {o} => ed_lst (ed_cons (ed_tup (ed_cons (ed_int (i := 1) rfl) (ed_cons cb (ed_cons c0 ed_nil))) (by simp)) (ed_cons (ed_tup (ed_cons (ed_int (i := 1) rfl) (ed_cons cb ed_nil)) (by simp)) (ed_cons (ed_tup (ed_cons (ed_int (i := 1) rfl) (ed_cons cs ed_nil)) (by simp))
      (ed_cons (ed_tup (ed_cons (ed_int (i := 1) rfl) (ed_cons pow (ed_cons c0 ed_nil))) (by simp)) (ed_cons (ed_tup (ed_cons (ed_tup (ed_cons (ed_int (i := 1) rfl) (ed_cons c0 ed_nil)) (by simp)) ed_nil) (by simp)) ed_nil))))) (by simp [odd2])
    have t3 : ∀ {o : Option V}, EvDt p q (tLst _) [some (.ref p), some (.int r), some (.int z), o] (.list (odd3 r z)) := fun {o} => ed_lst (ed_cons (ed_tup (ed_cons (ed_int (i := 1) rfl) (ed_cons (ed_int (i := 1) rfl) (ed_cons c0 ed_nil))) (by simp)) (ed_cons (ed_tup (ed_cons (ed_int (i := 1) rfl) (ed_cons c0 (ed_cons c0 ed_nil))) (by simp)) (ed_cons (ed_tup (ed_cons (ed_int (i := 1) rfl) (ed_cons cn (ed_cons c0 ed_nil))) (by simp))
      (ed_cons (ed_tup (ed_cons (ed_int (i := 2) rfl) (ed_cons c0 ed_nil)) (by simp)) (ed_cons (ed_tup (ed_cons (ed_int (i := 1) rfl) (ed_cons (ed_tup (ed_cons c0 ed_nil) (by simp)) ed_nil)) (by simp)) (ed_cons (ed_lst ed_nil (by simp)) (ed_cons cs (ed_cons c0 ed_nil)))))))) (by simp [odd3])
    refine q_asgD t1 hP fun G1 H1 v1 g1 hv1 => ?_
    refine q_catD (ds := odd1 r z) G1 rfl hv1 t2 (by simp [odd1, odd2]) g1.pl fun G2 H2 v2 g2 hv2 => ?_
    refine q_catD (ds := odd1 r z ++ odd2 r) G2 rfl hv2 t3 (by simp [odd1, odd2, odd3]) g2.pl fun G3 H3 v3 g3 hv3 => ?_
    have g13 := (g1.trans g2).trans g3
    generalize hds : (odd1 r z ++ odd2 r) ++ odd3 r z = ds at hv3
    have hall : ∀ d ∈ ds, OddI d := fun d hd => oddB_ok (List.all_eq_true.mp (odd_all r z) d (by rw [hds]; exact hd))
    have hdl : ds.length = 24 := by rw [← hds]; simp [odd1, odd2, odd3]
    cases hv3 with
    | lst a1 a2 =>
      rename_i a xs
      have la := a2.length
      have hA := g3.pl.ex _ _ a1
      refine ⟨.ref a, rfl, .ref p, rfl, .ref a, rfl, a, xs, rfl, .inl (sq_of hA), Hd H3 p q, p, q, _, rfl, g3.pl.hd, by omega, by omega, fun H4 y hP0 hy0 hy1 => ?_⟩
      obtain ⟨m, rfl⟩ : ∃ m : Nat, y = (m : Int) := ⟨y.toNat, by omega⟩
      have hm : m < xs.length := by omega
      have hxm : xs[m]? = some xs[m] := List.getElem?_eq_getElem hm
      obtain ⟨d, ed, hd⟩ := a2.get hxm
      have gd := Gr.draw g3.pl hP0
      exact ⟨a, xs, (m : Int), xs[m], rfl, rfl, sq_of (gd.pl.ex _ _ a1), atI_nat hxm, k G3 H4 _ d (g13.trans gd) hd (hall d (List.mem_of_getElem? ed))⟩
end
end Wk

set_option Elab.async false
set_option linter.all false
set_option maxRecDepth 100000
set_option maxHeartbeats 2000000
namespace Wk
open PySem PySem.Spec PyProof.Rows L2 Evl
theorem DqA.set {G : Hp} {v : V} {d : PyData} (hv : Dq G v d) : ∀ {ds : List PyData} {vs : List V} (i : Nat), DqA G vs ds → DqA G (vs.set i v) (ds.set i d)
  | [], _, i, .nil => by simp; exact .nil
  | _ :: _, _, 0, .cons h t => .cons hv t
  | _ :: _, _, i + 1, .cons h t => .cons h (DqA.set hv i t)
theorem DqA.erase {G : Hp} : ∀ {ds : List PyData} {vs : List V} (i : Nat), DqA G vs ds → DqA G (vs.eraseIdx i) (ds.eraseIdx i)
  | [], _, i, .nil => by simp; exact .nil
  | _ :: _, _, 0, .cons h t => t
  | _ :: _, _, i + 1, .cons h t => .cons h (DqA.erase i t)
theorem layAll : ∀ {ds : List PyData}, PyData.canLayAll0 ds = true ↔ ∀ d ∈ ds, d.canLay0 = true
  | [] => by simp [PyData.canLayAll0]
  | d :: ds => by
    have ih := layAll (ds := ds)
    simp [PyData.canLayAll0, ih]
theorem depAll {k : Nat} : ∀ {ds : List PyData}, PyData.depthAll ds ≤ k ↔ ∀ d ∈ ds, d.depth ≤ k
  | [] => by simp [PyData.depthAll]
  | d :: ds => by
    have ih := depAll (k := k) (ds := ds)
    simp only [PyData.depthAll, List.mem_cons, forall_eq_or_imp, ← ih]
    omega
/-- a tuple that stands is kept -/
theorem keep_tup {It : PyData → Prop} {m : Nat} {G H : Hp} {p q R t : Addr} {rs : List Addr} {xs : List V} {ds : List PyData} (hP : Pl G H p q) (hW : Rw It m G H p q R rs) (ht : H t = some (.tup xs)) (hd : DqA G xs ds) :
    ∃ G', Ex G G' ∧ Pl G' H p q ∧ Rw It m G' H p q R rs ∧ Dq G' (.ref t) (.tuple ds) := by
  obtain ⟨n, cs, h1, h2, _⟩ := hP.at_
  have np : t ≠ p := fun z => by rw [z, h1] at ht; cases ht
  have nq : t ≠ q := fun z => by rw [z, h2] at ht; cases ht
  cases hg : G t with
  | some o =>
    have e := hP.ex _ _ hg
    rw [ht] at e
    cases e
    exact ⟨G, Ex.refl _, hP, hW, .tup hg hd⟩
  | none =>
    have e : Ex G (upd G t (.tup xs)) := Ex.new hg
    refine ⟨upd G t (.tup xs), e, hP.hold ht np nq, hW.grow e ?_ ?_, .tup upd_same (hd.mono e)⟩
    · have nR : R ≠ t := fun z => by rw [← z, hW.at_] at ht; cases ht
      rw [upd_ne nR]
      exact hW.gR
    · intro r hr
      obtain ⟨g, _, _, vs, es, h3, _⟩ := hW.row r hr
      have nr : r ≠ t := fun z => by rw [← z, h3] at ht; cases ht
      rw [upd_ne nr]
      exact g
/-- an item is put into a row -/
theorem ins_row {It : PyData → Prop} {m : Nat} {G H : Hp} {p q R r : Addr} {rs : List Addr} {vs : List V} {ds : List PyData} {v : V} {d : PyData} {i : Nat} (hP : Pl G H p q) (hW : Rw It m G H p q R rs) (hr : r ∈ rs) (hd : DqA G vs ds) (hl : ds.length ≤ m) (hi : ∀ d ∈ ds, It d) (hv : Dq G v d) (hd1 : It d) :
    Pl G (upd H r (.lst (vs.take i ++ [v] ++ vs.drop i))) p q ∧ Rw It (m + 1) G (upd H r (.lst (vs.take i ++ [v] ++ vs.drop i))) p q R rs := by
  obtain ⟨g, rp, rq, _⟩ := hW.row r hr
  refine ⟨hP.mut g rp rq, (hW.imp (fun _ h => h) (Nat.le_succ m)).mut hr (((hd.take i).append (.cons hv .nil)).append (hd.drop i)) ?_ fun x hx => ?_⟩
  · simp
    omega
  · rcases List.mem_append.mp hx with z | z
    · rcases List.mem_append.mp z with z | z
      · exact hi x (List.mem_of_mem_take z)
      · rw [List.mem_singleton.mp z]; exact hd1
    · exact hi x (List.mem_of_mem_drop z)
theorem wayI_odd {d : PyData} (h : WayI d) : OddI d := by
  obtain ⟨ns, rfl, h1, h2⟩ := h
  refine ⟨.inr ⟨by simp [PyData.canLay0, lay_ints], by simp [PyData.depth, depth_ints]⟩, fun ds e => ?_⟩
  cases e
  simp
  omega
theorem odd_cut {es ms : List PyData} {i : Nat} (h : OddI (.tuple es)) (hi : i < es.length) (hm : ms.length ≤ 1) (hp : ∀ d ∈ ms, d.canLay0 = true ∧ d.depth = 0) : OddI (.tuple (es.take i ++ ms ++ es.drop (i + 1))) := by
  obtain ⟨h1, h2⟩ := h
  have hl := h2 es rfl
  rcases h1 with z | ⟨z1, z2⟩
  · cases z
  · have z1' : PyData.canLayAll0 es = true := by simpa [PyData.canLay0] using z1
    have z2' : PyData.depthAll es ≤ 7 := by simp only [PyData.depth] at z2; omega
    have key : ∀ d ∈ es.take i ++ ms ++ es.drop (i + 1), d.canLay0 = true ∧ d.depth ≤ 7 := fun d hd => by
      rcases List.mem_append.mp hd with z | z
      · rcases List.mem_append.mp z with z | z
        · exact ⟨layAll.mp z1' d (List.mem_of_mem_take z), depAll.mp z2' d (List.mem_of_mem_take z)⟩
        · exact ⟨(hp d z).1, by rw [(hp d z).2]; omega⟩
      · exact ⟨layAll.mp z1' d (List.mem_of_mem_drop z), depAll.mp z2' d (List.mem_of_mem_drop z)⟩
    refine ⟨.inr ⟨?_, ?_⟩, fun ds e => ?_⟩
    · simp only [PyData.canLay0]
      exact layAll.mpr fun d hd => (key d hd).1
    · have := depAll.mpr fun d hd => (key d hd).2
      simp only [PyData.depth]
      omega
    · cases e
      simp
      omega
theorem cut_from (xs : List V) (i : Nat) (h : i ≤ xs.length) : cutV xs (some (i : Int)) none = xs.drop i := by
  unfold cutV
  rw [HT.sIx_nat, HT.sIx_none, Nat.min_eq_left h]
  exact List.take_of_length_le (by simp)
section
variable {P : Program} {w : World} {K : PySem.W.Frag} {mg : Str → Option Value} {base : Heap} {f : Addr} {fd : FuncData}
/-! _law_edit -/
def spEdit : Sp := fun vs H Q _ => ∃ (G : Hp) (p q R : Addr) (rs : List Addr) (m : Nat), vs = [.ref p, .ref R] ∧ Pl G H p q ∧ Rw OddI m G H p q R rs ∧ 2 ≤ rs.length ∧ rs.length ≤ 8 ∧ m ≤ 100 ∧ ∀ G' H', Ex G G' → Pl G' H' p q → Rw OddI (m + 8) G' H' p q R rs → Q .non H'
abbrev sEdit : Stmt := top 30
abbrev nEdit : List Str := ["_law_pool_here", "_law_rows", "_law_size", "_law_router", "_law_kind", "_law_row", "_law_at", "_law_way", "_law_k", "_law_place", "_law_middle"]
theorem scEdit : FnScope nEdit ["_law_pool_here", "_law_rows"] (defScope sEdit) := ⟨rfl, rfl, rfl, by decide +kernel, rfl, by decide +kernel, by decide +kernel⟩
theorem ok_edit (B : Bl mg) (C : Cal P w K mg base "_law_draw" ["_law_pool_here", "_law_size"] 1 spDraw) (C2 : Cal P w K mg base "_law_odd" ["_law_pool_here", "_law_router", "_law_size"] 2 spOdd) (F : FnP K "_law_edit" sEdit f fd) : FnOk P w K mg base CX0 3 f fd ["_law_pool_here", "_law_rows"] spEdit := by
  refine F.ok scEdit (fun vs H Q E h => ?_) (fun cdv A outer s H vs Q E hr h => ?_)
  · obtain ⟨G, p, q, R, rs, m, rfl, _⟩ := h
    rfl
  · obtain ⟨G, p, q, R, rs, m, rfl, hP, hW, hn2, hn8, hm, k⟩ := h
    have hu : (A.deeper (envOfC "_law_edit" (defScope sEdit) s.heap.objs.size f cdv)).units + 66 < cLine := by have := hr.un; omega
    have hu0 : (A.deeper (envOfC "_law_edit" (defScope sEdit) s.heap.objs.size f cdv)).units < cLine := by omega
    have hr1 : Room 1 _ := hr.mono (by decide)
    refine ⟨_, pss_cons (ps_set (i := 2) scEdit.nd rfl (Or.inl rfl) (pe_callB call_len_seq (by rfl) B.len PySem.boot_len (pa_cons (pv 1) pa_nil)))
      (pss_cons (ps_set (i := 3) scEdit.nd rfl (Or.inl rfl) (pe_cal C hr1 (by rfl) (pa_cons (pv 0) (pa_cons (pv 2) pa_nil))))
      (pss_cons (ps_set (i := 4) scEdit.nd rfl (Or.inl rfl) (pe_cal C hr1 (by rfl) (pa_cons (pv 0) (pa_cons pe_int pa_nil))))
      (pss_cons (ps_set (i := 5) scEdit.nd rfl (Or.inl rfl) (pe_ix ix_list (pv 1) (pv 3) (fun _ _ => rfl)))
      (pss_cons (ps_set (i := 6) scEdit.nd rfl (Or.inl rfl) (pe_cal C hr1 (by rfl) (pa_cons (pv 0) (pa_cons (pe_op op_add (pe_callB call_len_seq (by rfl) B.len PySem.boot_len (pa_cons (pv 5) pa_nil)) pe_int) pa_nil))))
      (pss_cons (ps_if (PW.pt (pw_or (pt_cmpR (op_eqEL hu0) (pv 5) (pe_lst pa_nil) (nomark _)) (pw_or1 (pt_cmpR op_eq (pv 4) pe_int (nomark _)))))
          (pss_cons (ps_expr (pe_bm PySem.F.plainAttrs_list PySem.F.slot_list_insert PySem.F.type_list_insert mt_insert (pv 5) (pa_cons (pv 6) (pa_cons (pe_cal C2 hr (by rfl) (pa_cons (pv 0) (pa_cons (pv 3) (pa_cons (pv 2) pa_nil)))) pa_nil)))) (pss_one ps_retN)) pss_nil)
      (pss_cons (ps_set (i := 7) scEdit.nd rfl (Or.inl rfl) (pe_ix ix_list (pv 5) (pe_op op_mod (pe_callTy call_int1 (by rfl) B.int PyProof.Rows.boot_int (pa_cons (pv 6) pa_nil)) (pe_callB call_len_seq (by rfl) B.len PySem.boot_len (pa_cons (pv 5) pa_nil))) (fun _ _ => rfl)))
      (pss_one (ps_if (pt_cmpR op_eq (pv 4) pe_int (nomark _))
        (pss_one (ps_expr (pe_bm PySem.F.plainAttrs_list PySem.F.slot_list_pop PySem.F.type_list_pop mt_popAt (pv 5) (pa_cons (pe_op op_mod (pe_callTy call_int1 (by rfl) B.int PyProof.Rows.boot_int (pa_cons (pv 6) pa_nil)) (pe_callB call_len_seq (by rfl) B.len PySem.boot_len (pa_cons (pv 5) pa_nil))) pa_nil))))
      (pss_one (ps_if (pt_cmpR op_eq (pv 4) pe_int (nomark _))
        (pss_one (ps_expr (pe_bm PySem.F.plainAttrs_list PySem.F.slot_list_insert PySem.F.type_list_insert mt_insert (pv 5) (pa_cons (pv 6) (pa_cons (pe_ix ix_list (pv 5) (pe_cal C hr1 (by rfl) (pa_cons (pv 0) (pa_cons (pe_callB call_len_seq (by rfl) B.len PySem.boot_len (pa_cons (pv 5) pa_nil)) pa_nil))) (fun _ _ => rfl)) pa_nil)))))
      (pss_one (ps_if (pt_cmpR op_eq (pv 4) pe_int (nomark _))
        (pss_one (ps_expr (pe_bm PySem.F.plainAttrs_list PySem.F.slot_list_insert PySem.F.type_list_insert mt_insert (pv 5) (pa_cons (pv 6) (pa_cons (pe_ix ix_list (pe_op op_cat (pe_ix ix_list (pv 1) (pe_cal C hr1 (by rfl) (pa_cons (pv 0) (pa_cons (pv 2) pa_nil))) (fun _ _ => rfl)) (pe_lst (pa_cons (pe_tup (pa_cons (pv 3) pa_nil)) pa_nil))) pe_int (fun _ _ => rfl)) pa_nil)))))
      (pss_one (ps_if (pt_cmpR op_eq (pv 4) pe_int (nomark _))
        (pss_one (ps_for (passes_of rfl) rfl (pi_range2 (by rfl) B.range (pa_cons pe_int (pa_cons (pv 2) pa_nil))) (pg_name (i := 8) scEdit.nd rfl (Or.inl rfl))
          (pss_one (ps_if (PW.pt (pw_and (pt_cmpR op_ne (pv 8) (pv 3) (nomark _)) (pw_and1 (pt_cmpR (op_notInX hu) (pe_tup (pa_cons (pv 3) (pa_cons (pv 8) (pa_cons pe_int pa_nil)))) (pv 5) rfl))))
            (pss_one (ps_expr (pe_bm PySem.F.plainAttrs_list PySem.F.slot_list_append PySem.F.type_list_append mt_append (pv 5) (pa_cons (pe_tup (pa_cons (pv 3) (pa_cons (pv 8) (pa_cons pe_int pa_nil)))) pa_nil)))) pss_nil))))
      (pss_one (ps_if (PW.pt (pw_or (pt_not (pt_val (pe_callB call_isi (by rfl) B.isi boot_isinstance (pa_cons (pv 7) (pa_cons (pe_bltn (v := .ty "tuple") (by rfl) B.tuple PyProof.Rows.boot_tuple rfl) pa_nil))))) (pw_or1 (pt_cmpR (op_eqEU hu0) (pv 7) (pe_tup pa_nil) (nomark _)))))
        (pss_one (ps_expr (pe_bm PySem.F.plainAttrs_list PySem.F.slot_list_insert PySem.F.type_list_insert mt_insert (pv 5) (pa_cons (pv 6) (pa_cons (pe_cal C2 hr (by rfl) (pa_cons (pv 0) (pa_cons (pv 3) (pa_cons (pv 2) pa_nil)))) pa_nil)))))
        (pss_cons (ps_set (i := 9) scEdit.nd rfl (Or.inl rfl) (pe_cal C hr1 (by rfl) (pa_cons (pv 0) (pa_cons (pe_callB call_len_seq (by rfl) B.len PySem.boot_len (pa_cons (pv 7) pa_nil)) pa_nil))))
        (pss_cons (ps_set (i := 10) scEdit.nd rfl (Or.inl rfl) (pe_tup pa_nil))
        (pss_cut (ps_if (pt_cmpR op_eq (pv 4) pe_int (nomark _)) (pss_one (ps_set (i := 10) scEdit.nd rfl (Or.inl rfl) (pe_tup (pa_cons (pe_cal C hr1 (by rfl) (pa_cons (pv 0) (pa_cons (pe_op op_add (pv 2) pe_int) pa_nil))) pa_nil)))) pss_nil)
        (pss_cut (ps_if (pt_cmpR op_eq (pv 4) pe_int (nomark _)) (pss_one (ps_set (i := 10) scEdit.nd rfl (Or.inl rfl) (pe_tup (pa_cons (pe_cmpR op_eq (pe_cal C hr1 (by rfl) (pa_cons (pv 0) (pa_cons pe_int pa_nil))) pe_int (nomark _)) pa_nil)))) pss_nil)
        (pss_one (ps_asg (pe_op op_catA (pe_op op_catA (pe_slice sl_tupA (pv 7) po_none (po_some (pv 9))) (pv 10)) (pe_slice sl_tupA (pv 7) (po_some (pe_op op_add (pv 9) pe_int)) po_none))
          (pg_sub (pv 5) (pe_op op_mod (pe_callTy call_int1 (by rfl) B.int PyProof.Rows.boot_int (pa_cons (pv 6) pa_nil)) (pe_callB call_len_seq (by rfl) B.len PySem.boot_len (pa_cons (pv 5) pa_nil))) set_list))))))))))))))))))))))), ?_⟩
    have hlen0 : Ev (tCB (rLenS K) (tCons (tVar 1) tNil)) (start nEdit [.ref p, .ref R]) H (.int (rs.length : Int)) := by
      have q := ev_len (K := K) (ta := tVar 1) (σ := start nEdit [.ref p, .ref R]) (H := H) (ev_var rfl) (sq_of hW.at_)
      rw [List.length_map] at q
      exact q
    refine q_asg hlen0 fun H0 e0 => ?_
    have hP0 := hP.ext e0
    have hW0 := hW.ext e0
    refine ⟨.ref p, rfl, .int (rs.length : Int), rfl, Hd H0 p q, p, q, _, rfl, hP0.hd, by omega, by omega, fun H1 rr hp1 hr0 hr1 => ?_⟩
    have hP1 := hP0.back hp1
    have hW1 := hW0.off hp1.off
    refine g_name ?_
    refine ⟨.ref p, rfl, Hd H1 p q, p, q, 8, rfl, hP1.hd, by decide, by decide, fun H2 kd hp2 hk0 hk1 => ?_⟩
    have hP2 := hP1.back hp2
    have hW2 := hW1.off hp2.off
    refine g_name ?_
    obtain ⟨rn, rfl⟩ : ∃ m : Nat, rr = (m : Int) := ⟨rr.toNat, by omega⟩
    have hrl : rn < rs.length := by omega
    have hrr : (rs.map V.ref)[rn]? = some (.ref rs[rn]) := by rw [List.getElem?_map, List.getElem?_eq_getElem hrl]; rfl
    have hrm : rs[rn] ∈ rs := List.getElem_mem hrl
    generalize rs[rn] = r at *
    refine ⟨.ref R, rfl, .int (rn : Int), rfl, R, _, _, .ref r, rfl, rfl, sq_of hW2.at_, atI_nat hrr, ?_⟩
    refine g_name ?_
    obtain ⟨gr, rp, rq, vs, ds, h1, hd, hl, hi⟩ := hW2.row r hrm
    have lv := hd.length
    refine ⟨.ref p, rfl, .ref r, rfl, r, vs, rfl, .inl (sq_of h1), _, 1, rfl, rfl, Hd H2 p q, p, q, _, rfl, hP2.hd, by omega, by omega, fun H3 a6 hp3 ha0 ha1 => ?_⟩
    have hP3 := hP2.back hp3
    have hW3 := hW2.off hp3.off
    have h13 := hp3.off _ _ rp rq h1
    refine g_name ?_
    clear hP2 hW2 hP1 hW1 hP0 hW0 hlen0 hp1 hp2 hp3 h1
    change tSeq _ _ _ [some (.ref p), some (.ref R), some (.int (rs.length : Int)), some (.int (rn : Int)), some (.int kd), some (.ref r), some (.int a6), none, none, none, none] H3
    have heq : Ev (tOp (rEqEL K) (tVar 5) (tLst tNil)) [some (.ref p), some (.ref R), some (.int (rs.length : Int)), some (.int (rn : Int)), some (.int kd), some (.ref r), some (.int a6), none, none, none, none] H3 (.bl vs.isEmpty) :=
      ev_opL (ev_var rfl) (el_lst ea_nil (by simp)) fun b H4 hb e4 => fun H5 e5 Q2 q => ⟨r, b, vs, rfl, rfl, sq_of ((e4.trans e5) _ _ h13), sq_of (e5 _ _ hb), q H5 (Ex.refl H5)⟩
    refine q_when (b := vs.isEmpty || decide (V.int kd = V.int 0)) (et_or (et_test heq) fun _ => et_test (ev_op (ev_var rfl) ev_c (rv_eq rfl))) (fun hb H4 e4 => ?_) (fun hb H4 e4 => ?_)
    · have hP4 := hP3.ext e4
      have hW4 := hW3.ext e4
      have h14 := e4 _ _ h13
      refine ⟨.ref r, rfl, .inl ⟨rfl, _, sq_of h14⟩, .int a6, rfl, .ref p, rfl, .int (rn : Int), rfl, .int (rs.length : Int), rfl, G, p, q, _, _, rfl, hP4, fun G5 H5 v d g5 hv hod => ?_⟩
      have h15 := g5.off _ _ rp rq h14
      have hW5 := hW4.gr g5
      obtain ⟨f1, f2⟩ := ins_row (i := a6.toNat) g5.pl hW5 hrm (hd.mono g5.ex) hl hi hv hod
      exact ⟨r, vs, a6, v, rfl, rfl, h15, by rw [sizeLine_eq]; omega, ha0, by omega, k G5 _ g5.ex f1 (f2.imp (fun _ h => h) (by omega))⟩
    have hP4 := hP3.ext e4
    have hW4 := hW3.ext e4
    have h14 := e4 _ _ h13
    simp only [Bool.or_eq_false_iff, List.isEmpty_eq_false_iff] at hb
    have hvp : 0 < vs.length := List.length_pos_iff.mpr hb.1
    have hmod := modP a6 (vs.length : Int) (by omega)
    obtain ⟨j, hj⟩ : ∃ j : Nat, a6 % (vs.length : Int) = (j : Int) := ⟨(a6 % (vs.length : Int)).toNat, by omega⟩
    have hjl : j < vs.length := by omega
    have hvj : vs[j]? = some vs[j] := List.getElem?_eq_getElem hjl
    obtain ⟨dj, edj, hdj⟩ := hd.get hvj
    have hdm : dj ∈ ds := List.mem_of_getElem? edj
    have hodj := hi dj hdm
    generalize vs[j] = vj at *
    refine ⟨.ref r, rfl, .int a6, rfl, .inl ⟨a6, rfl, .ref r, rfl, r, vs, rfl, .inl (sq_of h14), a6, (vs.length : Int), rfl, rfl, by omega, r, vs, a6 % (vs.length : Int), vj, rfl, rfl, sq_of h14, by rw [hj]; exact atI_nat hvj, ?_⟩⟩
    refine g_name ?_
    clear hP3 hW3 h13 heq
    dsimp only
    change tIfS _ _ _ _ [some (.ref p), some (.ref R), some (.int (rs.length : Int)), some (.int (rn : Int)), some (.int kd), some (.ref r), some (.int a6), some vj, none, none, none] H4
    refine s_if (b := decide (V.int kd = V.int 1)) (et_test (ev_op (ev_var rfl) ev_c (rv_eq rfl))) (fun _ H5 e5 => ?_) (fun _ H5 e5 => ?_)
    · have h15 := e5 _ _ h14
      refine ⟨.ref r, rfl, .inl ⟨rfl, _, sq_of h15⟩, .int a6, rfl, .inl ⟨a6, rfl, .ref r, rfl, r, vs, rfl, .inl (sq_of h15), a6, (vs.length : Int), rfl, rfl, by omega, r, vs, a6 % (vs.length : Int), j, vj, rfl, rfl, h15, by omega, by omega, by rw [hj]; exact seqIx hjl, hvj, ?_⟩⟩
      exact k G _ (Ex.refl _) ((hP4.ext e5).mut gr rp rq) (((hW4.ext e5).mut hrm (hd.erase j) (Nat.le_trans (List.length_eraseIdx_le _ _) hl) fun x hx => hi x (List.mem_of_mem_eraseIdx hx)).imp (fun _ h => h) (by omega))
    have hP5 := hP4.ext e5
    have hW5 := hW4.ext e5
    have h15 := e5 _ _ h14
    clear hP4 hW4 h14
    refine s_if (b := decide (V.int kd = V.int 2)) (et_test (ev_op (ev_var rfl) ev_c (rv_eq rfl))) (fun _ H6 e6 => ?_) (fun _ H6 e6 => ?_)
    · have h16 := e6 _ _ h15
      have hP6 := hP5.ext e6
      refine ⟨.ref r, rfl, .inl ⟨rfl, _, sq_of h16⟩, .int a6, rfl, .ref r, rfl, .ref p, rfl, .ref r, rfl, r, vs, rfl, .inl (sq_of h16), Hd H6 p q, p, q, _, rfl, hP6.hd, by omega, by omega, fun H7 y hp7 hy0 hy1 => ?_⟩
      obtain ⟨u, rfl⟩ : ∃ u : Nat, y = (u : Int) := ⟨y.toNat, by omega⟩
      have hul : u < vs.length := by omega
      have hvu : vs[u]? = some vs[u] := List.getElem?_eq_getElem hul
      obtain ⟨du, edu, hdu⟩ := hd.get hvu
      have hP7 := hP6.back hp7
      have hW7 := (hW5.ext e6).off hp7.off
      have h17 := hp7.off _ _ rp rq h16
      obtain ⟨f1, f2⟩ := ins_row (i := a6.toNat) hP7 hW7 hrm hd hl hi hdu (hi du (List.mem_of_getElem? edu))
      exact ⟨r, vs, (u : Int), vs[u], rfl, rfl, sq_of h17, atI_nat hvu, r, vs, a6, vs[u], rfl, rfl, h17, by rw [sizeLine_eq]; omega, ha0, by omega, k G _ (Ex.refl _) f1 (f2.imp (fun _ h => h) (by omega))⟩
    have hP6 := hP5.ext e6
    have hW6 := hW5.ext e6
    have h16 := e6 _ _ h15
    clear hP5 hW5 h15
    refine s_if (b := decide (V.int kd = V.int 3)) (et_test (ev_op (ev_var rfl) ev_c (rv_eq rfl))) (fun _ H7 e7 => ?_) (fun _ H7 e7 => ?_)
    · have h17 := e7 _ _ h16
      have hP7 := hP6.ext e7
      have hW7 := hW6.ext e7
      refine ⟨.ref r, rfl, .inl ⟨rfl, _, sq_of h17⟩, .int a6, rfl, .ref R, rfl, .ref p, rfl, .int (rs.length : Int), rfl, Hd H7 p q, p, q, _, rfl, hP7.hd, by omega, by omega, fun H8 y hp8 hy0 hy1 => ?_⟩
      obtain ⟨u, rfl⟩ : ∃ u : Nat, y = (u : Int) := ⟨y.toNat, by omega⟩
      have hul : u < rs.length := by omega
      have hru : (rs.map V.ref)[u]? = some (.ref rs[u]) := by rw [List.getElem?_map, List.getElem?_eq_getElem hul]; rfl
      have hum : rs[u] ∈ rs := List.getElem_mem hul
      generalize rs[u] = r2 at *
      have hP8 := hP7.back hp8
      have hW8 := hW7.off hp8.off
      have h18 := hp8.off _ _ rp rq h17
      obtain ⟨gr2, rp2, rq2, vs2, ds2, h28, hd2, hl2, hi2⟩ := hW8.row r2 hum
      have lv2 := hd2.length
      refine ⟨R, _, (u : Int), .ref r2, rfl, rfl, sq_of hW8.at_, atI_nat hru, .int (rn : Int), rfl, by show 1 ≤ sizeLine; decide, fun t ht => ⟨by show 1 ≤ sizeLine; decide, fun b hb => ?_⟩⟩
      have gt := fresh_back hP8.ex ht
      have hP9 := hP8.new (o := .tup [V.int (rn : Int)]) ht
      have hW9 := hW8.new (o := .tup [V.int (rn : Int)]) ht gt
      have e9 : Ex H8 (upd H8 t (.tup [V.int (rn : Int)])) := Ex.new ht
      have e10 := Ex.new (o := .lst [V.ref t]) hb
      have eg : Ex G (upd G t (.tup [V.int (rn : Int)])) := Ex.new gt
      have hdd : DqA (upd G t (.tup [V.int (rn : Int)])) (vs2 ++ [.ref t]) (ds2 ++ [.tuple [.int (rn : Int)]]) := (hd2.mono eg).append (.cons (.tup upd_same (.cons (.int _) .nil)) .nil)
      have hod : ∀ d ∈ ds2 ++ [PyData.tuple [.int (rn : Int)]], OddI d := fun d hd => by
        rcases List.mem_append.mp hd with z | z
        · exact hi2 d z
        · rw [List.mem_singleton.mp z]
          exact oddB_ok (by simp [oddB, PyData.canLayAll0, PyData.canLay0, PyData.depthAll, PyData.depth])
      generalize upd G t (.tup [V.int (rn : Int)]) = G9 at *
      refine ⟨r2, b, vs2, [.ref t], rfl, rfl, e10 _ _ (e9 _ _ h28), upd_same, by rw [sizeLine_eq]; show vs2.length + 1 ≤ _; omega, fun c hc => ?_⟩
      have e11 := Ex.new (o := .lst (vs2 ++ [V.ref t])) hc
      have hx0 : (vs2 ++ [V.ref t])[0]? = some (vs2 ++ [V.ref t])[0] := List.getElem?_eq_getElem (by simp)
      obtain ⟨d0, ed0, hd0⟩ := hdd.get hx0
      obtain ⟨f1, f2⟩ := ins_row (i := a6.toNat) ((hP9.ext e10).ext e11) ((hW9.ext e10).ext e11) hrm (hd.mono eg) hl hi hd0 (hod d0 (List.mem_of_getElem? ed0))
      exact ⟨c, _, 0, _, rfl, rfl, sq_of upd_same, atI_nat (j := 0) hx0, r, vs, a6, _, rfl, rfl, e11 _ _ (e10 _ _ (e9 _ _ h18)), by rw [sizeLine_eq]; omega, ha0, by omega, k G9 _ eg f1 (f2.imp (fun _ h => h) (by omega))⟩
    have hP7 := hP6.ext e7
    have hW7 := hW6.ext e7
    have h17 := e7 _ _ h16
    clear hP6 hW6 h16
    refine s_if (b := decide (V.int kd = V.int 4)) (et_test (ev_op (ev_var rfl) ev_c (rv_eq rfl))) (fun _ H8 e8 => ?_) (fun _ H8 e8 => ?_)
    · refine s_forR2 (ea_cons ev_c (ea_cons (ev_var rfl) ea_nil)) (by omega) (fun i σ' H' => ∃ (G' : Hp) (o : Option V), σ' = [some (.ref p), some (.ref R), some (.int (rs.length : Int)), some (.int (rn : Int)), some (.int kd), some (.ref r), some (.int a6), some vj, o, none, none] ∧ Ex G G' ∧ Pl G' H' p q ∧ Rw OddI (m + i) G' H' p q R rs)
        (fun H9 e9 => ⟨G, none, rfl, Ex.refl _, (hP7.ext e8).ext e9, (hW7.ext e8).ext e9⟩) ?_ (fun σ' H' ⟨G', o, _, eG', hP', hW'⟩ => k G' H' eG' hP' (hW'.imp (fun _ h => h) (by omega)))
      rintro i σ' H9 hi9 ⟨G9, o, rfl, eG9, hP9, hW9⟩
      change tIfS _ _ _ _ [some (.ref p), some (.ref R), some (.int (rs.length : Int)), some (.int (rn : Int)), some (.int kd), some (.ref r), some (.int a6), some vj, some (.int (1 + (i : Int))), none, none] H9
      obtain ⟨gr9, _, _, vs9, ds9, h19, hd9, hl9, hi9'⟩ := hW9.row r hrm
      have lv9 := hd9.length
      refine ⟨.int (1 + (i : Int)), rfl, .int (rn : Int), rfl, rfl, _, rfl, ?_⟩
      refine ite2 (fun _ => ?_) (fun _ => ⟨G9, _, rfl, eG9, hP9, hW9.imp (fun _ h => h) (by omega)⟩)
      refine ⟨.int (rn : Int), rfl, .int (1 + (i : Int)), rfl, by show 3 ≤ sizeLine; decide, fun t ht => ?_⟩
      have e10 := Ex.new (o := .tup [V.int (rn : Int), .int (1 + (i : Int)), .int 0]) ht
      refine ⟨.ref r, rfl, t, r, ds9, vs9, [.int (rn : Int), .int (1 + (i : Int)), .int 0], rfl, rfl, e10 _ _ h19, hd9.mono (hP9.ex.trans e10), fun d hd => (hi9' d hd).1, .tup upd_same (.cons (.int _) (.cons (.int _) (.cons (.int _) .nil))), by simp [PyData.canLay0, PyData.canLayAll0], fun bb => ⟨bb, rfl, ?_⟩⟩
      have hP10 := hP9.ext e10
      have hW10 := hW9.ext e10
      have h110 := e10 _ _ h19
      refine ite2 (fun _ => ?_) (fun _ => ⟨G9, _, rfl, eG9, hP10, hW10.imp (fun _ h => h) (by omega)⟩)
      refine ⟨.ref r, rfl, .inl ⟨rfl, _, sq_of h110⟩, .int (rn : Int), rfl, .int (1 + (i : Int)), rfl, by show 3 ≤ sizeLine; decide, fun t2 ht2 => ?_⟩
      have gt2 := fresh_back hP10.ex ht2
      have hP11 := hP10.new (o := .tup [V.int (rn : Int), .int (1 + (i : Int)), .int 0]) ht2
      have hW11 := hW10.new (o := .tup [V.int (rn : Int), .int (1 + (i : Int)), .int 0]) ht2 gt2
      have e11 := Ex.new (o := .tup [V.int (rn : Int), .int (1 + (i : Int)), .int 0]) ht2
      have eg11 := Ex.new (o := .tup [V.int (rn : Int), .int (1 + (i : Int)), .int 0]) gt2
      refine ⟨r, vs9, .ref t2, rfl, rfl, e11 _ _ h110, by rw [sizeLine_eq]; omega, ?_⟩
      refine ⟨upd G9 t2 (.tup [V.int (rn : Int), .int (1 + (i : Int)), .int 0]), _, rfl, eG9.trans eg11, hP11.mut (hW11.row r hrm).1 rp rq, ?_⟩
      refine (hW11.imp (It' := OddI) (m' := m + (i + 1)) (fun _ h => h) (by omega)).mut hrm ((hd9.mono eg11).append (.cons (.tup upd_same (.cons (.int (rn : Int)) (.cons (.int (1 + (i : Int))) (.cons (.int 0) .nil)))) .nil)) (by simp; omega) fun d hd => ?_
      rcases List.mem_append.mp hd with z | z
      · exact hi9' d z
      · rw [List.mem_singleton.mp z]
        exact oddB_ok (by simp [oddB, PyData.canLayAll0, PyData.canLay0, PyData.depthAll, PyData.depth])
    have hP8 := hP7.ext e8
    have hW8 := hW7.ext e8
    have h18 := e8 _ _ h17
    clear hP7 hW7 h17
    have hdj8 := hdj.mono hP8.ex
    refine s_if (b := !isTu dj || (itemsT dj).isEmpty) (et_or (et_not (et_B (ev_isi (ev_var rfl) hdj8 (kit_tup dj)))) fun ht => et_test ?_) (fun _ H9 e9 => ?_) (fun hb9 H9 e9 => ?_)
    · have ht' : isTu dj = true := by simpa using ht
      cases hdj8 <;> first | (simp [isTu] at ht'; done) | skip
      rename_i a xs es hx1 hx2
      refine ev_is (v := .bl xs.isEmpty) (ev_opU (ev_var rfl) (eu_tup ea_nil (by simp)) fun b H9 hb e9 => fun H10 e10 Q2 q => ⟨a, b, xs, rfl, rfl, st_of ((e9.trans e10) _ _ hx1), st_of (e10 _ _ hb), q H10 (Ex.refl H10)⟩) ?_
      have := hx2.length
      show V.bl xs.isEmpty = V.bl es.isEmpty
      cases xs <;> cases es <;> first | rfl | (simp at this; done)
    · have h19 := e9 _ _ h18
      refine ⟨.ref r, rfl, .inl ⟨rfl, _, sq_of h19⟩, .int a6, rfl, .ref p, rfl, .int (rn : Int), rfl, .int (rs.length : Int), rfl, G, p, q, _, _, rfl, hP8.ext e9, fun G5 H5 v d g5 hv hod => ?_⟩
      have h15 := g5.off _ _ rp rq h19
      have hW5 := (hW8.ext e9).gr g5
      obtain ⟨f1, f2⟩ := ins_row (i := a6.toNat) g5.pl hW5 hrm (hd.mono g5.ex) hl hi hv hod
      exact ⟨r, vs, a6, v, rfl, rfl, h15, by rw [sizeLine_eq]; omega, ha0, by omega, k G5 _ g5.ex f1 (f2.imp (fun _ h => h) (by omega))⟩
    have hP9 := hP8.ext e9
    have hW9 := hW8.ext e9
    have h19 := e9 _ _ h18
    clear hP8 hW8 h18 hdj8
    simp only [Bool.or_eq_false_iff, Bool.not_eq_false'] at hb9
    obtain ⟨htj, hej⟩ := hb9
    cases hdj <;> first | (simp [isTu] at htj; done) | skip
    rename_i a xs es hx1 hx2
    have hxl := hx2.length
    have hel : es.length ≤ 20 := hodj.2 es rfl
    have hep : 0 < es.length := by
      cases es with
      | nil => simp [itemsT] at hej
      | cons x l => simp
    refine ⟨.ref p, rfl, .ref a, rfl, a, xs, rfl, .inr (st_of (hP9.ex _ _ hx1)), Hd H9 p q, p, q, _, rfl, hP9.hd, by omega, by omega, fun H10 pl hp10 hpl0 hpl1 => ?_⟩
    have hP10 := hP9.back hp10
    have hW10 := hW9.off hp10.off
    have h110 := hp10.off _ _ rp rq h19
    refine g_name ?_
    obtain ⟨u, rfl⟩ : ∃ u : Nat, pl = (u : Int) := ⟨pl.toNat, by omega⟩
    refine ⟨by show 0 ≤ sizeLine; decide, fun t0 ht0 => ?_⟩
    refine g_name ?_
    have e11 := Ex.new (o := .tup ([] : List V)) ht0
    have hP11 := hP10.ext e11
    have hW11 := hW10.ext e11
    have h111 := e11 _ _ h110
    have ht11 : (upd H10 t0 (.tup ([] : List V))) t0 = some (.tup []) := upd_same
    have n0p := hP10.np ht0
    have n0q := hP10.nq ht0
    generalize upd H10 t0 (.tup ([] : List V)) = H11 at *
    clear hP10 hW10 h110 hP9 hW9 h19 hp10 ht0
    change tCut _ _ _ [some (.ref p), some (.ref R), some (.int (rs.length : Int)), some (.int (rn : Int)), some (.int kd), some (.ref r), some (.int a6), some (.ref a), none, some (.int (u : Int)), some (.ref t0)] H11
    refine q_cut (M := fun σ' H' => ∃ (t : Addr) (ms : List V) (es' : List PyData), σ' = [some (.ref p), some (.ref R), some (.int (rs.length : Int)), some (.int (rn : Int)), some (.int kd), some (.ref r), some (.int a6), some (.ref a), none, some (.int (u : Int)), some (.ref t)] ∧ Pl G H' p q ∧ Rw OddI m G H' p q R rs ∧ H' r = some (.lst vs) ∧ H' t = some (.tup ms) ∧ t ≠ p ∧ t ≠ q ∧ DqA G ms es' ∧ es'.length ≤ 1 ∧ ∀ d ∈ es', d.canLay0 = true ∧ d.depth = 0) ?_ ?_
    · refine s_when (b := decide (V.int kd = V.int 6)) (et_test (ev_op (ev_var rfl) ev_c (rv_eq rfl))) (fun _ H12 e12 => ?_) (fun _ H12 e12 => ⟨t0, [], [], rfl, hP11.ext e12, hW11.ext e12, e12 _ _ h111, e12 _ _ ht11, n0p, n0q, .nil, by simp, by simp⟩)
      have hP12 := hP11.ext e12
      refine ⟨.ref p, rfl, .int (rs.length : Int), rfl, _, 1, rfl, rfl, Hd H12 p q, p, q, _, rfl, hP12.hd, by omega, by omega, fun H13 y hp13 hy0 hy1 => ⟨by show 1 ≤ sizeLine; decide, fun t ht => ?_⟩⟩
      have hP13 := hP12.back hp13
      have e14 := Ex.new (o := .tup [V.int y]) ht
      exact ⟨t, [.int y], [.int y], rfl, hP13.ext e14, ((hW11.ext e12).off hp13.off).ext e14, e14 _ _ (hp13.off _ _ rp rq (e12 _ _ h111)), upd_same, hP13.np ht, hP13.nq ht, .cons (.int y) .nil, by simp, fun d hd => by
        rw [List.mem_singleton.mp hd]
        exact ⟨by simp [PyData.canLay0], by simp [PyData.depth]⟩⟩
    rintro σ' H12 ⟨t, ms, es', rfl, hP12, hW12, h112, ht12, ntp, ntq, hms, hml, hmp⟩
    clear hP11 hW11 h111 ht11 n0p n0q
    refine q_cut (M := fun σ' H' => ∃ (t : Addr) (ms : List V) (es' : List PyData), σ' = [some (.ref p), some (.ref R), some (.int (rs.length : Int)), some (.int (rn : Int)), some (.int kd), some (.ref r), some (.int a6), some (.ref a), none, some (.int (u : Int)), some (.ref t)] ∧ Pl G H' p q ∧ Rw OddI m G H' p q R rs ∧ H' r = some (.lst vs) ∧ H' t = some (.tup ms) ∧ t ≠ p ∧ t ≠ q ∧ DqA G ms es' ∧ es'.length ≤ 1 ∧ ∀ d ∈ es', d.canLay0 = true ∧ d.depth = 0) ?_ ?_
    · refine s_when (b := decide (V.int kd = V.int 7)) (et_test (ev_op (ev_var rfl) ev_c (rv_eq rfl))) (fun _ H13 e13 => ?_) (fun _ H13 e13 => ⟨t, ms, es', rfl, hP12.ext e13, hW12.ext e13, e13 _ _ h112, e13 _ _ ht12, ntp, ntq, hms, hml, hmp⟩)
      have hP13 := hP12.ext e13
      refine ⟨.ref p, rfl, Hd H13 p q, p, q, 2, rfl, hP13.hd, by decide, by decide, fun H14 y hp14 hy0 hy1 => ⟨rfl, by show 1 ≤ sizeLine; decide, fun t2 ht2 => ?_⟩⟩
      have hP14 := hP13.back hp14
      have e15 := Ex.new (o := .tup [V.bl (decide (V.int y = V.int 1))]) ht2
      exact ⟨t2, [.bl (decide (V.int y = V.int 1))], [.bool (decide (V.int y = V.int 1))], rfl, hP14.ext e15, ((hW12.ext e13).off hp14.off).ext e15, e15 _ _ (hp14.off _ _ rp rq (e13 _ _ h112)), upd_same, hP14.np ht2, hP14.nq ht2, .cons (.bl _) .nil, by simp, fun d hd => by
        rw [List.mem_singleton.mp hd]
        exact ⟨by simp [PyData.canLay0], by simp [PyData.depth]⟩⟩
    clear hms hml hmp hP12 hW12 h112 ht12 ntp ntq
    rintro σ' H13 ⟨t, ms, es', rfl, hP13, hW13, h113, ht13, ntp, ntq, hms, hml, hmp⟩
    have hxa := hP13.ex _ _ hx1
    have hml2 := hms.length
    have hul : u < xs.length := by omega
    have vw : Ev (tVar 7) [some (.ref p), some (.ref R), some (.int (rs.length : Int)), some (.int (rn : Int)), some (.int kd), some (.ref r), some (.int a6), some (.ref a), none, some (.int (u : Int)), some (.ref t)] H13 (.ref a) := ev_var rfl
    have hidx : Ev (tOp (rI0 fun i j => .int (i + j)) (tVar 9) (tC (.int 1))) [some (.ref p), some (.ref R), some (.int (rs.length : Int)), some (.int (rn : Int)), some (.int kd), some (.ref r), some (.int a6), some (.ref a), none, some (.int (u : Int)), some (.ref t)] H13 (.int ((u : Int) + 1)) := ev_op (ev_var (i := 9) rfl) ev_c rv_I0
    have hev := es_cat (K := K) (es_cat (K := K) (es_sl (K := K) vw eo_none (eo_some (ev_var (i := 9) rfl)) hxa) (es_var (ev_var (i := 10) rfl) ht13) (by rw [cut_to xs u (by omega)]; simp; omega)) (es_sl (K := K) vw (eo_some hidx) eo_none hxa) (by
      rw [show (u : Int) + 1 = ((u + 1 : Nat) : Int) by omega, cut_to xs u (by omega), cut_from xs (u + 1) (by omega)]
      simp
      omega)
    refine hev H13 (Ex.refl H13) _ fun t2 H14 e14 ht14 => ?_
    rw [show (u : Int) + 1 = ((u + 1 : Nat) : Int) by omega, cut_to xs u (by omega), cut_from xs (u + 1) (by omega)] at ht14
    have hdn : DqA G (xs.take u ++ ms ++ xs.drop (u + 1)) (es.take u ++ es' ++ es.drop (u + 1)) := ((hx2.take u).append hms).append (hx2.drop (u + 1))
    obtain ⟨G14, eG14, hP14, hW14, hv14⟩ := keep_tup (hP13.ext e14) (hW13.ext e14) ht14 hdn
    have h114 := e14 _ _ h113
    refine ⟨.ref r, rfl, .int a6, rfl, .inl ⟨a6, rfl, .ref r, rfl, r, vs, rfl, .inl (sq_of h114), a6, (vs.length : Int), rfl, rfl, by omega, r, vs, a6 % (vs.length : Int), j, rfl, rfl, h114, by rw [hj]; exact Evl.ixN_nat hjl, ?_⟩⟩
    refine k G14 _ eG14 (hP14.mut (hW14.row r hrm).1 rp rq) ((hW14.mut hrm (DqA.set hv14 j (hd.mono eG14)) (by rw [List.length_set]; exact hl) fun d hd => ?_).imp (fun _ h => h) (by omega))
    rcases List.mem_or_eq_of_mem_set hd with z | z
    · exact hi d z
    · rw [z]
      exact odd_cut hodj (by omega) hml hmp
end
end Wk

set_option Elab.async false
set_option linter.all false
set_option maxRecDepth 100000
set_option maxHeartbeats 2000000
namespace Wk
open PySem PySem.Spec PyProof.Rows L2 Evl
theorem call_listK {X : Cx} {K : PySem.W.Frag} (hK : X.K = K) : CallR X (.type "list") (rListS K) := by
  subst hK
  exact call_list_of
theorem ret_op {r : R2} {ta tb : TE} {D : Ends} {σ : L2.St} {H : Hp} (h : ta σ H fun x H1 => tb σ H1 fun y H2 => r x y H2 D.rt) : tRet (tOp r ta tb) D σ H := h
section
variable {P : Program} {w : World} {K : PySem.W.Frag} {mg : Str → Option Value} {base : Heap} {f : Addr} {fd : FuncData}
/-! _law_wrapped -/
def spWrapped : Sp := fun vs H Q _ => ∃ (G : Hp) (p q R : Addr) (rs : List Addr) (m : Nat), vs = [.ref p, .ref R] ∧ Pl G H p q ∧ Rw OddI m G H p q R rs ∧ 2 ≤ rs.length ∧ rs.length ≤ 8 ∧ m ≤ 100 ∧ ∀ G' H' v d, Ex G G' → Pl G' H' p q → Dq G' v d → Q v H'
abbrev sWrapped : Stmt := top 31
abbrev nWrapped : List Str := ["_law_pool_here", "_law_rows", "_law_kind", "_law_things", "_law_place", "_law_row"]
theorem scWrapped : FnScope nWrapped ["_law_pool_here", "_law_rows"] (defScope sWrapped) := ⟨rfl, rfl, rfl, by decide +kernel, rfl, by decide +kernel, by decide +kernel⟩
theorem ok_wrapped (B : Bl mg) (C : Cal P w K mg base "_law_draw" ["_law_pool_here", "_law_size"] 1 spDraw) (F : FnP K "_law_wrapped" sWrapped f fd) : FnOk P w K mg base CX0 2 f fd ["_law_pool_here", "_law_rows"] spWrapped := by
  refine F.ok scWrapped (fun vs H Q E h => ?_) (fun cdv A outer s H vs Q E hr h => ?_)
  · obtain ⟨G, p, q, R, rs, m, rfl, _⟩ := h
    rfl
  · obtain ⟨G, p, q, R, rs, m, rfl, hP, hW, hn2, hn8, hm, k⟩ := h
    refine ⟨_, pss_cons (ps_set (i := 2) scWrapped.nd rfl (Or.inl rfl) (pe_cal C hr (by rfl) (pa_cons (pv 0) (pa_cons pe_int pa_nil))))
      (pss_cons (ps_setLc (i := 3) (own := [("_law_row", 5)]) (g := gName 5) (tt := tYes) rfl scWrapped.nd rfl rfl (sw_true rfl rfl rfl (by decide +kernel)) (pi_list (pv 1)) (blkOk_by (N := nWrapped) (sc := defScope sWrapped) (by decide +kernel))
          (fun _ _ _ _ _ => pg_name (i := 5) scWrapped.nd rfl (Or.inl rfl)) (fun _ _ _ _ _ => pts_nil) (fun _ _ _ _ _ => pe_callTy (call_tupleK (K := K) rfl) (by rfl) B.tuple PyProof.Rows.boot_tuple (pa_cons (pv 5) pa_nil)))
      (pss_cons (ps_if (pt_cmpR op_eq (pv 2) pe_int (nomark _)) (pss_one (ps_ret (pv 3))) pss_nil)
      (pss_cons (ps_if (pt_cmpR op_eq (pv 2) pe_int (nomark _)) (pss_one (ps_ret (pe_callTy (call_tupleK (K := K) rfl) (by rfl) B.tuple PyProof.Rows.boot_tuple (pa_cons (pe_op op_cat (pv 3) (pe_op op_rep (pe_lst (pa_cons (pe_tup pa_nil) pa_nil)) (pe_op op_sub pe_int (pe_callB call_len_seq (by rfl) B.len PySem.boot_len (pa_cons (pv 3) pa_nil))))) pa_nil)))) pss_nil)
      (pss_cons (ps_if (pt_cmpR op_eq (pv 2) pe_int (nomark _)) (pss_one (ps_ret (pe_callTy (call_tupleK (K := K) rfl) (by rfl) B.tuple PyProof.Rows.boot_tuple (pa_cons (pe_slice sl_list (pv 3) po_none (po_some pe_int)) pa_nil)))) pss_nil)
      (pss_cons (ps_if (pt_cmpR op_eq (pv 2) pe_int (nomark _)) (pss_one (ps_ret (pe_ix ix_list (pe_lst (pa_cons (pe_tup pa_nil) (pa_cons pe_non (pa_cons pe_str (pa_cons pe_int (pa_cons pe_dnewK (pa_cons (pe_lst pa_nil) (pa_cons pe_bl pa_nil)))))))) (pe_cal C hr (by rfl) (pa_cons (pv 0) (pa_cons pe_int pa_nil))) (fun _ _ => rfl)))) pss_nil)
      (pss_cut (ps_if (pt_cmpR op_lt (pv 2) pe_int (nomark _))
          (pss_cons (ps_set (i := 4) scWrapped.nd rfl (Or.inl rfl) (pe_cal C hr (by rfl) (pa_cons (pv 0) (pa_cons (pe_callB call_len_seq (by rfl) B.len PySem.boot_len (pa_cons (pv 3) pa_nil)) pa_nil))))
          (pss_one (ps_asg (pe_ix ix_list (pe_lst (pa_cons (pe_callTy (call_listK (K := K) rfl) (by rfl) B.list PyProof.Rows.boot_list (pa_cons (pe_ix ix_list (pv 3) (pv 4) (fun _ _ => rfl)) pa_nil)) (pa_cons pe_non (pa_cons pe_int (pa_cons pe_str pa_nil))))) (pe_cal C hr (by rfl) (pa_cons (pv 0) (pa_cons pe_int pa_nil))) (fun _ _ => rfl))
            (pg_sub (pv 3) (pv 4) set_list)))) pss_nil)
      (pss_one (ps_ret (pe_callTy (call_tupleK (K := K) rfl) (by rfl) B.tuple PyProof.Rows.boot_tuple (pa_cons (pv 3) pa_nil)))))))))), ?_⟩
    refine ⟨.ref p, rfl, Hd H p q, p, q, 12, rfl, hP.hd, by decide, by decide, fun H1 kd hp1 hk0 hk1 => ?_⟩
    have hP1 := hP.back hp1
    have hW1 := hW.off hp1.off
    refine g_name ?_
    refine ⟨.ref R, rfl, R, rfl, ⟨_, sq_of hW1.at_⟩, fun D hD => lc_list (K := K) (xs := rs.map V.ref) (fun i H' => Tups OddI m G H' p q R rs D i) (tups_start hP1 hW1 hD) (fun i H' _ h => ?_) ?_ ?_⟩
    · obtain ⟨G5, ts, rows, _, _, hW, _⟩ := h.ex
      exact sq_of hW.at_
    · rintro i x H5 hx h
      obtain ⟨r, hr1, rfl⟩ : ∃ r, rs[i]? = some r ∧ x = V.ref r := by
        rw [List.getElem?_map] at hx
        cases hq : rs[i]? with
        | none => rw [hq] at hx; cases hx
        | some r => rw [hq] at hx; exact ⟨r, rfl, (Option.some.inj hx).symm⟩
      have hil := (List.getElem?_eq_some_iff.mp hr1).1
      refine ⟨rfl, .ref r, rfl, ?_⟩
      exact tups_turn (K := K) (by omega) h (List.mem_of_getElem? hr1) (fun z => by
        obtain ⟨_, _, _, _, _, h1, _⟩ := hW1.row D z
        rw [hD] at h1
        cases h1) (Ne.symm (ne_of_none hW1.at_ hD))
    intro H2 h
    obtain ⟨G2, ts, rows, eG, hP2, hW2, hD2, gD, Dp', Dq', hts, hrl, hrows⟩ := h.ex
    rw [List.length_map] at hrl
    have tl := hts.length
    clear h hP1 hW1 hp1 hD hW2
    change tSeq _ _ _ [some (.ref p), some (.ref R), some (.int kd), some (.ref D), none, none] H2
    refine q_when (b := decide (V.int kd = V.int 0)) (et_test (ev_op (ev_var rfl) ev_c (rv_eq rfl))) (fun _ H3 e3 => ?_) (fun _ H3 e3 => ?_)
    · exact ⟨.ref D, rfl, k (upd G2 D (.lst ts)) H3 (.ref D) (.list rows) (eG.trans (Ex.new gD)) ((hP2.ext e3).hold (e3 _ _ hD2) Dp' Dq') (.lst upd_same (hts.mono (Ex.new gD)))⟩
    have hP3 := hP2.ext e3
    have hD3 := e3 _ _ hD2
    clear hP2 hD2
    refine q_when (b := decide (V.int kd = V.int 1)) (et_test (ev_op (ev_var rfl) ev_c (rv_eq rfl))) (fun _ H4 e4 => ?_) (fun _ H4 e4 => ?_)
    · have hP4 := hP3.ext e4
      have hD4 := e4 _ _ hD3
      refine ret_cb ?_
      refine ⟨.ref D, rfl, by show 0 ≤ sizeLine; decide, fun t ht => ⟨by show 1 ≤ sizeLine; decide, fun b hb => ?_⟩⟩
      have e5 := Ex.new (o := .tup ([] : List V)) ht
      have gt := fresh_back hP4.ex ht
      have hP5 := hP4.new (o := .tup ([] : List V)) ht
      have eg5 := Ex.new (o := .tup ([] : List V)) gt
      have e6 := Ex.new (o := .lst [V.ref t]) hb
      have hD6 := e6 _ _ (e5 _ _ hD4)
      have hrep : DqA (upd G2 t (.tup [])) (List.replicate (9 - (ts.length : Int)).toNat [V.ref t]).flatten (List.replicate (9 - (ts.length : Int)).toNat [PyData.tuple []]).flatten := by
        generalize (9 - (ts.length : Int)).toNat = c
        induction c with
        | zero => exact .nil
        | succ c ih => exact .cons (.tup upd_same .nil) ih
      have hDt : Dq (upd G2 t (.tup [])) (.ref t) (.tuple []) := .tup upd_same .nil
      generalize upd G2 t (.tup []) = G5 at *
      refine ⟨.ref D, rfl, D, ts, rfl, .inl (sq_of hD6), 9, (ts.length : Int), rfl, rfl, b, _, [.ref t], rfl, rfl, upd_same, by omega, by omega, by rw [sizeLine_eq]; simp <;> omega, fun c hc => ?_⟩
      have e7 := Ex.new (o := .lst (List.replicate (9 - (ts.length : Int)).toNat [V.ref t]).flatten) hc
      have hl := hrep.length
      have hll : (List.replicate (9 - (ts.length : Int)).toNat [V.ref t]).flatten.length ≤ 9 := by simp <;> omega
      refine ⟨D, c, ts, _, rfl, rfl, e7 _ _ hD6, upd_same, by rw [sizeLine_eq]; omega, fun c2 hc2 => ?_⟩
      have e8 := Ex.new (o := .lst (ts ++ (List.replicate (9 - (ts.length : Int)).toNat [V.ref t]).flatten)) hc2
      refine ⟨c2, _, rfl, .inl ⟨sq_of upd_same, fun v hv => ?_⟩⟩
      have hP8 := ((hP5.ext e6).ext e7).ext e8
      have gv := fresh_back hP8.ex hv
      exact k (upd G5 v (.tup _)) _ (.ref v) (.tuple _) ((eG.trans eg5).trans (Ex.new gv)) (hP8.new hv) (.tup upd_same (((hts.mono eg5).append hrep).mono (Ex.new gv)))
    have hP4 := hP3.ext e4
    have hD4 := e4 _ _ hD3
    clear hP3 hD3
    refine q_when (b := decide (V.int kd = V.int 2)) (et_test (ev_op (ev_var rfl) ev_c (rv_eq rfl))) (fun _ H5 e5 => ?_) (fun _ H5 e5 => ?_)
    · have hP5 := hP4.ext e5
      have hD5 := e5 _ _ hD4
      refine ret_cb ?_
      refine el_sl (K := K) (te := tVar 3) (ev_var rfl) eo_none (eo_some (i := 1) ev_c) (sq_of hD5) H5 (Ex.refl H5) _ fun c H6 hc e6 h6 => ?_
      rw [show (1 : Int) = ((1 : Nat) : Int) from rfl, cut_to ts 1 (by omega)] at h6
      refine ⟨c, _, rfl, .inl ⟨sq_of h6, fun v hv => ?_⟩⟩
      have hP6 := hP5.ext e6
      have gv := fresh_back hP6.ex hv
      exact k (upd G2 v (.tup _)) _ (.ref v) (.tuple _) (eG.trans (Ex.new gv)) (hP6.new hv) (.tup upd_same ((hts.take 1).mono (Ex.new gv)))
    have hP5 := hP4.ext e5
    have hD5 := e5 _ _ hD4
    clear hP4 hD4
    refine q_when (b := decide (V.int kd = V.int 3)) (et_test (ev_op (ev_var rfl) ev_c (rv_eq rfl))) (fun _ H6 e6 => ?_) (fun _ H6 e6 => ?_)
    · have hP6 := hP5.ext e6
      have t1 : EvDt p q (tLst (tCons (tTup tNil) (tCons (tC .non) (tCons (tC (.str "")) (tCons (tC (.int 8)) (tCons tDNewK (tCons (tLst tNil) (tCons (tC (.bl true)) tNil)))))))) [some (.ref p), some (.ref R), some (.int kd), some (.ref D), none, none] (.list [.tuple [], .none, .str "", .int 8, .dict [], .list [], .bool true]) :=
        ed_lst (ed_cons (ed_tup ed_nil (by simp)) (ed_cons (ed_c fun G => .non) (ed_cons (ed_c fun G => .str _) (ed_cons (ed_c fun G => .int _) (ed_cons ed_dict (ed_cons (ed_lst ed_nil (by simp)) (ed_cons (ed_c fun G => .bl _) ed_nil))))))) (by simp)
      refine ret_op (t1 G2 H6 hP6 _ fun G7 H7 v7 g7 hv7 => ?_)
      refine ⟨.ref p, rfl, Hd H7 p q, p, q, 7, rfl, g7.pl.hd, by decide, by decide, fun H8 y hp8 hy0 hy1 => ?_⟩
      cases hv7 with
      | lst a1 a2 =>
        rename_i a xs
        have la := a2.length
        simp only [List.length_cons, List.length_nil] at la
        obtain ⟨u, rfl⟩ : ∃ u : Nat, y = (u : Int) := ⟨y.toNat, by omega⟩
        have hu : u < xs.length := by omega
        have hxu : xs[u]? = some xs[u] := List.getElem?_eq_getElem hu
        obtain ⟨d, ed, hd⟩ := a2.get hxu
        have gd := Gr.draw g7.pl hp8
        exact ⟨a, xs, (u : Int), xs[u], rfl, rfl, sq_of (gd.pl.ex _ _ a1), atI_nat hxu, k G7 H8 _ d (eG.trans g7.ex) gd.pl hd⟩
    have hP6 := hP5.ext e6
    have hD6 := e6 _ _ hD5
    clear hP5 hD5
    refine q_cut (M := fun σ' H' => ∃ (G' : Hp) (o : Option V) (ts' : List V) (rows' : List PyData), σ' = [some (.ref p), some (.ref R), some (.int kd), some (.ref D), o, none] ∧ Ex G G' ∧ Pl G' H' p q ∧ H' D = some (.lst ts') ∧ DqA G' ts' rows') ?_ ?_
    · refine s_when (b := decide (kd < 6)) (et_test (ev_op (ev_var rfl) ev_c rv_I0)) (fun _ H7 e7 => ?_) (fun _ H7 e7 => ⟨G2, none, ts, rows, rfl, eG, hP6.ext e7, e7 _ _ hD6, hts⟩)
      have hP7 := hP6.ext e7
      have hD7 := e7 _ _ hD6
      refine ⟨.ref p, rfl, .ref D, rfl, D, ts, rfl, .inl (sq_of hD7), Hd H7 p q, p, q, _, rfl, hP7.hd, by omega, by omega, fun H8 pl hp8 hpl0 hpl1 => ?_⟩
      have hP8 := hP7.back hp8
      have hD8 := hp8.off _ _ Dp' Dq' hD7
      refine g_name ?_
      obtain ⟨u, rfl⟩ : ∃ u : Nat, pl = (u : Int) := ⟨pl.toNat, by omega⟩
      have hul : u < ts.length := by omega
      have htu : ts[u]? = some ts[u] := List.getElem?_eq_getElem hul
      obtain ⟨du, edu, hdu⟩ := hts.get htu
      obtain ⟨es, rfl, hel, _⟩ := hrows du (List.mem_of_getElem? edu)
      generalize ts[u] = tv at *
      cases hdu with
      | tup c1 c2 =>
        rename_i a ys
        have lc := c2.length
        refine ⟨.ref D, rfl, .int (u : Int), rfl, D, ts, (u : Int), .ref a, rfl, rfl, sq_of hD8, atI_nat htu, a, ys, rfl, .inr (st_of (hP8.ex _ _ c1)), fun l hl => ⟨by show 4 ≤ sizeLine; decide, fun b hb => ?_⟩⟩
        have gl := fresh_back hP8.ex hl
        have hP9 := hP8.new (o := .lst ys) hl
        have e9 := Ex.new (o := .lst ys) hl
        have eg9 := Ex.new (o := .lst ys) gl
        have e10 := Ex.new (o := .lst [V.ref l, .non, .int 0, .str "0"]) hb
        have hP10 := hP9.ext e10
        have hdd : DqA (upd G2 l (.lst ys)) [.ref l, .non, .int 0, .str "0"] [.list es, .none, .int 0, .str "0"] := .cons (.lst upd_same (c2.mono eg9)) (.cons .non (.cons (.int 0) (.cons (.str "0") .nil)))
        have hD10 := e10 _ _ (e9 _ _ hD8)
        have nDl : D ≠ l := ne_of_none hD8 hl
        have g9D : (upd G2 l (.lst ys)) D = none := by rw [upd_ne nDl]; exact gD
        generalize upd G2 l (.lst ys) = G9 at *
        have hb10 : (upd (upd H8 l (.lst ys)) b (.lst [V.ref l, .non, .int 0, .str "0"])) b = some (.lst [V.ref l, .non, .int 0, .str "0"]) := upd_same
        have nbp := hP9.np hb
        have nbq := hP9.nq hb
        generalize upd (upd H8 l (.lst ys)) b (.lst [V.ref l, .non, .int 0, .str "0"]) = H10 at *
        refine ⟨.ref p, rfl, Hd H10 p q, p, q, 4, rfl, hP10.hd, by decide, by decide, fun H11 y hp11 hy0 hy1 => ?_⟩
        obtain ⟨z, rfl⟩ : ∃ z : Nat, y = (z : Int) := ⟨y.toNat, by omega⟩
        have hzl : z < [V.ref l, .non, .int 0, .str "0"].length := by simp; omega
        have hxz : [V.ref l, .non, .int 0, .str "0"][z]? = some [V.ref l, .non, .int 0, .str "0"][z] := List.getElem?_eq_getElem hzl
        obtain ⟨dz, edz, hdz⟩ := hdd.get hxz
        generalize [V.ref l, .non, .int 0, .str "0"][z] = vz at *
        have hP11 := hP10.back hp11
        have hD11 := hp11.off _ _ Dp' Dq' hD10
        refine ⟨b, _, (z : Int), vz, rfl, rfl, sq_of (hp11.off _ _ nbp nbq hb10), atI_nat hxz, .ref D, rfl, .int (u : Int), rfl, D, ts, (u : Int), u, rfl, rfl, hD11, Evl.ixN_nat hul, ?_⟩
        exact ⟨G9, _, ts.set u vz, rows.set u dz, rfl, eG.trans eg9, hP11.mut g9D Dp' Dq', upd_same, DqA.set hdz u (hts.mono eg9)⟩
    · rintro σ' H7 ⟨G7, o, ts7, rows7, rfl, eG7, hP7, hD7, hts7⟩
      refine ret_cb ?_
      refine ⟨.ref D, rfl, D, ts7, rfl, .inl ⟨sq_of hD7, fun v hv => ?_⟩⟩
      have gv := fresh_back hP7.ex hv
      exact k (upd G7 v (.tup ts7)) _ (.ref v) (.tuple rows7) (eG7.trans (Ex.new gv)) (hP7.new hv) (.tup upd_same (hts7.mono (Ex.new gv)))
end
end Wk

set_option Elab.async false
set_option linter.all false
set_option maxRecDepth 100000
set_option maxHeartbeats 1000000
namespace Wk
open PySem PySem.Spec PyProof.Rows L2 Evl
theorem call_listK2 {X : Cx} {K : PySem.W.Frag} (hK : X.K = K) : CallR X (.type "list") (fun xs H Q => ∃ p ys, xs = [.ref p] ∧ (SqL K H p ys ∨ SqT K H p ys) ∧ ∀ l, H l = none → Q (.ref l) (upd H l (.lst ys))) := by
  subst hK
  exact call_list_of
/-- what no_router asks of a thing -/
structure NoRt (n : Int) (d : PyData) : Prop where
  r : isR n d = false
  lay : d.canLay0 = true
  sh : d.showable = true
  nd : d.hasDict = false
  dp : d.depth ≤ 60
  sz : d.shown.length ≤ sizeLine
theorem noRt_size : ∀ n : Nat, 2 ≤ n → n ≤ 8 → NoRt (n : Int) (.int (n : Int)) := by
  intro n h1 h2
  have h : n = 2 ∨ n = 3 ∨ n = 4 ∨ n = 5 ∨ n = 6 ∨ n = 7 ∨ n = 8 := by omega
  rcases h with rfl | rfl | rfl | rfl | rfl | rfl | rfl <;> exact ⟨by decide +kernel, by decide +kernel, by decide +kernel, by decide +kernel, by decide +kernel, by decide +kernel⟩
def odds : List PyData := [.int (-1), .bool true, .bool false, .none, .str "0", .tuple [.int 0], .list [.int 0], .int (10 ^ 25), .int (-(10 ^ 25))]
theorem isR_odd : ∀ d ∈ odds, d.canLay0 = true ∧ d.showable = true ∧ d.hasDict = false ∧ d.depth ≤ 60 ∧ d.shown.length ≤ sizeLine ∧ (isI d = false ∨ valI d < 0 ∨ 8 ≤ valI d) := by
  intro d hd
  simp only [odds, List.mem_cons, List.not_mem_nil, or_false] at hd
  rcases hd with rfl | rfl | rfl | rfl | rfl | rfl | rfl | rfl | rfl <;> exact ⟨by decide +kernel, by decide +kernel, by decide +kernel, by decide +kernel, by decide +kernel, by decide +kernel⟩
theorem noRt_odd {n : Nat} (h : n ≤ 8) : ∀ d ∈ odds, NoRt (n : Int) d := fun d hd => by
  obtain ⟨h1, h2, h3, h4, h5, h6⟩ := isR_odd d hd
  refine ⟨?_, h1, h2, h3, h4, h5⟩
  unfold isR
  rcases h6 with z | z | z
  · rw [z]; rfl
  · rw [decide_eq_false (show ¬ (0 ≤ valI d) by omega)]; simp
  · rw [decide_eq_false (show ¬ (valI d ≤ (n : Int) - 1) by omega)]; simp
theorem smp_ints (ns : List Int) (h : ns.length ≤ 100) : Smp 1 (.tuple (ns.map PyData.int)) := .tup 0 _ (fun d hd => by
  obtain ⟨i, _, rfl⟩ := List.mem_map.mp hd
  exact .int 0 i) (by rw [List.length_map]; exact h)
theorem smp_row {n r : Int} {d : PyData} (h : rowB n r d = true) : Smp 2 d := by
  obtain ⟨ws, rfl, _, hl, h1, h2⟩ := row_lay h
  refine .tup 1 ws (fun w hw => ?_) (by omega)
  by_cases hr : r = 0
  · rw [h2 hr] at hw
    cases hw
  · have := way_ints (List.all_eq_true.mp (h1 hr) w hw)
    rw [this.1]
    exact smp_ints _ (by omega)
theorem due_good {rows : List PyData} (h : dueD (.tuple rows) = none) : 2 ≤ rows.length ∧ rows.length ≤ 8 ∧ Good rows := by
  obtain ⟨_, h1, h2, h3⟩ := due_none h
  refine ⟨h1, h2, ?_⟩
  unfold due2 at h3
  cases hf : fb ((itemsT (.tuple rows)).length : Int) 0 (itemsT (.tuple rows)) with
  | some r => rw [hf] at h3; cases h3
  | none => exact fb_Good hf
/-- for x in a list that is made on the way -/
theorem q_forC {K : PySem.W.Frag} {tl : TE} {g : TG} {tu tz : TS} {D : Ends} {σ : L2.St} {H : Hp} (C : Addr → List V → Hp → Prop) (h : ∀ Q : VK, (∀ l xs H1, C l xs H1 → Q (.ref l) H1) → tl σ H Q)
    (hC : ∀ l xs H1, C l xs H1 → SqL K H1 l xs ∧ ∃ Pv : Nat → L2.St → Hp → Prop, Pv 0 σ H1 ∧ (∀ i σ' H', i ≤ xs.length → Pv i σ' H' → SqL K H' l xs) ∧ (∀ i x σ' H', xs[i]? = some x → Pv i σ' H' → g x σ' H' fun σ2 H2 => tu { D with nx := Pv (i + 1), ct := Pv (i + 1), bk := tz D } σ2 H2) ∧ (∀ σ' H', Pv xs.length σ' H' → tz D σ' H')) : tSeq (tFor (iList K tl) g tu) tz D σ H :=
  h _ fun l xs H1 c => by
    obtain ⟨hs, Pv, h0, hl, ht, hd⟩ := hC l xs H1 c
    exact ⟨l, rfl, ⟨xs, hs⟩, for_list Pv h0 hl ht hd⟩
section
variable {P : Program} {w : World} {K : PySem.W.Frag} {mg : Str → Option Value} {base : Heap} {f : Addr} {fd : FuncData}
/-! law -/
def spLaw (K : PySem.W.Frag) : Sp := fun vs H Q _ => ∃ (a : Addr) (ns : List Int), vs = [.ref a] ∧ SqL K H a (ns.map V.int) ∧ ns.length ≤ 63 ∧ ∀ H', Q (.bl true) H'
abbrev sLaw : Stmt := top 37
abbrev nLaw : List Str := ["_law_script", "_law_pool_here", "_law_spoil", "_law_lists_here", "_law_thing", "_law_rows", "_law_count", "_law_due_here", "_law_wishes", "_law_size", "_law_odd_here", "_law_router", "_law_row"]
theorem scLaw : FnScope nLaw ["_law_script"] (defScope sLaw) := ⟨rfl, rfl, rfl, by decide +kernel, rfl, by decide +kernel, by decide +kernel⟩
structure Cs (P : Program) (w : World) (K : PySem.W.Frag) (mg : Str → Option Value) (base : Heap) (CW CB CN : Addr) : Prop where
  pool : Cal P w K mg base "_law_pool" ["_law_script"] 1 (spPool K)
  draw : Cal P w K mg base "_law_draw" ["_law_pool_here", "_law_size"] 1 spDraw
  lists : Cal P w K mg base "_law_lists" ["_law_pool_here", "_law_most", "_law_limit", "_law_cap"] 5 spLists
  edit : Cal P w K mg base "_law_edit" ["_law_pool_here", "_law_rows"] 3 spEdit
  wrapped : Cal P w K mg base "_law_wrapped" ["_law_pool_here", "_law_rows"] 2 spWrapped
  due : Cal P w K mg base "_law_due" ["_law_thing"] 5 spDue
  refusal : Cal P w K mg base "_law_refusal" ["_law_thing"] 10 spRefusal
  same : Cal P w K mg base "_law_same" ["_law_actual", "_law_expected"] 3 (spSame 2)
  noR : CalG P w K mg base "_law_no_router" ["_law_wishes", "_law_thing"] 6 (spNoR CW)
  mkW : Mkr P w K mg base CW CB
  wys : Wys P w K mg base CW CN
theorem ok_law {CW CB CN : Addr} (B : Bl mg) (S : Cs P w K mg base CW CB CN) (F : FnP K "law" sLaw f fd) : FnG P w K mg base 11 f fd ["_law_script"] (spLaw K) := by
  obtain ⟨fI, fdI, mk, FI, bI⟩ := S.mkW.ex
  obtain ⟨fM, fdM, me, FM, bM⟩ := S.wys.ex
  have TX := S.mkW.tx
  refine okG F scLaw (fun vs H Q E h => ?_) (fun cdv A outer s H vs Q E hr hg h => ?_)
  · obtain ⟨a, ns, rfl, _⟩ := h
    rfl
  · obtain ⟨a0, ns, rfl, hS, hns, k⟩ := h
    have r1 : Room 1 _ := hr.mono (by decide)
    have r2 : Room 2 _ := hr.mono (by decide)
    have r3 : Room 3 _ := hr.mono (by decide)
    have r4 : Room 5 _ := hr.mono (by decide)
    have r5 : Room 6 _ := hr.mono (by decide)
    have r8 : Room 9 _ := hr.mono (by decide)
    refine ⟨_, pss_cons (ps_set (i := 1) scLaw.nd rfl (Or.inl rfl) (pe_cal S.pool r1 (by rfl) (pa_cons (pv 0) pa_nil)))
      (pss_cons (ps_set (i := 2) scLaw.nd rfl (Or.inl rfl) (pe_cal S.draw r1 (by rfl) (pa_cons (pv 1) (pa_cons pe_int pa_nil))))
      (pss_cons (ps_set (i := 3) scLaw.nd rfl (Or.inl rfl) (pe_cal S.lists r4 (by rfl) (pa_cons (pv 1) (pa_cons pe_int (pa_cons pe_int (pa_cons (pe_op op_pow pe_int pe_int) pa_nil))))))
      (pss_cons (ps_set (i := 4) scLaw.nd rfl (Or.inl rfl) (pv 3))
      (pss_cut (ps_if (pt_cmpR op_gt (pv 2) pe_int (nomark _))
          (pss_cons (ps_setLc (i := 5) (own := [("_law_row", 12)]) (g := gName 12) (tt := tYes) rfl scLaw.nd rfl rfl (sw_true rfl rfl rfl (by decide +kernel)) (pi_tup (pv 3)) (blkOk_by (N := nLaw) (sc := defScope sLaw) (by decide +kernel))
              (fun _ _ _ _ _ => pg_name (i := 12) scLaw.nd rfl (Or.inl rfl)) (fun _ _ _ _ _ => pts_nil) (fun _ _ _ _ _ => pe_callTy (call_listK2 (K := K) rfl) (by rfl) B.list PyProof.Rows.boot_list (pa_cons (pv 12) pa_nil)))
          (pss_cons (ps_for (passes_of rfl) rfl (pi_range1 (by rfl) B.range (pa_cons (pv 2) pa_nil)) (pg_name (i := 6) scLaw.nd rfl (Or.inl rfl)) (pss_one (ps_expr (pe_cal S.edit r3 (by rfl) (pa_cons (pv 1) (pa_cons (pv 5) pa_nil))))))
          (pss_cons (ps_set (i := 4) scLaw.nd rfl (Or.inl rfl) (pe_callTy (call_tupleK (K := K) rfl) (by rfl) B.tuple PyProof.Rows.boot_tuple (pa_cons (pe_lc (own := [("_law_row", 12)]) (g := gName 12) (tt := tYes) rfl scLaw.nd (pi_list (pv 5)) (blkOk_by (N := nLaw) (sc := defScope sLaw) (by decide +kernel))
              (fun _ _ _ _ _ => pg_name (i := 12) scLaw.nd rfl (Or.inl rfl)) (fun _ _ _ _ _ => pts_nil) (fun _ _ _ _ _ => pe_callTy (call_tupleK (K := K) rfl) (by rfl) B.tuple PyProof.Rows.boot_tuple (pa_cons (pv 12) pa_nil))) pa_nil)))
          (pss_one (ps_if (pt_cmpR op_eq (pe_cal S.draw r1 (by rfl) (pa_cons (pv 1) (pa_cons pe_int pa_nil))) pe_int (nomark _)) (pss_one (ps_set (i := 4) scLaw.nd rfl (Or.inl rfl) (pe_cal S.wrapped r2 (by rfl) (pa_cons (pv 1) (pa_cons (pv 5) pa_nil))))) pss_nil))))) pss_nil)
      (pss_cons (ps_set (i := 7) scLaw.nd rfl (Or.inl rfl) (pe_cal S.due r4 (by rfl) (pa_cons (pv 4) pa_nil)))
      (pss_cons (ps_if (pt_cmp (pc_notN (pv 7))) (pss_one (ps_ret (pe_and (pe_cal S.same r3 (by rfl) (pa_cons (pe_cal S.refusal hr (by rfl) (pa_cons (pv 4) pa_nil)) (pa_cons (pe_tup (pa_cons pe_str (pa_cons (pv 7) pa_nil))) pa_nil)))
          (pe_one (pe_cal S.same r3 (by rfl) (pa_cons (pe_cal S.refusal hr (by rfl) (pa_cons (pv 4) pa_nil)) (pa_cons (pe_tup (pa_cons pe_str (pa_cons (pv 7) pa_nil))) pa_nil))))))) pss_nil)
      (pss_cons (ps_set (i := 8) scLaw.nd rfl (Or.inl rfl) (pe_mkAt mk FI r8 (by rfl) TX.g bI (fun σ => passAt takes0 σ) (pa_cons (pv 4) pa_nil)))
      (pss_cons (ps_set (i := 9) scLaw.nd rfl (Or.inl rfl) (pe_callB call_len_seq (by rfl) B.len PySem.boot_len (pa_cons (pv 4) pa_nil)))
      (pss_cons (ps_if (pt_not (pt_val (pe_cal S.same r3 (by rfl) (pa_cons (pe_fld (pv 8) rfl) (pa_cons (pv 9) pa_nil))))) (pss_one (ps_ret pe_bl)) pss_nil)
      (pss_cons (ps_for (passes_of rfl) rfl (pi_list (pe_lst (pa_cons (pv 9) (pa_cons (pe_un un_neg pe_int) (pa_cons pe_bl (pa_cons pe_bl (pa_cons pe_non (pa_cons pe_str (pa_cons (pe_tup (pa_cons pe_int pa_nil)) (pa_cons (pe_lst (pa_cons pe_int pa_nil)) (pa_cons (pe_op op_pow pe_int pe_int) (pa_cons (pe_un un_neg (pe_op op_pow pe_int pe_int)) pa_nil)))))))))))) (pg_name (i := 10) scLaw.nd rfl (Or.inl rfl))
          (pss_one (ps_if (pt_not (pt_val (pe_calG S.noR r5 hg (by rfl) (pa_cons (pv 8) (pa_cons (pv 10) pa_nil))))) (pss_one (ps_ret pe_bl)) pss_nil)))
      (pss_cons (ps_for (passes_of rfl) rfl (pi_range1 (by rfl) B.range (pa_cons pe_int pa_nil)) (pg_name (i := 6) scLaw.nd rfl (Or.inl rfl))
          (pss_one (ps_for (passes_of rfl) rfl (pi_range1 (by rfl) B.range (pa_cons (pv 9) pa_nil)) (pg_name (i := 11) scLaw.nd rfl (Or.inl rfl))
            (pss_one (ps_if (pt_not (pt_val (pe_cal S.same r3 (by rfl) (pa_cons (pe_meAt (pv 8) TX.cl me FM r4 bM (fun σ => passAt takes0 σ) (pa_cons (pv 11) pa_nil)) (pa_cons (pe_ix ix_tup (pv 4) (pv 11) (fun _ _ => rfl)) pa_nil))))) (pss_one (ps_ret pe_bl)) pss_nil)))))
      (pss_one (ps_ret (pe_cal S.same r3 (by rfl) (pa_cons (pe_fld (pv 8) rfl) (pa_cons (pv 9) pa_nil)))))))))))))))), ?_⟩
    refine ⟨.ref a0, rfl, a0, ns, rfl, hS, hns, fun H1 p q hP1 => ?_⟩
    refine g_name ?_
    refine ⟨.ref p, rfl, Hd H1 p q, p, q, 3, rfl, hP1.hd, by decide, by decide, fun H2 sp hp2 hs0 hs1 => ?_⟩
    have hP2 := hP1.back hp2
    refine g_name ?_
    refine ⟨.ref p, rfl, 10, 6, rfl, rfl, ⟨by decide, by decide, by decide⟩, H, p, q, rfl, hP2, fun G3 H3 lv lrows eG3 hP3 hlv hl2 hl8 hlr => ?_⟩
    refine g_name ?_
    refine ⟨lv, rfl, ?_⟩
    refine g_name ?_
    change tCut _ _ _ [some (.ref a0), some (.ref p), some (.int sp), some lv, some lv, none, none, none, none, none, none, none, none] H3
    refine q_cut (M := fun σ' H' => ∃ (G' : Hp) (v : V) (d : PyData) (o5 o6 : Option V), σ' = [some (.ref a0), some (.ref p), some (.int sp), some lv, some v, o5, o6, none, none, none, none, none, none] ∧ Pl G' H' p q ∧ Dq G' v d) ?_ ?_
    · refine s_when (b := decide (sp > 0)) (et_test (ev_op (ev_var rfl) ev_c rv_I0)) (fun _ H4 e4 => ?_) (fun _ H4 e4 => ⟨G3, lv, _, none, none, rfl, hP3.ext e4, hlv⟩)
      have hP4 := hP3.ext e4
      cases hlv with
      | tup l1 l2 =>
        rename_i a xs
        have ll := l2.length
        refine ⟨.ref a, rfl, a, rfl, ⟨xs, st_of (hP4.ex _ _ l1)⟩, fun D hD => lc_tup (K := K) (a := a) (xs := xs) (fun i H' => ∃ rs : List Addr, Pl G3 H' p q ∧ Rw OddI 6 G3 H' p q D rs ∧ rs.length = i) ?_ (fun i H' _ ⟨rs, hP', _⟩ => st_of (hP'.ex _ _ l1)) ?_ ?_⟩
        · exact ⟨[], hP4.ext (Ex.new hD), ⟨upd_same, fresh_back hP4.ex hD, hP4.np hD, hP4.nq hD, by simp, fun r hr => by cases hr⟩, rfl⟩
        · rintro i x H5 hx ⟨rs, hP5, hW5, hrl⟩
          obtain ⟨dx, edx, hdx⟩ := l2.get hx
          obtain ⟨es, rfl, hel, hei⟩ := hlr dx (List.mem_of_getElem? edx)
          have hil := (List.getElem?_eq_some_iff.mp edx).1
          cases hdx with
          | tup c1 c2 =>
            rename_i b ys
            refine ⟨rfl, .ref b, rfl, b, ys, rfl, .inr (st_of (hP5.ex _ _ c1)), fun l hl => ?_⟩
            have e6 := Ex.new (o := .lst ys) hl
            have hP6 := hP5.ext e6
            have hW6 := hW5.ext e6
            have nlD : l ≠ D := Ne.symm (ne_of_none hW5.at_ hl)
            refine ⟨rs.map V.ref, hW6.at_, by rw [List.length_map, sizeLine_eq]; omega, rs ++ [l], hP6.mut hW6.gR hW6.Rp hW6.Rq, ⟨by rw [upd_same, List.map_append]; rfl, hW6.gR, hW6.Rp, hW6.Rq, fun z => ?_, fun r hr => ?_⟩, by simp [hrl]⟩
            · rcases List.mem_append.mp z with z | z
              · exact hW6.nin z
              · exact nlD (List.mem_singleton.mp z).symm
            · rcases List.mem_append.mp hr with z | z
              · obtain ⟨g, rp, rq, vs, ds, h1, h2⟩ := hW6.row r z
                have nr : r ≠ D := fun c => hW6.nin (by rw [← c]; exact z)
                exact ⟨g, rp, rq, vs, ds, by rw [upd_ne nr]; exact h1, h2⟩
              · rw [List.mem_singleton.mp z]
                exact ⟨fresh_back hP5.ex hl, hP5.np hl, hP5.nq hl, ys, es, by rw [upd_ne nlD, upd_same], c2, hel, fun d hd => wayI_odd (hei d hd)⟩
        rintro H5 ⟨rs, hP5, hW5, hrl⟩
        change tSeq _ _ _ [some (.ref a0), some (.ref p), some (.int sp), some (.ref a), some (.ref a), some (.ref D), none, none, none, none, none, none, none] H5
        refine q_forR1 (ea_cons (ev_var rfl) ea_nil) (by omega) (fun i σ' H' => ∃ (G' : Hp) (o : Option V), σ' = [some (.ref a0), some (.ref p), some (.int sp), some (.ref a), some (.ref a), some (.ref D), o, none, none, none, none, none, none] ∧ Pl G' H' p q ∧ Rw OddI (6 + 8 * i) G' H' p q D rs) (fun H6 e6 => ⟨G3, none, rfl, hP5.ext e6, hW5.ext e6⟩) ?_ ?_
        · rintro i σ' H6 hi ⟨G6, o, rfl, hP6, hW6⟩
          exact ⟨.ref p, rfl, .ref D, rfl, G6, p, q, D, rs, 6 + 8 * i, rfl, hP6, hW6, by omega, by omega, by omega, fun G7 H7 eG7 hP7 hW7 => ⟨G7, _, rfl, hP7, hW7.imp (fun _ h => h) (by omega)⟩⟩
        rintro σ' H6 ⟨G6, o6, rfl, hP6, hW6⟩
        have hm : 6 + 8 * sp.toNat ≤ 100 := by omega
        generalize 6 + 8 * sp.toNat = m at hW6 hm
        have hnD : D ∉ rs := hW6.nin
        refine ⟨.ref D, rfl, D, rfl, ⟨_, sq_of hW6.at_⟩, fun D2 hD2 => lc_list (K := K) (xs := rs.map V.ref) (fun i H' => Tups OddI m G6 H' p q D rs D2 i) (tups_start hP6 hW6 hD2) (fun i H' _ h => ?_) ?_ ?_⟩
        · obtain ⟨G5, ts, rows, _, _, hW, _⟩ := h.ex
          exact sq_of hW.at_
        · rintro i x H7 hx h
          obtain ⟨r, hr1, rfl⟩ : ∃ r, rs[i]? = some r ∧ x = V.ref r := by
            rw [List.getElem?_map] at hx
            cases hq : rs[i]? with
            | none => rw [hq] at hx; cases hx
            | some r => rw [hq] at hx; exact ⟨r, rfl, (Option.some.inj hx).symm⟩
          have hil := (List.getElem?_eq_some_iff.mp hr1).1
          refine ⟨rfl, .ref r, rfl, ?_⟩
          exact tups_turn (K := K) (by omega) h (List.mem_of_getElem? hr1) (fun z => by
            obtain ⟨_, _, _, _, _, h1, _⟩ := hW6.row D2 z
            rw [hD2] at h1
            cases h1) (Ne.symm (ne_of_none hW6.at_ hD2))
        intro H7 h
        obtain ⟨G7, ts, rows, eG7, hP7, hW7, hD7, gD7, Dp7, Dq7, hts, hrl7, hrows⟩ := h.ex
        refine ⟨D2, ts, rfl, .inl ⟨sq_of hD7, fun t ht => ?_⟩⟩
        have gt := fresh_back hP7.ex ht
        have hP8 := hP7.new (o := .tup ts) ht
        have hW8 := hW7.new (o := .tup ts) ht gt
        have hv8 : Dq (upd G7 t (.tup ts)) (.ref t) (.tuple rows) := .tup upd_same (hts.mono (Ex.new gt))
        refine g_name ?_
        generalize upd G7 t (.tup ts) = G8 at *
        generalize upd H7 t (.tup ts) = H8 at *
        dsimp only
        change tIfS _ _ _ _ [some (.ref a0), some (.ref p), some (.int sp), some (.ref a), some (.ref t), some (.ref D), o6, none, none, none, none, none, none] H8
        refine ⟨.ref p, rfl, Hd H8 p q, p, q, 2, rfl, hP8.hd, by decide, by decide, fun H9 y hp9 hy0 hy1 => ?_⟩
        have hP9 := hP8.back hp9
        have hW9 := hW8.off hp9.off
        refine ⟨rfl, _, rfl, ?_⟩
        refine ite2 (fun _ => ?_) (fun _ => ⟨G8, .ref t, _, _, _, rfl, hP9, hv8⟩)
        exact ⟨.ref p, rfl, .ref D, rfl, G8, p, q, D, rs, m, rfl, hP9, hW9, by omega, by omega, hm, fun G10 H10 v d eG10 hP10 hd => ⟨G10, v, d, _, _, rfl, hP10, hd⟩⟩
    rintro σ' H4 ⟨G4, v, d, o5, o6, rfl, hP4, hv⟩
    clear hP3 hP2 hP1 hlv hlr
    refine q_asg (v := dueV (dueD d)) (ev_call (ea_cons (ev_var rfl) ea_nil) (spP_v fun H5 e5 => ⟨v, d, rfl, hv.mono (hP4.ex.trans e5), rfl⟩)) fun H5 e5 => ?_
    have hP5 := hP4.ext e5
    have hv5 := hv.mono hP5.ex
    change tSeq _ _ _ [some (.ref a0), some (.ref p), some (.int sp), some lv, some v, o5, o6, some (dueV (dueD d)), none, none, none, none, none] H5
    cases hdue : dueD d with
    | some r =>
      refine q_when (b := true) (et_test (fun H6 e6 Q2 q => ⟨.int r, rfl, q H6 (Ex.refl H6)⟩)) (fun _ H6 e6 => ?_) (fun z => by cases z)
      have hbad : ∀ {Ha : Hp} {pa pb : Addr} {Hb : Hp}, Ha pa = some (.tup [.str "bad", .int r]) → Ha pb = none → Dq (upd Ha pb (.tup [.str "bad", .int r])) (.ref pa) (.tuple [.str "bad", .int r]) ∧ Dq (upd Ha pb (.tup [.str "bad", .int r])) (.ref pb) (.tuple [.str "bad", .int r]) := fun {Ha pa pb Hb} h1 h2 =>
        ⟨.tup ((Ex.new h2) _ _ h1) (.cons (.str _) (.cons (.int _) .nil)), .tup upd_same (.cons (.str _) (.cons (.int _) .nil))⟩
      have hsm : Smp 2 (.tuple [.str "bad", .int r]) := .tup 1 _ (fun d hd => by
        rcases List.mem_cons.mp hd with z | z
        · rw [z]; exact .str _ _
        · rw [List.mem_singleton.mp z]; exact .int _ _) (by simp)
      refine ⟨v, rfl, v, d, r, rfl, hv5.mono e6, hdue, fun pa H7 e7 hpa => ⟨.int r, rfl, by show 2 ≤ sizeLine; decide, fun pb hpb => ?_⟩⟩
      obtain ⟨z1, z2⟩ := hbad (Hb := H7) hpa hpb
      have e8 := Ex.new (o := .tup [V.str "bad", .int r]) hpb
      refine ⟨.bl true, ⟨_, _, _, rfl, z1, z2, hsm, rfl⟩, fun H9 e9 => ⟨true, rfl, ?_⟩⟩
      refine ⟨v, rfl, v, d, r, rfl, hv5.mono (((e6.trans e7).trans e8).trans e9), hdue, fun pc H10 e10 hpc => ⟨.int r, rfl, by show 2 ≤ sizeLine; decide, fun pd hpd => ?_⟩⟩
      obtain ⟨z3, z4⟩ := hbad (Hb := H10) hpc hpd
      exact ⟨.bl true, ⟨_, _, _, rfl, z3, z4, hsm, rfl⟩, fun H11 e11 => k H11⟩
    | none =>
      refine q_when (b := false) (et_test (fun H6 e6 Q2 q => ⟨.non, rfl, q H6 (Ex.refl H6)⟩)) (fun z => by cases z) (fun _ H6 e6 => ?_)
      have hP6 := hP5.ext e6
      have ht := (due_none hdue).1
      cases hv <;> first | (simp [isTu] at ht; done) | skip
      rename_i a xs rows h1 h2
      obtain ⟨hn2, hn8, hG⟩ := due_good hdue
      have hxl := h2.length
      refine ⟨.ref a, rfl, fun x dx nx ndx nex => ⟨H6, x, dx, .ref a, .tuple rows, rfl, upd_same, fun b o hb => ?_, nx, .tup (hP6.ex _ _ h1) (h2.mono hP6.ex), fun _ H7 e7 hx7 => ⟨rfl, ?_⟩, fun r hr => ?_⟩⟩
      · rw [upd_ne (ne_of_none hb nx), upd_ne (ne_of_none hb ndx)]
        exact hb
      rotate_left
      · rw [hdue] at hr
        cases hr
      have hx7' : H7 x = some (.ins CW dx (wf (rows.length : Int) (.ref a))) := hx7
      clear hx7 nx ndx hv5
      refine g_name ?_
      have hP7 := hP6.ext e7
      have a7 := e7 _ _ (hP6.ex _ _ h1)
      change tSeq _ _ _ [some (.ref a0), some (.ref p), some (.int sp), some lv, some (.ref a), o5, o6, some .non, some (.ref x), none, none, none, none] H7
      have hlx : Ev (tCB (rLenS K) (tCons (tVar 4) tNil)) [some (.ref a0), some (.ref p), some (.int sp), some lv, some (.ref a), o5, o6, some .non, some (.ref x), none, none, none, none] H7 (.int (rows.length : Int)) := by
        rw [← hxl]
        exact ev_lenT (ev_var rfl) (st_of a7)
      refine q_asg hlx fun H8 e8 => ?_
      change tSeq _ _ _ [some (.ref a0), some (.ref p), some (.int sp), some lv, some (.ref a), o5, o6, some .non, some (.ref x), some (.int (rows.length : Int)), none, none, none] H8
      have hsz : ∀ {o10 o11 o6' : Option V} {H9 : Hp}, H9 x = some (.ins CW dx (wf (rows.length : Int) (.ref a))) → Ev (tCall (spSame 2) [] E0 (tCons (tFld K (tVar 8) "size") (tCons (tVar 9) tNil))) [some (.ref a0), some (.ref p), some (.int sp), some lv, some (.ref a), o5, o6', some .non, some (.ref x), some (.int (rows.length : Int)), o10, o11, none] H9 (.bl true) := fun {o10 o11 o6' H9} e9 =>
        ev_call (ea_cons (x := .int (rows.length : Int)) (fun H10 e10 Q2 q => ⟨.ref x, rfl, x, CW, dx, _, _, rfl, e10 _ _ e9, TX.cl, TX.nS, wf_size _ _, q H10 (Ex.refl H10)⟩) (ea_cons (ev_var rfl) ea_nil)) (spP_v fun H10 e10 => ⟨_, _, _, rfl, .int _, .int _, .int _ _, rfl⟩)
      refine q_when (b := !true) (et_not (et_B (hsz (e8 _ _ hx7')))) (fun z => by cases z) (fun _ H9 e9 => ?_)
      have e79 := e8.trans e9
      have hP9 := hP7.ext e79
      have neg : ∀ {σ : L2.St}, EvDt p q (tUn (rU fun i => .int (-i)) (tC (.int 1))) σ (.int (-1)) := fun G H hP Q k => ⟨1, rfl, k G H _ (Gr.refl hP) (.int (-1))⟩
      have pow : ∀ {σ : L2.St}, EvDt p q (tOp (rI CPow fun i j => .int (i ^ j.toNat)) (tC (.int 10)) (tC (.int 25))) σ (.int (10 ^ 25)) := fun G H hP Q k => ⟨10, 25, rfl, rfl, ⟨by decide, by decide, by decide⟩, k G H _ (Gr.refl hP) (.int (10 ^ 25))⟩
      have npow : ∀ {σ : L2.St}, EvDt p q (tUn (rU fun i => .int (-i)) (tOp (rI CPow fun i j => .int (i ^ j.toNat)) (tC (.int 10)) (tC (.int 25)))) σ (.int (-(10 ^ 25))) := fun G H hP Q k => ⟨10, 25, rfl, rfl, ⟨by decide, by decide, by decide⟩, _, rfl, k G H _ (Gr.refl hP) (.int (-(10 ^ 25)))⟩
      have t1 : EvDt p q (tLst _) [some (.ref a0), some (.ref p), some (.int sp), some lv, some (.ref a), o5, o6, some .non, some (.ref x), some (.int (rows.length : Int)), none, none, none] (.list (.int (rows.length : Int) :: odds)) :=
        ed_lst (ed_cons (ed_int (i := 9) rfl) (ed_cons neg (ed_cons (ed_c fun G => .bl _) (ed_cons (ed_c fun G => .bl _) (ed_cons (ed_c fun G => .non) (ed_cons (ed_c fun G => .str _) (ed_cons (ed_tup (ed_cons (ed_c fun G => .int _) ed_nil) (by simp)) (ed_cons (ed_lst (ed_cons (ed_c fun G => .int _) ed_nil) (by simp)) (ed_cons pow (ed_cons npow ed_nil)))))))))) (by simp [odds])
      have hno : ∀ d ∈ PyData.int (rows.length : Int) :: odds, NoRt (rows.length : Int) d := fun d hd => by
        rcases List.mem_cons.mp hd with z | z
        · rw [z]; exact noRt_size _ hn2 hn8
        · exact noRt_odd hn8 d z
      refine q_forC (K := K) (fun l ys H10 => ∃ G10, Gr p q (Hd H9 p q) H9 G10 H10 ∧ G10 l = some (.lst ys) ∧ DqA G10 ys (.int (rows.length : Int) :: odds)) (fun Q2 kk => t1 (Hd H9 p q) H9 hP9.hd Q2 fun G10 H10 v10 g10 hv10 => by
        cases hv10 with
        | lst l1 l2 => exact kk _ _ _ ⟨G10, g10, l1, l2⟩) ?_
      rintro l ys H10 ⟨G10, g10, l1, l2⟩
      obtain ⟨n9, cs9, ap9, aq9, _⟩ := hP9.at_
      have x9 := e79 _ _ hx7'
      have a9 := e79 _ _ a7
      have xp : x ≠ p := fun z => by rw [z, ap9] at x9; cases x9
      have xq : x ≠ q := fun z => by rw [z, aq9] at x9; cases x9
      have aap : a ≠ p := fun z => by rw [z, ap9] at a9; cases a9
      have aaq : a ≠ q := fun z => by rw [z, aq9] at a9; cases a9
      have x10 := g10.off _ _ xp xq x9
      have a10 := g10.off _ _ aap aaq a9
      have hGH : Ex G4 G10 := fun b o hb => g10.ex _ _ (by
        have bp : b ≠ p := fun z => by rw [z, hP4.gp] at hb; cases hb
        have bq : b ≠ q := fun z => by rw [z, hP4.gq] at hb; cases hb
        unfold Hd
        rw [if_neg (by simp [bp, bq])]
        exact hP9.ex _ _ hb)
      have d10 : DqA H10 xs rows := h2.mono (hGH.trans g10.pl.ex)
      have ll := l2.length
      refine ⟨sq_of (g10.pl.ex _ _ l1), fun i σ' H' => Ex H10 H' ∧ ∃ o, σ' = [some (.ref a0), some (.ref p), some (.int sp), some lv, some (.ref a), o5, o6, some .non, some (.ref x), some (.int (rows.length : Int)), o, none, none], ⟨Ex.refl _, _, rfl⟩, (fun i σ' H' _ h => sq_of (h.1 _ _ (g10.pl.ex _ _ l1))), ?_, ?_⟩
      · rintro i y σ' H11 hy ⟨e11, o, rfl⟩
        obtain ⟨dy, edy, hdy⟩ := l2.get hy
        obtain ⟨n1, n2, n3, n4, n5, n6⟩ := hno dy (List.mem_of_getElem? edy)
        refine g_name ?_
        change tIfS _ _ _ _ [some (.ref a0), some (.ref p), some (.int sp), some lv, some (.ref a), o5, o6, some .non, some (.ref x), some (.int (rows.length : Int)), some y, none, none] H11
        refine s_when (b := !true) (et_not (et_B (ev_call (ea_cons (x := .ref x) (ev_var rfl) (ea_cons (x := y) (ev_var rfl) ea_nil)) fun H12 e12 Q2 q2 E2 => ⟨x, dx, .ref a, y, dy, rows, rfl, (e11.trans e12) _ _ x10, .tup ((e11.trans e12) _ _ a10) (d10.mono (e11.trans e12)), hdy.mono (g10.pl.ex.trans (e11.trans e12)), n1, n2, n3, n4, n5, n6, fun H13 e13 => q2 H13 e13⟩))) (fun z => by cases z) (fun _ H12 e12 => ⟨e11.trans e12, _, rfl⟩)
      rintro σ' H11 ⟨e11, o, rfl⟩
      refine q_forR1 (ea_cons ev_c ea_nil) (n := 2) (by omega) (fun i σ' H' => Ex H10 H' ∧ ∃ o6 o10 o11, σ' = [some (.ref a0), some (.ref p), some (.int sp), some lv, some (.ref a), o5, o6, some .non, some (.ref x), some (.int (rows.length : Int)), o10, o11, none]) (fun H12 e12 => ⟨e11.trans e12, _, _, _, rfl⟩) ?_ ?_
      · rintro i σ' H12 hi ⟨e12, o6', o10, o11, rfl⟩
        change tFor _ _ _ _ [some (.ref a0), some (.ref p), some (.int sp), some lv, some (.ref a), o5, some (.int (i : Int)), some .non, some (.ref x), some (.int (rows.length : Int)), o10, o11, none] H12
        refine s_forR1 (ea_cons (ev_var rfl) ea_nil) (n := (rows.length : Int)) (by omega) (fun j σ' H' => Ex H10 H' ∧ ∃ o6 o10 o11, σ' = [some (.ref a0), some (.ref p), some (.int sp), some lv, some (.ref a), o5, o6, some .non, some (.ref x), some (.int (rows.length : Int)), o10, o11, none]) (fun H13 e13 => ⟨e12.trans e13, _, _, _, rfl⟩) ?_ (fun σ' H' h => h)
        rintro j σ' H13 hj ⟨e13, o6'', o10', o11', rfl⟩
        change tIfS _ _ _ _ [some (.ref a0), some (.ref p), some (.int sp), some lv, some (.ref a), o5, o6'', some .non, some (.ref x), some (.int (rows.length : Int)), o10', some (.int (j : Int)), none] H13
        have hjl : j < rows.length := by omega
        have hrj : rows[j]? = some rows[j] := List.getElem?_eq_getElem hjl
        obtain ⟨xv, hxv, hdv⟩ := (d10.mono e13).at hrj
        have hrow := hG j _ hrj
        have hR : isR (rows.length : Int) (.int (j : Int)) = true := by
          show (true && (decide (0 ≤ (j : Int)) && decide ((j : Int) ≤ (rows.length : Int) - 1))) = true
          rw [decide_eq_true (show 0 ≤ (j : Int) by omega), decide_eq_true (show (j : Int) ≤ (rows.length : Int) - 1 by omega)]
          rfl
        refine ⟨.ref x, rfl, x, dx, _, rfl, e13 _ _ x10, wf_no _ _ (by decide +kernel) (by decide +kernel), .int (j : Int), rfl, x, dx, .ref a, .int (j : Int), .int (j : Int), rows, rfl, e13 _ _ x10, .tup (e13 _ _ a10) (d10.mono e13), .int _, fun _ v' row H14 hr14 hv' e14 => ?_, fun z => ?_⟩
        · have er : row = rows[j] := by
            rw [show (valI (.int (j : Int))).toNat = j by simp [valI], hrj] at hr14
            exact (Option.some.inj hr14).symm
          subst er
          refine ⟨.ref a, rfl, .int (j : Int), rfl, a, xs, (j : Int), xv, rfl, rfl, st_of ((e13.trans e14) _ _ a10), atI_nat hxv, .bl true, ⟨v', xv, rows[j], rfl, hv'.mono e14, hdv.mono e14, smp_row hrow, rfl⟩, fun H15 e15 => ⟨true, rfl, ?_⟩⟩
          exact ite2 (fun z => absurd z (by decide)) (fun _ => ⟨(e13.trans e14).trans e15, _, _, _, rfl⟩)
        · rw [hR] at z
          cases z
      · rintro σ' H12 ⟨e12, o6', o10, o11, rfl⟩
        exact s_ret (hsz (e12 _ _ x10)) fun H13 e13 => k H13
end
end Wk

set_option Elab.async false
set_option linter.all false
set_option maxRecDepth 100000
set_option maxHeartbeats 4000000
namespace Wk
open PySem PySem.Spec PyProof.Rows L2 Evl
/-! the end: the law is called where no repr is under way -/
abbrev scO (vs : List Value) : Obj := { cls := .type "list", data := .seq vs.toArray }
section
variable {P : Program} {w : World} {K : PySem.W.Frag} {mg mb : Str → Option Value} {k : Nat} {fa a : Addr} {fd : FuncData} {x : Str} {sp : Sp} {s : Shared} {vs : List Value}
theorem gcall (kx : K.In s.heap) (g1 : s.heap.Ns mainGlobals mg) (g2 : s.heap.Ns builtinsNs mb) (g3 : ∀ y : Str, y ≠ "__name__" → mb y = bootBuiltins y) (g4 : s.heap.NoLimit) (g5 : s.gens = #[])
    (oa : s.heap.get? a = some (scO vs)) (room : Room k callerA) (Fn : ∀ base : Heap, K.In base → base.Ns mainGlobals mg → FnG P w K mg base k fa fd [x] sp) (bd : ∀ (t : Shared) (u : Value), BindsTo t fd ⟨[u], []⟩ [(x, u)])
    (H : Hp) (only : ∀ b, H b = none ∨ (b = a ∧ ∃ o xs, H b = some (.frz o (.lst xs)))) (hok : HOk P w H s.heap) (kh : H a ≠ none → K.lookup a = none) (hq : sp [.ref a] H (fun v _ => v = .bl true) fun _ _ _ => False) :
    codeAny (model P w) callerA (.call (.ref fa) ⟨[.ref a], []⟩) (fun r t => r = .ok (.ret (.bool true)) ∧ OldK s.heap t.heap ∧ t.os = s.os ∧ AllBare t.gens) s := by
  have off : ∀ b, b ≠ a → H b = none := fun b nb => (only b).elim id fun z => absurd z.1 nb
  have ns : ∀ {b : Addr} {m : Str → Option Value}, s.heap.Ns b m → (hidT s.heap H).Ns b m := fun {b m} z => by
    obtain ⟨o, es, ep, e, d, r⟩ := z
    refine ⟨o, es, ep, hidT_get e (off b fun c => ?_), d, r⟩
    rw [c, oa] at e
    cases e
    cases (show Data.seq vs.toArray _ = Data.dict es ep from d)
  have ki : K.In (hidT s.heap H) := fun b o e => by
    by_cases c : b = a
    · subst c
      cases z : H b with
      | none => exact hidT_get (kx b o e) z
      | some u =>
        rw [kh (by rw [z]; simp)] at e
        cases e
    · exact hidT_get (kx b o e) (off b c)
  have md : Mod K mg (hidT s.heap H) := ⟨ki, ns g1, ⟨mb, ns g2, g3⟩, g4.elim fun mc z => ⟨mc, ns z.1, z.2⟩⟩
  have ev : Env0 P w K mg (hidT s.heap H) callerA [] s H := ⟨rfl, md, fun b o e => of_hidT e, Nat.le_of_eq (hidT_size _ _), trivial, fun b hb => absurd (show b ∈ ([] : List Addr) from hb) (by simp), hok, .of_eq g5⟩
  have go := (Fn _ ki (ns g1)).run callerA [] s H ⟨[.ref a], []⟩ [.ref a] [.ref a] (fun v _ => v = .bl true) (fun _ _ _ => False) room rfl ev (bd s (.ref a)) (.cons rfl .nil) hq
  refine codeAny_mono go fun r t out => ?_
  match r, out with
  | .error e, out => exact False.elim out
  | .ok .next, out => exact False.elim out
  | .ok .brk, out => exact False.elim out
  | .ok .cont, out => exact False.elim out
  | .ok (.ret u), out =>
    obtain ⟨v, H', os, bare, un, hok', rv, q⟩ := out
    have q2 : v = .bl true := q
    subst q2
    have eu : u = Value.bool true := rv
    subst eu
    refine ⟨rfl, OldK.of_keep fun b o e => ?_, os, bare⟩
    rcases only b with z | ⟨_, ob, xs, z⟩
    · exact un.keep b o e z (by intro c; exact absurd (show b ∈ ([] : List Addr) from c) (by simp)) (by simp)
    · have e1 := (hok b _ z).1
      have e2 := (hok' b _ (un.frzs b ob _ z)).1
      rw [e] at e1
      cases e1
      exact e2
theorem gcall_all {ns : List Int} (kx : K.In s.heap) (g1 : s.heap.Ns mainGlobals mg) (g2 : s.heap.Ns builtinsNs mb) (g3 : ∀ y : Str, y ≠ "__name__" → mb y = bootBuiltins y) (g4 : s.heap.NoLimit) (g5 : s.gens = #[])
    (oa : s.heap.get? a = some (scO vs)) (hi : IntsAre vs ns) (hl : ns.length ≤ sizeLine) (room : Room k callerA) (Fn : ∀ base : Heap, K.In base → base.Ns mainGlobals mg → FnG P w K mg base k fa fd [x] sp) (bd : ∀ (t : Shared) (u : Value), BindsTo t fd ⟨[u], []⟩ [(x, u)])
    (hq : ∀ H : Hp, SqL K H a (ns.map V.int) → sp [.ref a] H (fun v _ => v = .bl true) fun _ _ _ => False) :
    codeAny (model P w) callerA (.call (.ref fa) ⟨[.ref a], []⟩) (fun r t => r = .ok (.ret (.bool true)) ∧ OldK s.heap t.heap ∧ t.os = s.os ∧ AllBare t.gens) s := by
  have rv := vals_ints hi
  have lv := hi.length
  by_cases hk : K.lookup a = none
  · refine gcall kx g1 g2 g3 g4 g5 oa room Fn bd (fun b => if b = a then some (.frz (scO vs) (.lst (ns.map V.int))) else none) (fun b => ?_) (fun b u z => ?_) (fun _ => hk) (hq _ (.inl (.inr ⟨scO vs, if_pos rfl⟩)))
    · by_cases c : b = a
      · exact .inr ⟨c, _, _, if_pos c⟩
      · exact .inl (if_neg c)
    · by_cases c : b = a
      · subst c
        have z2 := (if_pos rfl).symm.trans z
        cases z2
        exact ⟨oa, by rw [List.length_map]; exact hl, vs, _, rv, oa⟩
      · have z2 := (if_neg c).symm.trans z
        cases z2
  · obtain ⟨o, ho⟩ := Option.ne_none_iff_exists'.mp hk
    have e := kx a o ho
    rw [oa] at e
    cases e
    exact gcall kx g1 g2 g3 g4 g5 oa room Fn bd (fun _ => none) (fun _ => .inl rfl) (fun b u z => by cases z) (fun z => absurd rfl z) (hq _ (.inr ⟨_, vs.toArray, _, ho, rfl, rfl, rfl, by rw [List.size_toArray, lv]; exact hl, by simpa using rv⟩))
end
/-- from the promise of the law's def to what the head leaves -/
theorem walkG {l : PySem.W.OpenLaw} {n k : Nat} {q : Program} {loose : List Str} {XP : (Str → Option Value) → Heap → Prop} {YP : World → Heap → Prop} {d : DefRec} {x : Str} (hn : l.most = some n) (hn2 : n ≤ sizeLine) (hd : d.params.defaults = []) (hr : Room k callerA)
    (F : ∀ (w : World) (mg : Str → Option Value) (fa : Addr) (h : Heap), YP w h → h.Ns mainGlobals mg → mg d.name = some (.ref fa) → ∃ (K : PySem.W.Frag) (fd : FuncData) (sp : Sp), K.In h ∧ (∀ (t : Shared) (u : Value), BindsTo t fd ⟨[u], []⟩ [(x, u)]) ∧
      (∀ (H : Hp) (a : Addr) (ns : List Int), ns.length ≤ n → SqL K H a (ns.map V.int) → sp [.ref a] H (fun v _ => v = .bl true) fun _ _ _ => False) ∧ ∀ base : Heap, K.In base → base.Ns mainGlobals mg → FnG l.prog w K mg base k fa fd [x] sp) :
    PySem.W.WalkO q loose XP YP l.row.toRowW d [] (fun f vs => PySem.call f vs) := by
  refine Att.attach_call hn hd fun w s₀ s₁ mg mb fa o pm cd doc a vs ns G Y _ _ _ hmg hobj hints hlen hg => ?_
  obtain ⟨K, fd, sp, kx, hb, hsp, hF⟩ := F w mg fa _ Y G.T.g hmg
  exact gcall_all kx G.T.g G.T.b G.T.builtins G.T.nolimit hg hobj hints (Nat.le_trans hlen hn2) hr hF hb fun H hS => hsp H a ns hlen hS
/-! facts of own errors -/
def exB (K : PySem.W.Frag) (C : Addr) : Bool := (match K.lookup C with
  | some o => (match o.cls, o.data, o.slots.toList with
    | .type t, .cls cd, [_, _, _, _, some (.builtin n), _] => decide (t = "type") && (decide (n = "ValueError.__new__") && (cd.hasDict && (!cd.hasDel && (match cd.mro with
      | .ref c :: bm => decide (c = C) && PySem.HandSPX.refsVE bm
      | _ => false))))
    | _, _, _ => false)
  | none => false) && (He.eqO (PySem.W.findIn K (.ref C) "__setattr__") (some (some (.builtin "object.__setattr__"))) && (decide (PySem.W.subIn K (.ref C) (.type "BaseException") = some true) && (decide (PySem.W.typeIn K (.ref C) = some (.type "type")) && (PySem.W.keepIn K (.ref C) && xfB K C))))
theorem exB_ok {K : PySem.W.Frag} {C : Addr} (h : exB K C = true) : OexC K C ∧ XfC K C := by
  unfold exB at h
  obtain ⟨h1, h⟩ := He.ba h
  obtain ⟨h2, h⟩ := He.ba h
  obtain ⟨h3, h⟩ := He.ba h
  obtain ⟨h4, h⟩ := He.ba h
  obtain ⟨h5, h6⟩ := He.ba h
  refine ⟨⟨?_, He.eqO_ok h2, of_decide_eq_true h3, of_decide_eq_true h4, h5⟩, xfB_ok h6⟩
  cases hl : K.lookup C with
  | none =>
    rw [hl] at h1
    cases h1
  | some o =>
    rw [hl] at h1
    obtain ⟨oc, od, dt, ⟨sl⟩⟩ := o
    dsimp only at h1
    split at h1
    · rename_i t cd k0 k1 k2 k3 n k5
      obtain ⟨z1, h1⟩ := He.ba h1
      obtain ⟨z2, h1⟩ := He.ba h1
      obtain ⟨z3, h1⟩ := He.ba h1
      obtain ⟨z4, h1⟩ := He.ba h1
      split at h1
      · rename_i c bm hm
        obtain ⟨z5, z6⟩ := He.ba h1
        obtain ⟨x1, x2, x3, x4, x5, x6, x7, x8, x9, x10, x11⟩ := cd
        dsimp only at z3 z4 hm
        have y1 := of_decide_eq_true z1
        have y2 := of_decide_eq_true z2
        have y5 := of_decide_eq_true z5
        have y4 : x11 = false := by simpa using z4
        subst y1 y2 y5 y4 z3 hm
        exact ⟨x1, x5, x4, x2, bm, x7, x8, x9, x10, od, k0, k1, k2, k3, k5, rfl, z6⟩
      · cases h1
    · cases h1
/-! the head's facts with those of own errors -/
abbrev AlX : Type := He.AlD × Bool
def obsX (n : Nat) (fa : List He.Fa) (fn : List He.DefD) (ex : List Str) (g : Addr → Option Obj) : AlX := (He.obsDG n fa fn g, ex.all fun x => exB (He.frG g (He.asD g n)) (He.ga (He.frG g (He.asD g n)) x))
def hookX (n : Nat) (fa : List He.Fa) (fn : List He.DefD) (ex : List Str) : PySem.W.Hook where
  α := AlX
  obs := fun s => obsX n fa fn ex s.heap.get?
  val := fun _ => (He.valD fn, true)
  says := fun _ h => ∃ K : PySem.W.Frag, K.In h ∧ He.SaysD fa fn K ∧ ∀ x ∈ ex, exB K (He.ga K x) = true
  of := fun _ _ e => ⟨_, He.frG_in, congrArg Prod.fst e, List.all_eq_true.mp (congrArg Prod.snd e)⟩
  keeps := fun _ _ _ ⟨K, hK, c⟩ k => ⟨K, PySem.W.Frag.In.keeps hK k, c⟩
theorem obsX_eq {n : Nat} {fa : List He.Fa} {fn : List He.DefD} {ex : List Str} {g : Addr → Option Obj} {s : Shared} (h : ∀ a, g a = s.heap.get? a) : obsX n fa fn ex g = (hookX n fa fn ex).obs s := by
  have e : g = s.heap.get? := funext h
  rw [e]
  rfl
end Wk

set_option Elab.async false
set_option linter.all false
set_option maxRecDepth 100000
set_option maxHeartbeats 0
namespace Wk
open PySem PySem.Spec PyProof.Rows L2 Evl
def dG (x : Str) (i : Nat) : He.DefD := ⟨(x, none), x, x, defArgs (top i), defBody (top i), defScope (top i), [], []⟩
def dM (c m q : Str) (i j : Nat) : He.DefD := ⟨(c, some m), m, q, defArgs (inClass (top i) j), defBody (inClass (top i) j), defScope (inClass (top i) j), [], []⟩
def fn : List He.DefD := ([dG "is_integer" 7, dG "is_between" 8, dG "is_router" 9, dG "is_way" 12, dG "refuse_wrong_lists" 17, dG "is_way_list" 18, dG "has_let_rest" 19, dG "_law_pool" 21, dG "_law_draw" 22, dG "_law_order" 23, dG "_law_planted" 24, dG "_law_add" 25, dG "_law_lists" 26, dG "_law_same" 27, dG "_law_is_int" 28] : List He.DefD) ++ ([dG "_law_odd" 29, dG "_law_edit" 30, dG "_law_wrapped" 31, dG "_law_is_way" 32, dG "_law_is_row" 33, dG "_law_due" 34, dG "_law_refusal" 35, dG "_law_no_router" 36, dG "law" 37, dM "Wishes" "__init__" "Wishes.__init__" 16 0, dM "Wishes" "ways" "Wishes.ways" 16 2, dM "NoRouter" "__init__" "NoRouter.__init__" 3 0, dM "BadWishes" "__init__" "BadWishes.__init__" 4 0, dG "refuse_no_router" 10, dG "is_size" 11] : List He.DefD)
def fa : List He.Fa := ([.glo "is_integer", .glo "is_between", .glo "is_router", .glo "is_way", .glo "refuse_wrong_lists", .glo "is_way_list", .glo "has_let_rest", .glo "_law_pool", .glo "_law_draw", .glo "_law_order", .glo "_law_planted", .glo "_law_add", .glo "_law_lists", .glo "_law_same", .glo "_law_is_int", .glo "_law_odd", .glo "_law_edit", .glo "_law_wrapped", .glo "_law_is_way", .glo "_law_is_row", .glo "_law_due", .glo "_law_refusal", .glo "_law_no_router", .glo "law"] : List He.Fa) ++ ([.free "isinstance", .free "len", .free "tuple", .free "list", .free "int", .free "bool", .free "str", .free "all", .free "set", .free "enumerate", .free "range", .free "abs", .free "min", .free "repr", .int "MOST_ROUTERS" 8, .int "MOST_WAYS" 6, .glo "Wishes", .cls "Wishes", .mkr "Wishes", .meth "Wishes" "ways"] : List He.Fa) ++ ([.noat "Wishes" "size", .noat "Wishes" "_lists", .glo "BadWishes", .glo "NoRouter", .exm "BadWishes" "BadWishes" true, .exm "NoRouter" "NoRouter" true, .noat "NoRouter" "router", .noat "BadWishes" "router", .meth "NoRouter" "__init__", .meth "BadWishes" "__init__", .glo "refuse_no_router", .glo "is_size", .int "LEAST_ROUTERS" 2] : List He.Fa)
def ex : List Str := ["NoRouter", "BadWishes"]
abbrev R : PySem.W.OpenRow := PySem.W.OpenLaw.row PySem.Challenge.rw_wishreels_k00_wishes_and_errors
abbrev hk : PySem.W.Hook := hookX 4 fa fn ex
def ob (s : PySem.W.SharedT) : AlX := obsX 4 fa fn ex (HandSHeadRun.getT s)
theorem ob_eq (s : PySem.W.SharedT) : ob s = hk.obs s.abs := obsX_eq (HandSHeadRun.getT_eq s)
def loose : List Str := (["_wall", "__name__", "WishError", "NoRouter", "BadWishes", "is_integer", "is_between", "is_router", "refuse_no_router", "is_size", "LEAST_ROUTERS", "is_way", "MOST_ROUTERS", "MOST_WAYS", "Wishes", "refuse_wrong_lists", "is_way_list", "has_let_rest", "_law_pool", "_law_draw"] : List Str) ++ (["_law_order", "_law_planted", "_law_add", "_law_lists", "_law_same", "_law_is_int", "_law_odd", "_law_edit", "_law_wrapped", "_law_is_way", "_law_is_row", "_law_due", "_law_refusal", "_law_no_router"] : List Str)
theorem run (w : World) : HandSHeadRun.RunEq R (PySem.W.view R.prog [37]) hk ob 4000 loose w := by
  intro os
  kernel_rfl
end Wk

set_option Elab.async false
set_option linter.all false
set_option maxRecDepth 100000
set_option maxHeartbeats 4000000
namespace Wk
open PySem PySem.Spec PyProof.Rows L2 Evl
theorem calOf {P : Program} {w : World} {K : PySem.W.Frag} {mg : Str → Option Value} {base : Heap} {x q : Str} {params : Arguments} {body : List Stmt} {scope : Scope} {f : Addr} {fd : FuncData} {ps : List Str} {k : Nat} {sp : Sp} (F : FunD K x q params body scope [] [] f fd) (o : FnOk P w K mg base CX0 k f fd ps sp) (g : mg x = some (.ref f)) (b : Binds K fd ps []) : Cal P w K mg base x ps k sp := ⟨⟨f, fd, o, g, F.kp, b⟩⟩
theorem facts {P : Program} {w : World} {K : PySem.W.Frag} {h : Heap} {mg : Str → Option Value} {f : Addr} (X : K.In h) (G : h.Ns mainGlobals mg) (hfa : mg ("law" : Str) = some (.ref f)) (c : He.SaysD fa fn K) (cx : ∀ x ∈ ex, exB K (He.ga K x) = true) :
    ∃ fd : FuncData, (∀ (t : Shared) (u : Value), BindsTo t fd ⟨[u], []⟩ [("_law_script", u)]) ∧ ∀ base : Heap, K.In base → base.Ns mainGlobals mg → FnG P w K mg base 11 f fd ["_law_script"] (spLaw K) := by
  obtain ⟨d0, F0⟩ := c.def_ 0 (d := dG "is_integer" 7) rfl
  obtain ⟨d1, F1⟩ := c.def_ 1 (d := dG "is_between" 8) rfl
  obtain ⟨d2, F2⟩ := c.def_ 2 (d := dG "is_router" 9) rfl
  obtain ⟨d3, F3⟩ := c.def_ 3 (d := dG "is_way" 12) rfl
  obtain ⟨d4, F4⟩ := c.def_ 4 (d := dG "refuse_wrong_lists" 17) rfl
  obtain ⟨d5, F5⟩ := c.def_ 5 (d := dG "is_way_list" 18) rfl
  obtain ⟨d6, F6⟩ := c.def_ 6 (d := dG "has_let_rest" 19) rfl
  obtain ⟨d7, F7⟩ := c.def_ 7 (d := dG "_law_pool" 21) rfl
  obtain ⟨d8, F8⟩ := c.def_ 8 (d := dG "_law_draw" 22) rfl
  obtain ⟨d9, F9⟩ := c.def_ 9 (d := dG "_law_order" 23) rfl
  obtain ⟨d10, F10⟩ := c.def_ 10 (d := dG "_law_planted" 24) rfl
  obtain ⟨d11, F11⟩ := c.def_ 11 (d := dG "_law_add" 25) rfl
  obtain ⟨d12, F12⟩ := c.def_ 12 (d := dG "_law_lists" 26) rfl
  obtain ⟨d13, F13⟩ := c.def_ 13 (d := dG "_law_same" 27) rfl
  obtain ⟨d14, F14⟩ := c.def_ 14 (d := dG "_law_is_int" 28) rfl
  obtain ⟨d15, F15⟩ := c.def_ 15 (d := dG "_law_odd" 29) rfl
  obtain ⟨d16, F16⟩ := c.def_ 16 (d := dG "_law_edit" 30) rfl
  obtain ⟨d17, F17⟩ := c.def_ 17 (d := dG "_law_wrapped" 31) rfl
  obtain ⟨d18, F18⟩ := c.def_ 18 (d := dG "_law_is_way" 32) rfl
  obtain ⟨d19, F19⟩ := c.def_ 19 (d := dG "_law_is_row" 33) rfl
  obtain ⟨d20, F20⟩ := c.def_ 20 (d := dG "_law_due" 34) rfl
  obtain ⟨d21, F21⟩ := c.def_ 21 (d := dG "_law_refusal" 35) rfl
  obtain ⟨d22, F22⟩ := c.def_ 22 (d := dG "_law_no_router" 36) rfl
  obtain ⟨d23, F23⟩ := c.def_ 23 (d := dG "law" 37) rfl
  obtain ⟨d24, F24⟩ := c.def_ 24 (d := dM "Wishes" "__init__" "Wishes.__init__" 16 0) rfl
  obtain ⟨d25, F25⟩ := c.def_ 25 (d := dM "Wishes" "ways" "Wishes.ways" 16 2) rfl
  obtain ⟨d26, F26⟩ := c.def_ 26 (d := dM "NoRouter" "__init__" "NoRouter.__init__" 3 0) rfl
  obtain ⟨d27, F27⟩ := c.def_ 27 (d := dM "BadWishes" "__init__" "BadWishes.__init__" 4 0) rfl
  obtain ⟨d28, F28⟩ := c.def_ 28 (d := dG "refuse_no_router" 10) rfl
  obtain ⟨d29, F29⟩ := c.def_ 29 (d := dG "is_size" 11) rfl
  have B : Bl mg := ⟨He.free_ok X G (c.fact 24 rfl), He.free_ok X G (c.fact 25 rfl), He.free_ok X G (c.fact 26 rfl), He.free_ok X G (c.fact 27 rfl), He.free_ok X G (c.fact 28 rfl), He.free_ok X G (c.fact 29 rfl), He.free_ok X G (c.fact 30 rfl), He.free_ok X G (c.fact 31 rfl), He.free_ok X G (c.fact 32 rfl), He.free_ok X G (c.fact 33 rfl), He.free_ok X G (c.fact 34 rfl), He.free_ok X G (c.fact 35 rfl), He.free_ok X G (c.fact 36 rfl), He.free_ok X G (c.fact 37 rfl)⟩
  obtain ⟨t8, m8⟩ := He.int_ok X G (c.fact 38 (f := .int "MOST_ROUTERS" 8) rfl)
  obtain ⟨t6, m6⟩ := He.int_ok X G (c.fact 39 (f := .int "MOST_WAYS" 6) rfl)
  obtain ⟨t2, m2⟩ := He.int_ok X G (c.fact 56 (f := .int "LEAST_ROUTERS" 2) rfl)
  have TX : WTx K mg (He.ga K "Wishes") := ⟨He.cls_ok (c.fact 41 rfl), He.noat_ok (c.fact 44 rfl), He.noat_ok (c.fact 45 rfl), He.glo_ok X G (c.fact 40 rfl)⟩
  obtain ⟨oN, xN⟩ := exB_ok (cx "NoRouter" (by simp [ex]))
  obtain ⟨oB, xB⟩ := exB_ok (cx "BadWishes" (by simp [ex]))
  have nN : PySem.W.findIn K (.ref (He.ga K "NoRouter")) "router" = some none := He.noat_ok (c.fact 50 (f := .noat "NoRouter" "router") rfl)
  have nB : PySem.W.findIn K (.ref (He.ga K "BadWishes")) "router" = some none := He.noat_ok (c.fact 51 (f := .noat "BadWishes" "router") rfl)
  have iN := He.meth_ok (c.fact 52 (f := .meth "NoRouter" "__init__") rfl)
  have iB := He.meth_ok (c.fact 53 (f := .meth "BadWishes" "__init__") rfl)
  have e := hfa.symm.trans (He.glo_ok X G (c.fact 23 (f := .glo "law") rfl))
  cases e
  have b23 := FunD.bindsA (ps := ["_law_script"]) F23 fun _ _ _ _ _ _ us hl => match us, hl with | [_], _ => rfl
  refine ⟨d23, fun t u => b23 t [u] rfl, fun base _ _ => ?_⟩
  have C0 : Cal P w K mg base "is_integer" ["thing"] 1 spIsInt := calOf F0 (ok_isInt B F0) (He.glo_ok X G (c.fact 0 rfl)) (F0.bindsN fun _ _ _ _ _ _ us hl => match us, hl with | [_], _ => rfl)
  have C1 : Cal P w K mg base "is_between" ["least", "most", "thing"] 2 spBetween := calOf F1 (ok_between B C0 F1) (He.glo_ok X G (c.fact 1 rfl)) (F1.bindsN fun _ _ _ _ _ _ us hl => match us, hl with | [_, _, _], _ => rfl)
  have C2 : Cal P w K mg base "is_router" ["size", "thing"] 3 spRouter := calOf F2 (ok_router C1 F2) (He.glo_ok X G (c.fact 2 rfl)) (F2.bindsN fun _ _ _ _ _ _ us hl => match us, hl with | [_, _], _ => rfl)
  have C3 : Cal P w K mg base "is_way" ["size", "router", "thing"] 5 spWay := calOf F3 (ok_way B m8 C2 F3) (He.glo_ok X G (c.fact 3 rfl)) (F3.bindsN fun _ _ _ _ _ _ us hl => match us, hl with | [_, _, _], _ => rfl)
  have C5 : Cal P w K mg base "is_way_list" ["size", "router", "thing"] 6 spRow := calOf F5 (ok_row B m6 C3 F5) (He.glo_ok X G (c.fact 5 rfl)) (F5.bindsN fun _ _ _ _ _ _ us hl => match us, hl with | [_, _, _], _ => rfl)
  have C6 : Cal P w K mg base "has_let_rest" ["lists", "way"] 1 spRest := calOf F6 (ok_rest F6) (He.glo_ok X G (c.fact 6 rfl)) (F6.bindsN fun _ _ _ _ _ _ us hl => match us, hl with | [_, _], _ => rfl)
  have EN : Err P w K mg base "NoRouter" (He.ga K "NoRouter") := ⟨He.glo_ok X G (c.fact 47 rfl), oN, xN, nN, He.exm_ok (c.fact 49 rfl), ⟨_, d26, iN.at_, beq_iff_eq.mp iN.fn, ok_xn oN nN F26, F26.bindsN fun _ _ _ _ _ _ us hl => match us, hl with | [_, _], _ => rfl⟩⟩
  have EB : Err P w K mg base "BadWishes" (He.ga K "BadWishes") := ⟨He.glo_ok X G (c.fact 46 rfl), oB, xB, nB, He.exm_ok (c.fact 48 rfl), ⟨_, d27, iB.at_, beq_iff_eq.mp iB.fn, ok_xb oB nB F27, F27.bindsN fun _ _ _ _ _ _ us hl => match us, hl with | [_, _], _ => rfl⟩⟩
  have CS : Cal P w K mg base "is_size" ["least", "thing"] 3 spSize := calOf F29 (ok_size m8 C1 F29) (He.glo_ok X G (c.fact 55 rfl)) (F29.bindsN fun _ _ _ _ _ _ us hl => match us, hl with | [_, _], _ => rfl)
  have CR : CalX P w K mg base "refuse_no_router" ["size", "thing"] 4 (spNoRt (He.ga K "NoRouter")) := ⟨⟨_, d28, ok_noRt EN C2 F28, He.glo_ok X G (c.fact 54 rfl), F28.kp, F28.bindsN fun _ _ _ _ _ _ us hl => match us, hl with | [_, _], _ => rfl⟩⟩
  have C4 : CalX P w K mg base "refuse_wrong_lists" ["lists"] 7 (spRefuse (He.ga K "BadWishes")) := ⟨⟨_, d4, ok_refuse B m2 CS EB C5 C6 F4, He.glo_ok X G (c.fact 4 rfl), F4.kp, F4.bindsN fun _ _ _ _ _ _ us hl => match us, hl with | [_], _ => rfl⟩⟩
  have MW : Mkr P w K mg base (He.ga K "Wishes") (He.ga K "BadWishes") := ⟨TX, ⟨_, d24, He.mkr_ok (c.fact 42 rfl), ok_wi B TX C4 F24, F24.bindsN fun _ _ _ _ _ _ us hl => match us, hl with | [_, _], _ => rfl⟩⟩
  have MY : Wys P w K mg base (He.ga K "Wishes") (He.ga K "NoRouter") := ⟨⟨_, d25, He.meth_ok (c.fact 43 rfl), ok_ways TX CR F25, F25.bindsN fun _ _ _ _ _ _ us hl => match us, hl with | [_, _], _ => rfl⟩⟩
  have D7 : Cal P w K mg base "_law_pool" ["_law_script"] 1 (spPool K) := calOf F7 (ok_pool B F7) (He.glo_ok X G (c.fact 7 rfl)) (F7.bindsN fun _ _ _ _ _ _ us hl => match us, hl with | [_], _ => rfl)
  have D8 : Cal P w K mg base "_law_draw" ["_law_pool_here", "_law_size"] 1 spDraw := calOf F8 (ok_draw B F8) (He.glo_ok X G (c.fact 8 rfl)) (F8.bindsN fun _ _ _ _ _ _ us hl => match us, hl with | [_, _], _ => rfl)
  have D9 : Cal P w K mg base "_law_order" ["_law_pool_here", "_law_size"] 2 spOrder := calOf F9 (ok_order B D8 F9) (He.glo_ok X G (c.fact 9 rfl)) (F9.bindsN fun _ _ _ _ _ _ us hl => match us, hl with | [_, _], _ => rfl)
  have D10 : Cal P w K mg base "_law_planted" ["_law_pool_here", "_law_size"] 3 spPlanted := calOf F10 (ok_planted B D8 D9 F10) (He.glo_ok X G (c.fact 10 rfl)) (F10.bindsN fun _ _ _ _ _ _ us hl => match us, hl with | [_, _], _ => rfl)
  have D11 : Cal P w K mg base "_law_add" ["_law_pool_here", "_law_lists_here", "_law_limit", "_law_cap"] 2 spAdd := calOf F11 (ok_add B D8 F11) (He.glo_ok X G (c.fact 11 rfl)) (F11.bindsN fun _ _ _ _ _ _ us hl => match us, hl with | [_, _, _, _], _ => rfl)
  have D12 : Cal P w K mg base "_law_lists" ["_law_pool_here", "_law_most", "_law_limit", "_law_cap"] 5 spLists := calOf F12 (ok_lists B D8 D10 D11 F12) (He.glo_ok X G (c.fact 12 rfl)) (F12.bindsN fun _ _ _ _ _ _ us hl => match us, hl with | [_, _, _, _], _ => rfl)
  have D13 : Cal P w K mg base "_law_same" ["_law_actual", "_law_expected"] 3 (spSame 2) := calOf F13 (same_all B F13 (He.glo_ok X G (c.fact 13 rfl)) 2) (He.glo_ok X G (c.fact 13 rfl)) (F13.bindsN fun _ _ _ _ _ _ us hl => match us, hl with | [_, _], _ => rfl)
  have D14 : Cal P w K mg base "_law_is_int" ["_law_thing"] 1 spIsInt := calOf F14 (ok_lIsInt B F14) (He.glo_ok X G (c.fact 14 rfl)) (F14.bindsN fun _ _ _ _ _ _ us hl => match us, hl with | [_], _ => rfl)
  have D15 : Cal P w K mg base "_law_odd" ["_law_pool_here", "_law_router", "_law_size"] 2 spOdd := calOf F15 (ok_odd B D8 F15) (He.glo_ok X G (c.fact 15 rfl)) (F15.bindsN fun _ _ _ _ _ _ us hl => match us, hl with | [_, _, _], _ => rfl)
  have D16 : Cal P w K mg base "_law_edit" ["_law_pool_here", "_law_rows"] 3 spEdit := calOf F16 (ok_edit B D8 D15 F16) (He.glo_ok X G (c.fact 16 rfl)) (F16.bindsN fun _ _ _ _ _ _ us hl => match us, hl with | [_, _], _ => rfl)
  have D17 : Cal P w K mg base "_law_wrapped" ["_law_pool_here", "_law_rows"] 2 spWrapped := calOf F17 (ok_wrapped B D8 F17) (He.glo_ok X G (c.fact 17 rfl)) (F17.bindsN fun _ _ _ _ _ _ us hl => match us, hl with | [_, _], _ => rfl)
  have D18 : Cal P w K mg base "_law_is_way" ["_law_size", "_law_router", "_law_thing"] 2 spWay := calOf F18 (ok_lWay B D14 F18) (He.glo_ok X G (c.fact 18 rfl)) (F18.bindsN fun _ _ _ _ _ _ us hl => match us, hl with | [_, _, _], _ => rfl)
  have D19 : Cal P w K mg base "_law_is_row" ["_law_size", "_law_router", "_law_row"] 3 spRow := calOf F19 (ok_lRow B D18 F19) (He.glo_ok X G (c.fact 19 rfl)) (F19.bindsN fun _ _ _ _ _ _ us hl => match us, hl with | [_, _, _], _ => rfl)
  have D20 : Cal P w K mg base "_law_due" ["_law_thing"] 5 spDue := calOf F20 (ok_due B D19 F20) (He.glo_ok X G (c.fact 20 rfl)) (F20.bindsN fun _ _ _ _ _ _ us hl => match us, hl with | [_], _ => rfl)
  have D21 : Cal P w K mg base "_law_refusal" ["_law_thing"] 10 spRefusal := calOf F21 (ok_refusal MW EB F21) (He.glo_ok X G (c.fact 21 rfl)) (F21.bindsN fun _ _ _ _ _ _ us hl => match us, hl with | [_], _ => rfl)
  have D22 : CalG P w K mg base "_law_no_router" ["_law_wishes", "_law_thing"] 6 (spNoR (He.ga K "Wishes")) := ⟨⟨_, d22, ok_noR B TX MY EN F22, He.glo_ok X G (c.fact 22 rfl), F22.kp, F22.bindsN fun _ _ _ _ _ _ us hl => match us, hl with | [_, _], _ => rfl⟩⟩
  exact ok_law B ⟨D7, D8, D12, D16, D17, D20, D21, D13, D22, MW, MY⟩ F23
end Wk
open PySem PySem.W PySem.Calls PyProof.Rows
set_option maxHeartbeats 0
theorem PySem.Challenge.cw_wishreels_k00_wishes_and_errors_holds : PySem.Challenge.rw_wishreels_k00_wishes_and_errors.Holds := by
  w_on; o_law
  refine HandSHeadRun.head_any (r := Wk.R) (q := view Wk.R.prog [37]) (H := Wk.hk) (ob := Wk.ob) (M := 4000) (loose := Wk.loose) (d := HandSHeadRun.topDef Wk.R.prog 37) (kwd := []) Wk.ob_eq
    (by kernel_rfl) (fun s => by kernel_rfl) Wk.run (by kernel_rfl) (by kernel_rfl) (by kernel_rfl) (by rfl) (by first | assumption | decide +kernel) (by decide +kernel) ⟨rfl, rfl, rfl, rfl, rfl, by decide +kernel⟩ ?hw ?hc
  case hw => w_witness2
  case hc =>
    refine Wk.walkG (l := PySem.Challenge.rw_wishreels_k00_wishes_and_errors) (n := 63) (k := 11) (x := "_law_script") rfl (by decide) (by kernel_rfl) ⟨rfl, by decide, by decide⟩ ?_
    intro w mg fa h Y G hmg0
    obtain ⟨K, kx, c, cx⟩ := Y
    have hmg : mg ("law" : PySem.Str) = some (.ref fa) := by
      have e : (HandSHeadRun.topDef Wk.R.prog 37).name = ("law" : PySem.Str) := by kernel_rfl
      rw [← e]
      exact hmg0
    obtain ⟨fd, hb, hF⟩ := Wk.facts (P := (PySem.Challenge.rw_wishreels_k00_wishes_and_errors).prog) (w := w) kx G hmg c cx
    exact ⟨K, fd, Wk.spLaw K, kx, hb, fun H a ns hl hS => ⟨a, ns, rfl, hS, hl, fun _ => rfl⟩, hF⟩

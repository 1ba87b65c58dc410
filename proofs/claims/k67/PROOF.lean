import PyProof.Rows.All
import Wide.All
import OpenK.AllK
import Wide.FinOn
import KE.KStateDown
import HandS.ForMost
import HandS.More
import HandS.WordsExc
import HandS.Defaults
import HandS.Deep
import HandS.IsInst
import HandS.Evl
import HandS.Walk
import HandS.TupSets
import HandS.TupAny
import HandS.Conv
import PyProof.P3In
import HandS.SetFor
import HandS.Strs
import KE.GoesMore
import KE.GoesEnum
import HandS.ExcInit
import HandS.ExcField
import HandS.ExcOwn
import PyProof.NeKinds
import PyProof.EqKinds
import PyProof.FactsAll.subtypes_4
import PyProof.FactsAll.dict_1
import HandS.WideBits
import HandS.Wide
import HandS.DictComp
import HandS.Comp
import HandS.TupLe
import HandS.TupMul
import KE.KEqNest
import HandS.Small
import HandS.SortInts
import HandS.Style
import HandS.Head0
import HandS.Head1
import HandS.Head2
import HandS.HeadEnd
import HandS.HeadHook1
import HandS.HeadHook2
import PySem.Challenge.RW_wishreels_k67_restart_and_what_comes_bac
set_option Elab.async false
set_option linter.all false
set_option maxRecDepth 100000
set_option maxHeartbeats 2000000
namespace Wk
open PySem PySem.Spec PyProof.Rows L2 Evl
/-! data that stand in a heap -/
mutual
inductive Dq (G : Hp) : V → PyData → Prop
  | non : Dq G .non .none
  | bl (b : Bool) : Dq G (.bl b) (.bool b)
  | int (i : Int) : Dq G (.int i) (.int i)
  | str (x : Str) : Dq G (.str x) (.str x)
  | lst {a : Addr} {xs : List V} {ds : List PyData} : G a = some (.lst xs) → DqA G xs ds → Dq G (.ref a) (.list ds)
  | tup {a : Addr} {xs : List V} {ds : List PyData} : G a = some (.tup xs) → DqA G xs ds → Dq G (.ref a) (.tuple ds)
  | dic {a : Addr} : G a = some (.dK []) → Dq G (.ref a) (.dict [])
inductive DqA (G : Hp) : List V → List PyData → Prop
  | nil : DqA G [] []
  | cons {v : V} {vs : List V} {d : PyData} {ds : List PyData} : Dq G v d → DqA G vs ds → DqA G (v :: vs) (d :: ds)
end
mutual
theorem Dq.mono {G H : Hp} (e : Ex G H) : ∀ {d : PyData} {v : V}, Dq G v d → Dq H v d
  | .none, _, .non => .non
  | .bool _, _, .bl b => .bl b
  | .int _, _, .int i => .int i
  | .str _, _, .str x => .str x
  | .list _, _, .lst h a => .lst (e _ _ h) (DqA.mono e a)
  | .tuple _, _, .tup h a => .tup (e _ _ h) (DqA.mono e a)
  | .dict _, _, .dic h => .dic (e _ _ h)
theorem DqA.mono {G H : Hp} (e : Ex G H) : ∀ {ds : List PyData} {vs : List V}, DqA G vs ds → DqA H vs ds
  | [], _, .nil => .nil
  | _ :: _, _, .cons h t => .cons (Dq.mono e h) (DqA.mono e t)
end
mutual
theorem Dq.dp {K : PySem.W.Frag} {G : Hp} : ∀ {d : PyData} {v : V}, d.canLay0 = true → Dq G v d → Dp K G v d
  | .none, _, _, .non => .non
  | .bool _, _, _, .bl b => .bl b
  | .int _, _, _, .int i => .int i
  | .str _, _, _, .str x => .str x
  | .list ds, _, c, .lst h a => .lst (sq_of h) (DqA.dp (by simpa [PyData.canLay0] using c) a)
  | .tuple ds, _, c, .tup h a => .tup (st_of h) (DqA.dp (by simpa [PyData.canLay0] using c) a)
  | .dict _, _, c, .dic h => by simp [PyData.canLay0] at c
theorem DqA.dp {K : PySem.W.Frag} {G : Hp} : ∀ {ds : List PyData} {vs : List V}, PyData.canLayAll0 ds = true → DqA G vs ds → DpAll K G vs ds
  | [], _, _, .nil => .nil
  | d :: ds, _, c, .cons h t => by
    have c' : d.canLay0 = true ∧ PyData.canLayAll0 ds = true := by simpa [PyData.canLayAll0] using c
    exact .cons (Dq.dp c'.1 h) (DqA.dp c'.2 t)
end
theorem DqA.length {G : Hp} : ∀ {ds : List PyData} {vs : List V}, DqA G vs ds → vs.length = ds.length
  | [], _, .nil => rfl
  | _ :: _, _, .cons _ t => congrArg Nat.succ t.length
theorem DqA.get {G : Hp} : ∀ {ds : List PyData} {vs : List V} {i : Nat} {v : V}, DqA G vs ds → vs[i]? = some v → ∃ d, ds[i]? = some d ∧ Dq G v d
  | [], _, i, v, .nil, e => by simp at e
  | d :: _, _, 0, v, .cons h t, e => ⟨d, rfl, by simp at e; subst e; exact h⟩
  | _ :: _, _, i + 1, v, .cons h t, e => by
    obtain ⟨d, e1, e2⟩ := t.get (i := i) (by simpa using e)
    exact ⟨d, by simpa using e1, e2⟩
theorem DqA.at {G : Hp} {ds : List PyData} {vs : List V} {i : Nat} {d : PyData} (h : DqA G vs ds) (e : ds[i]? = some d) : ∃ v, vs[i]? = some v ∧ Dq G v d := by
  have hl := h.length
  obtain ⟨hi, _⟩ := List.getElem?_eq_some_iff.mp e
  have hv : vs[i]? = some (vs[i]'(by omega)) := List.getElem?_eq_getElem (by omega)
  obtain ⟨d', e1, e2⟩ := h.get hv
  rw [e] at e1
  cases e1
  exact ⟨_, hv, e2⟩
theorem DqA.append {G : Hp} : ∀ {ds es : List PyData} {vs us : List V}, DqA G vs ds → DqA G us es → DqA G (vs ++ us) (ds ++ es)
  | [], _, _, _, .nil, h => h
  | _ :: _, _, _, _, .cons h t, u => .cons h (t.append u)
theorem DqA.take {G : Hp} : ∀ {ds : List PyData} {vs : List V} (n : Nat), DqA G vs ds → DqA G (vs.take n) (ds.take n)
  | [], _, n, .nil => by simp; exact .nil
  | _ :: _, _, 0, .cons h t => .nil
  | _ :: _, _, n + 1, .cons h t => .cons h (t.take n)
theorem DqA.drop {G : Hp} : ∀ {ds : List PyData} {vs : List V} (n : Nat), DqA G vs ds → DqA G (vs.drop n) (ds.drop n)
  | [], _, n, .nil => by simp; exact .nil
  | _ :: _, _, 0, .cons h t => .cons h t
  | _ :: _, _, n + 1, .cons h t => t.drop n
theorem DqA.ints {G : Hp} : ∀ (ns : List Int), DqA G (ns.map V.int) (ns.map PyData.int)
  | [] => .nil
  | n :: ns => .cons (.int n) (DqA.ints ns)
theorem DqA.int_inv {G : Hp} : ∀ {ns : List Int} {vs : List V}, DqA G vs (ns.map PyData.int) → vs = ns.map V.int
  | [], _, .nil => rfl
  | _ :: _, _, .cons (.int n) t => by
    have := DqA.int_inv t
    subst this
    rfl
/-- the name of a datum's type -/
def tyN : PyData → String
  | .none => "NoneType"
  | .bool _ => "bool"
  | .int _ => "int"
  | .str _ => "str"
  | .list _ => "list"
  | .tuple _ => "tuple"
  | .dict _ => "dict"
theorem Dq.ty {K : PySem.W.Frag} {G : Hp} {d : PyData} {v : V} (h : Dq G v d) : TyX K G v (.type (tyN d)) := by
  cases h with
  | non => exact .base .non
  | bl b => exact .base (.bl b)
  | int i => exact .base (.int i)
  | str x => exact .base (.str x)
  | lst h _ => exact .base (.lst h)
  | tup h _ => exact .base (.tup h)
  | dic h => exact .base (.dK h)
/-- a call's callee: the def that a global name holds -/
structure Cal (P : Program) (w : World) (K : PySem.W.Frag) (mg : Str → Option Value) (base : Heap) (x : Str) (ps : List Str) (k : Nat) (sp : Sp) : Prop where
  ex : ∃ (f : Addr) (fd : FuncData), FnOk P w K mg base CX0 k f fd ps sp ∧ mg x = some (.ref f) ∧ PySem.W.keepIn K (.ref f) = true ∧ Binds K fd ps []
section
variable {X : Cx}
theorem pe_cal {x : Str} {p pos : Pos} {e : Expr} {es : List Expr} {ps : List Str} {k j : Nat} {sp : Sp} {t : TA} (C : Cal X.prog X.w X.K X.mg X.base x ps k sp) (hr : Room j X.A) (hg : Gl X x) (ha : PA X (e :: es) t) (hk : k ≤ j := by decide)
    (hdb : (x == ("__debug__" : Str)) = false := by decide) (he : starEach (e :: es) X.env = (false, eval e X.env) :: starEach es X.env := by rfl) (hpl : (backTo pos (starEach es X.env)).any (·.1) = false := by rfl) :
    PE X (.Call (.Name x p) (e :: es) [] pos) (tCall sp [] E0 t) := by
  obtain ⟨f, fd, F, g, kp, b⟩ := C.ex
  exact pe_call F (hr.mono hk) hg g kp b .nil pass0 ha hdb he hpl
end
section
variable {K : PySem.W.Frag} {σ : L2.St} {H : Hp} {ta tb tc te : TE}
/-- isinstance(x, T), T a built-in type -/
theorem ev_isi {v : V} {d : PyData} {n : String} {b : Bool} (h : Ev ta σ H v) (hd : Dq H v d) (hk : kitB (tyN d) n = some b) : Ev (tCB (rIsi K) (tCons ta (tCons (tC (.ty n)) tNil))) σ H (.bl b) := fun H1 e Q q =>
  h H1 e _ fun H2 e2 => ⟨v, .ty n, .type (tyN d), .type n, b, rfl, .ty n, (hd.mono (e.trans e2)).ty, kit_ty hk, q H2 e2⟩
/-- a <= b <= c of ints -/
theorem ev_chain {i j k : Int} {r r' : R2} {b1 b2 : Bool} (ha : Ev ta σ H (.int i)) (hb : Ev tb σ H (.int j)) (hc : Ev tc σ H (.int k)) (h1 : RV r (.int i) (.int j) H (.bl b1)) (h2 : RV r' (.int j) (.int k) H (.bl b2)) :
    Ev (tChain r r' ta tb tc) σ H (.bl (b1 && b2)) := fun H1 e Q q =>
  ha H1 e _ fun H2 e2 => hb H2 (e.trans e2) _ fun H3 e3 => h1 H3 ((e.trans e2).trans e3) _ fun H4 e4 => ⟨b1, rfl, by
    cases b1 with
    | false => exact q H4 ((e2.trans e3).trans e4)
    | true => exact hc H4 (((e.trans e2).trans e3).trans e4) _ fun H5 e5 => h2 H5 ((((e.trans e2).trans e3).trans e4).trans e5) _ fun H6 e6 => q H6 ((((e2.trans e3).trans e4).trans e5).trans e6)⟩
end
end Wk

set_option Elab.async false
set_option linter.all false
set_option maxRecDepth 100000
set_option maxHeartbeats 4000000
namespace Wk
open PySem PySem.Spec PyProof.Rows L2 Evl
/-! how many are unlike -/
theorem nd_le {α : Type} [DecidableEq α] : ∀ (l D : List α), l.Nodup → (∀ x ∈ l, x ∈ D) → l.length ≤ D.length
  | [], _, _, _ => Nat.zero_le _
  | x :: l, D, hn, hs => by
    have hn' := List.nodup_cons.mp hn
    have hx : x ∈ D := hs x List.mem_cons_self
    have ih := nd_le l (D.erase x) hn'.2 fun y hy => (List.mem_erase_of_ne (fun (e : y = x) => hn'.1 (by rw [← e]; exact hy))).2 (hs y (List.mem_cons_of_mem _ hy))
    have e := List.length_erase_of_mem hx
    have hp : 0 < D.length := List.length_pos_of_mem hx
    simp only [List.length_cons]
    omega
theorem dup_less {α : Type} [DecidableEq α] : ∀ (D : List α), ¬ D.Nodup → ∃ D' : List α, (∀ x ∈ D, x ∈ D') ∧ D'.length < D.length
  | [], h => absurd List.nodup_nil h
  | x :: D, h => by
    by_cases hx : x ∈ D
    · exact ⟨D, fun y hy => (List.mem_cons.mp hy).elim (fun e => by rw [e]; exact hx) id, Nat.lt_succ_self _⟩
    · have hD : ¬ D.Nodup := fun z => h (List.nodup_cons.mpr ⟨hx, z⟩)
      obtain ⟨D', h1, h2⟩ := dup_less D hD
      exact ⟨x :: D', fun y hy => (List.mem_cons.mp hy).elim (fun e => by rw [e]; exact List.mem_cons_self) (fun e => List.mem_cons_of_mem _ (h1 y e)), Nat.succ_lt_succ h2⟩
theorem nd_iff {α : Type} [DecidableEq α] {l D : List α} (hn : l.Nodup) (h : ∀ x, x ∈ l ↔ x ∈ D) : l.length = D.length ↔ D.Nodup := by
  constructor
  · intro e
    apply Classical.byContradiction
    intro hD
    obtain ⟨D', h1, h2⟩ := dup_less D hD
    have := nd_le l D' hn fun x hx => h1 x ((h x).mp hx)
    omega
  · intro hD
    have h1 := nd_le l D hn fun x hx => (h x).mp hx
    have h2 := nd_le D l hD fun x hx => (h x).mpr hx
    omega
section
variable {X : Cx}
/-- len(set(t)), t a tuple of ints -/
def tLenSU (K : PySem.W.Frag) (ta : TE) : TE := fun σ H Q => ta σ H fun x H1 => ∃ (l : Addr) (ns : List Int), x = V.ref l ∧ SqT K H1 l (ns.map V.int) ∧ ns.length < 64 ∧ ∀ n : Nat, (n = ns.length ↔ ns.Nodup) → Q (.int n) H1
theorem pe_lenSU {a : Expr} {ta : TE} {p p2 q pos : Pos} (hc : X.calm = true) (hg : Gl X "len") (hm : X.mg "len" = none) (hg2 : Gl X "set") (hm2 : X.mg "set" = none) (ha : PE X a ta)
    (na : starEach [a] X.env = (false, eval a X.env) :: starEach [] X.env := by rfl) : PE X (.Call (.Name "len" p) [.Call (.Name "set" p2) [a] [] q] [] pos) (tLenSU X.K ta) := by
  refine ⟨fun pins s σ H Q I h => ?_⟩
  refine Call_ (ld_blt I hg hm PySem.boot_len ?_)
  refine PyProof.Rows.callWith_builtin1 (PyProof.Rows.args_cons ?_ rfl) rfl rfl
  refine Call_ (ld_blt I hg2 hm2 PyProof.Rows.boot_set ?_)
  refine PyProof.Rows.callWith_type1 (PyProof.Rows.args_cons (thn (ha.run pins s σ H _ I h) fun v s1 hh => PyProof.Rows.args_nil ?_) na) na rfl
  obtain ⟨x, H1, I1, r1, l, ns, rfl, hq, hlt, q1⟩ := hh
  cases r1
  obtain ⟨its, r, pl, hz⟩ := I1.tuple hq
  refine call_set_tupI (w := X.w) ns (I1.ok.hd hc) pl (by simpa using r.ints) (by unfold scanBound; omega) fun h' tk c hS hc2 hk => ?_
  refine PyProof.Rows.args_nil ?_
  obtain ⟨o, es, ep, t, ho, hex, hd, _, hnd, hiff, _, hf, hn, _⟩ := hS
  have I2 : Inv X pins σ H1 { s1 with heap := h', toks := tk } := I1.kept fun b o e => hk b o e
  refine call_len_set ho hex hd hf (by rw [hn] <;> omega) ⟨.int es.size, H1, I2.tok _, ⟨_, rfl⟩, q1 es.size ?_⟩
  have hl : (es.toList.map keyOf).length = es.size := by simp
  rw [← hl]
  exact nd_iff hnd fun k => by
    have := hiff k
    simp only [decide_eq_true_eq] at this
    exact this.symm
end
/-- the set that set() lays -/
abbrev sO (w : World) : Obj := { cls := .type "set", dict := none, data := .set #[] 0 (.fresh 0 0 (!w.params.followText "set-order")) }
section
variable {P : Program} {w : World} {A : Around} {E : Value → Shared → Prop} {s : Shared}
/-- set(t), t a tuple of tuples of ints -/
theorem set_of_tup2 {l : Addr} {its : Array Value} (ks : List (Addr × List Int)) {Q : Value → Shared → Prop} (nh : A.handled = none) (tl : s.heap.IsTuple l its) (eq : its.toList = ks.map fun p => Value.ref p.1)
    (ki : ∀ p ∈ ks, IsT P w s.heap p.2 p.1) (few : ks.length < 64) (un : A.units + 3 < cLine)
    (fin : ∀ (h' : Heap) (tk : Nat) L es ep t, SetTR P w h' s.heap.objs.size L es ep t → Got ks ks.length L → (∀ b o, s.heap.get? b = some o → h'.get? b = some o) → Q (.ref s.heap.objs.size) { s with heap := h', toks := tk }) :
    wpAny (model P w) A (call (.type "set") [.ref l]) Q E s := by
  have size : its.size = ks.length := by have q := congrArg List.length eq; simpa using q
  obtain ⟨c, rest, mro⟩ := F.called_set.mro
  have made := F.called_set.made; have sub := F.called_set.sub
  refine wpAny_call (codeAny_of_tree (show wpAny _ _ (callAny (.type "set") _) _ _ _ from ?_))
  refine wpAny_pure ⟨Code.quiet_builtin _ (by decide +kernel), codeAny_builtin F.entry_type_call (by
    rw [Around.under_plain (weight_type_call_type "set" [.ref l] []) rfl]
    have nt := F.called_set.notType; have cc := F.called_set.canCreate; have tc := F.typeCall_set_1 (.ref l)
    repeat (any_goals (first | assumption | wp_step))
    refine codeAny_mono (code_set_led1 (.ref l) (E := E) (Q₁ := fun ob s1 => ob = .ref s.heap.objs.size ∧ s1 = { s with heap := s.heap.push (sO w) }) ⟨rfl, rfl⟩) fun r s1 hr => ?_
    cases r with
    | error e => exact hr
    | ok fl =>
      cases fl with
      | ret ob =>
        obtain ⟨rfl, rfl⟩ := hr
        have hS : (s.heap.push (sO w)).get? s.heap.objs.size = some (sO w) := Heap.get?_push_size _ rfl
        have hT : Shared.TypeIs { s with heap := s.heap.push (sO w) } (.ref s.heap.objs.size) "set" := ⟨_, hS, rfl⟩
        have li := F.called_set.init.lookup; have bi := F.called_set.init.bind (.ref s.heap.objs.size)
        repeat (any_goals (first | assumption | wp_step))
        refine codeAny_mono (codeAny_call_builtin (R := wants (fun r s2 => r = .none ∧ ∃ h' tk L es ep t, s2 = { s with heap := h', toks := tk } ∧ SetTR P w h' s.heap.objs.size L es ep t ∧ Got ks ks.length L ∧ (∀ b o, s.heap.get? b = some o → h'.get? b = some o)) E)
          F.called_set.init.plain F.entry_set_init (check_set_init_1 hT ?_)) fun r2 s2 hr2 => ?_
        · obtain ⟨⟨oc, od, dt, sl⟩, ol, cl, n, dl⟩ := tl
          simp only at cl dl; subst cl; subst dl
          have ol1 : (s.heap.push (sO w)).get? l = some { cls := .type "tuple", dict := od, data := .seq its n, slots := sl } := Heap.get?_push_of_some _ ol
          have b1 := F.sub_tuple_set; have b2 := F.sub_tuple_frozenset
          have b3 : (Value.type "tuple" == Value.type "dict") = false := by decide
          have tl1 : (s.heap.push (sO w)).IsTuple l its := ⟨_, ol1, rfl, n, rfl⟩
          unfold Builtin.«set.__init__» noKeywords Builtin.Frozenset.updateFrom
          generalize hPI : pyIter = PI
          wp_walk
          subst hPI
          refine wpAny_pyIter_tuple tl1 (wpAny_bind (wpAny_runValue ?_))
          have lt : l < s.heap.objs.size := Heap.lt_size ol
          have nh3 : A.in1.in1.in1.handled = none := by simp [nh]
          have ne1 : l ≠ (s.heap.push (sO w)).objs.size := by rw [Heap.size_push]; exact Nat.ne_of_lt (Nat.lt_succ_of_lt lt)
          have nin : s.heap.objs.size ∉ [(s.heap.push (sO w)).objs.size, l] := by
            rw [Heap.size_push]
            intro z
            rcases List.mem_cons.mp z with z | z
            · exact absurd z (Nat.ne_of_lt (Nat.lt_succ_self _))
            · exact absurd (List.mem_singleton.mp z) (Nat.ne_of_gt lt)
          have val : ∀ (i : Nat) (v : Value), its[i]? = some v → ∃ p, ks[i]? = some p ∧ v = .ref p.1 := fun i v hv => by
            have q : its.toList[i]? = some v := (Array.getElem?_toList ..).trans hv
            rw [eq, List.getElem?_map] at q
            cases hq : ks[i]? with
            | none => rw [hq] at q; cases q
            | some p => rw [hq] at q; exact ⟨p, rfl, (Option.some.inj q).symm⟩
          have out : ∀ b, s.heap.objs.size ≤ b → s.heap.get? b = none := fun b hb => by
            cases q : s.heap.get? b with
            | none => rfl
            | some o => exact absurd (Nat.lt_of_lt_of_le (Heap.lt_size q) hb) (Nat.lt_irrefl _)
          refine set_update_tups ((Walks.tuple nh3 _ l ne1 its).toS) s.heap.objs.size nin ks size few val s.heap ki (out _ (Nat.le_refl _)) (fun b hb => out b (by rw [List.mem_singleton.mp hb, Heap.size_push]; exact Nat.le_succ _)) un (its.size - 0) 0 _ (by omega) (Nat.zero_le _)
            ⟨⟨_, Heap.get?_push_size _ rfl, rfl, rfl⟩, (tl1.push _)⟩ (fun b o e => Heap.get?_push_of_some _ (Heap.get?_push_of_some _ e)) ⟨[], #[], 0, _, setTR_fresh (Heap.get?_push_of_some _ hS), Got.zero ks⟩ ?_
          intro s' L es ep t hm hS' g' kp
          obtain ⟨h', g2, d', tk', os'⟩ := s'
          have eg : g2 = s.gens := hm.gens
          have ed : d' = s.drawn := hm.drawn
          have eo : os' = s.os := hm.os
          subst eg; subst ed; subst eo
          show wpAny _ _ _ _ _ _
          refine wpAny_pure (show wpAny _ _ (ret Value.none) _ _ _ from ?_)
          rw [size] at g'
          exact wpAny_pure ⟨rfl, h', tk', L, es, ep, t, rfl, hS', g', kp⟩
        · cases r2 with
          | error e => exact hr2
          | ok fl2 =>
            cases fl2 with
            | ret r =>
              obtain ⟨rfl, h', tk, L, es, ep, t, rfl, hS', g', k'⟩ := hr2
              repeat (any_goals (first | assumption | wp_step))
              exact fin _ _ _ _ _ _ hS' g' k'
            | _ => exact hr2.elim
      | _ => exact hr.elim)⟩
end
section
variable {X : Cx}
/-- len(set(t)), t a tuple of tuples of ints -/
def tLenSUU (K : PySem.W.Frag) (ta : TE) : TE := fun σ H Q => ta σ H fun x H1 => ∃ (l : Addr) (ks : List (Addr × List Int)), x = V.ref l ∧ SqT K H1 l (ks.map fun p => V.ref p.1) ∧ (∀ p ∈ ks, SqT K H1 p.1 (p.2.map V.int)) ∧ ks.length < 64 ∧
  ∀ n : Nat, (n = ks.length ↔ (ks.map (·.2)).Nodup) → Q (.int n) H1
theorem pe_lenSUU {a : Expr} {ta : TE} {p p2 q pos : Pos} (hc : X.calm = true) (hu : X.A.units + 64 < cLine) (hg : Gl X "len") (hm : X.mg "len" = none) (hg2 : Gl X "set") (hm2 : X.mg "set" = none) (ha : PE X a ta)
    (na : starEach [a] X.env = (false, eval a X.env) :: starEach [] X.env := by rfl) : PE X (.Call (.Name "len" p) [.Call (.Name "set" p2) [a] [] q] [] pos) (tLenSUU X.K ta) := by
  refine ⟨fun pins s σ H Q I h => Call_ (ld_blt I hg hm PySem.boot_len (PyProof.Rows.callWith_builtin1 (PyProof.Rows.args_cons (Call_ (ld_blt I hg2 hm2 PyProof.Rows.boot_set ?_)) rfl) rfl rfl))⟩
  refine PyProof.Rows.callWith_type1 (PyProof.Rows.args_cons (thn (ha.run pins s σ H _ I h) fun v s1 hh => PyProof.Rows.args_nil ?_) na) na rfl
  obtain ⟨x, H1, I1, r1, l, ks, rfl, hq, hk, few, q1⟩ := hh
  cases r1
  obtain ⟨its, r, pl, hz⟩ := I1.tuple hq
  refine set_of_tup2 (P := X.prog) (w := X.w) ks (I1.ok.hd hc) pl (by simpa using refs_of_vals r) (fun p hp => I1.isT (hk p hp)) few (by omega) fun h' tk L es ep t R g k => PyProof.Rows.args_nil ?_
  have I2 : Inv X pins σ H1 { s1 with heap := h', toks := tk } := I1.kept fun b o e => k b o e
  have hes : es.size = L.length := R.size (s := { s1 with heap := h', toks := tk })
  have hf := R.fits (s := { s1 with heap := h', toks := tk })
  obtain ⟨o, ho, hex, hd⟩ := R.ob
  refine call_len_set (s := { s1 with heap := h', toks := tk }) ho hex hd hf (by have := R.few; omega) ⟨.int es.size, H1, I2.tok _, ⟨_, rfl⟩, q1 es.size ?_⟩
  have e1 : (L.map (·.2)).length = es.size := by simp [hes]
  have e2 : (ks.map (·.2)).length = ks.length := by simp
  rw [← e1, ← e2]
  refine nd_iff R.nd fun k => ⟨fun z => ?_, fun z => ?_⟩
  · obtain ⟨p, hp, rfl⟩ := List.mem_map.mp z
    exact List.mem_map.mpr ⟨p, List.mem_of_mem_take (g.sub p hp), rfl⟩
  · obtain ⟨p, hp, rfl⟩ := List.mem_map.mp z
    exact g.all p (by rw [List.take_length]; exact hp)
end
end Wk

set_option Elab.async false
set_option linter.all false
set_option maxRecDepth 100000
set_option maxHeartbeats 4000000
namespace Wk
open PySem PySem.Spec PyProof.Rows L2 Evl
/-- the walk of a tuple's iterator under an enumerate -/
abbrev itO (l : Addr) : Obj := { cls := .type "tuple_iterator", data := .fields #[.ref l, .int 0 0] }
abbrev enO (it : Addr) : Obj := { cls := .type "enumerate", data := .fields #[.none, .bool false, .ref it, rawInt 0, .none, .none] }
theorem enumNewT (l : Addr) (its : Array Value) (n : Nat) (od : Option Addr) (sl : Array (Option Value)) :
    Meets (Builtin.«enumerate.__new__» ⟨[.type "enumerate", .ref l], []⟩) (fun _ R s => s.heap.get? l = some { cls := .type "tuple", dict := od, data := .seq its n, slots := sl } ∧
      R (.ok (.ret (.ref (s.heap.push (itO l)).objs.size))) { s with heap := (s.heap.push (itO l)).push (enO s.heap.objs.size) }) :=
  .of_wp fun prog w A R s h => by
    obtain ⟨hp, g, d, tk, os⟩ := s; obtain ⟨hl, h⟩ := h
    have su := sub_enumerate
    have tl : Heap.IsTuple (Shared.heap ⟨hp, g, d, tk, os⟩) l its := ⟨_, hl, rfl, n, rfl⟩
    wp_walk using wpAny_loadPart' hl
    refine wpAny_stack_any fun st => wpAny_pure ?_
    split
    · rename_i c _ _ _ _ _
      cases (c == Value.type "enumerate") <;> (wp_walk using wpAny_loadPart' hl, wpAny_pyIter_tuple tl; exact ⟨_, rfl, h⟩)
    · wp_walk using wpAny_loadPart' hl, wpAny_pyIter_tuple tl
      exact ⟨_, rfl, h⟩
section
variable {prog : Program} {w : World} {A : Around} {E : Value → Shared → Prop} {s : Shared}
theorem enumT_call {l : Addr} {its : Array Value} {Q : Value → Shared → Prop} (tl : s.heap.IsTuple l its)
    (h : ∀ h', IsEnum h' (s.heap.objs.size + 1) s.heap.objs.size 0 .none → h'.IsTupleIter s.heap.objs.size l 0 → h'.objs.size = s.heap.objs.size + 2 → (∀ b o, s.heap.get? b = some o → h'.get? b = some o) → Q (.ref (s.heap.objs.size + 1)) { s with heap := h' }) :
    wpAny (model prog w) A (call (.type "enumerate") [.ref l]) Q E s := by
  obtain ⟨⟨c, od, dt, sl⟩, hl, hc, n, hd⟩ := tl
  replace hc : c = .type "tuple" := hc
  replace hd : dt = .seq its n := hd
  subst hc hd
  refine callType_new F.called_enumerate (by decide) (F.typeCall_enumerate_1 _) (F.newCall_enumerate_1 _) (fun ob => F.args_object_init_2 ob _) F.entry_enumerate_new (enumNewT l its n od sl) ⟨hl, ?_⟩
  have hz : (s.heap.push (itO l)).objs.size = s.heap.objs.size + 1 := Heap.size_push ..
  show _ ∧ _
  rw [hz]
  have he : IsEnum ((s.heap.push (itO l)).push (enO s.heap.objs.size)) (s.heap.objs.size + 1) s.heap.objs.size 0 .none := by
    have q := Heap.get?_push_size (s.heap.push (itO l)) (o := enO s.heap.objs.size) rfl
    rw [hz] at q; exact q
  exact ⟨⟨_, he, rfl⟩, h _ he ⟨_, Heap.get?_push_of_some _ (Heap.get?_push_size _ rfl), rfl, rfl⟩ (by rw [Heap.size_push, hz]) fun b o x => Heap.get?_push_of_some _ (Heap.get?_push_of_some _ x)⟩
end
/-- the tuple at a, each item in a new pair with its place -/
def IteT (K : PySem.W.Frag) (a : Addr) : It :=
  ⟨fun i H => ∃ (xs : List V) (x : V), SqT K H a xs ∧ xs[i]? = some x, fun i H v H' => ∃ T x, v = .ref T ∧ H T = none ∧ H' = upd H T (.tup [.int (i : Nat), x]) ∧ ∀ xs, SqT K H a xs → xs[i]? = some x, fun i H => ∃ xs : List V, SqT K H a xs ∧ xs.length = i⟩
theorem turn_enumT {P : Program} {w : World} {K : PySem.W.Frag} {elts : List Expr} {kk : Nat} {tpos : Pos} (a e it : Addr) :
    Turn P w K (.Tuple elts kk tpos) (IteT K a) [e, it] e (fun i h => (∃ old, IsEnum h e it ((i : Nat) : Int) old) ∧ h.IsTupleIter it a i ∧ e ≠ it) where
  mem := List.mem_cons_self
  obj := fun i h st b hb => by
    obtain ⟨⟨old, he⟩, ⟨o, ho, hc, hd⟩, _⟩ := st
    rcases List.mem_cons.mp hb with z | z
    · rw [z]; exact ⟨_, he, fun v q => nomatch q⟩
    · rw [List.mem_singleton.mp z]; exact ⟨o, ho, fun v q => by rw [hd] at q; cases q⟩
  keep := fun i h h' st k => by
    obtain ⟨⟨old, he⟩, ⟨o, ho, r⟩, hne⟩ := st
    exact ⟨⟨old, k e (by simp) _ he⟩, ⟨o, k it (by simp) o ho, r⟩, hne⟩
  item := by
    intro X hP hw hK hc i pins s σ H E I hf st hg
    subst hP hw hK
    obtain ⟨⟨old, he⟩, hit, hne⟩ := st
    obtain ⟨xs, x, hq, hx⟩ := hg
    obtain ⟨its, rv, p, hz⟩ := I.tuple hq
    obtain ⟨u, hu, ru⟩ := rv.get hx
    have el : e < s.heap.objs.size := Heap.lt_size he
    have il : it < s.heap.objs.size := by obtain ⟨_, q, _⟩ := hit; exact Heap.lt_size q
    have nai : a ≠ it := fun z => by
      obtain ⟨o, ho, oc, _⟩ := p
      obtain ⟨o2, ho2, oc2, _⟩ := hit
      rw [z, ho2] at ho
      cases ho
      rw [oc2] at oc
      injection oc with q
      exact absurd q (by decide)
    have nae : e ≠ a := fun z => by
      obtain ⟨o, ho, oc, _⟩ := p
      have he2 := he
      unfold IsEnum at he2
      rw [z, ho] at he2
      cases he2
      injection oc with q
      exact absurd q (by decide)
    have hi : i < its.toArray.size := by
      have q := (List.getElem?_eq_some_iff.mp hu).1
      simpa using q
    refine wpAny_pyNext_enum_itemD (Draws.tuple (by simpa using I.ok.hd hc) it a nai its.toArray) he ⟨hit, p⟩ hi hne (by simp [hne, nae]) fun y h' tk hy ho hst hT hsz hk => ?_
    have ey : y = u := by
      have q : its.toArray[i]? = some y := hy
      rw [List.getElem?_toArray, hu] at q
      exact (Option.some.inj q).symm
    subst ey
    refine ⟨_, rfl, wpAny_letOwnedTupleGo_enum (s := { s with heap := h', toks := tk + 1 }) ho fun h2 he' sb => ?_⟩
    have hT2 : h2.get? s.heap.objs.size = some { cls := .type "tuple", data := .seq #[.int i tk, y] } := (sb.2 _ (Nat.ne_of_gt el)).trans hT
    have nw : ObjOk X.prog X.w (upd H s.heap.objs.size (.tup [.int (i : Nat), x])) h2 s.heap.objs.size (.tup [.int (i : Nat), x]) := ⟨by show 2 ≤ sizeLine; decide, [.int i tk, y], .cons ⟨_, rfl⟩ (.cons ru .nil), ⟨_, hT2, rfl, _, rfl⟩⟩
    have I1 : Inv X pins σ (upd H s.heap.objs.size (.tup [.int (i : Nat), x])) { s with heap := h2, toks := tk + 1 } := I.turnedNew (ch := [e, it]) (fun b ob hb q => by
        have b1 : b ≠ e := fun z => hb (by simp [z])
        have b2 : b ≠ it := fun z => hb (by simp [z])
        exact (sb.2 b b1).trans (hk b ob b1 b2 q)) hf (Nat.le_refl _) nw
    refine ⟨.ref s.heap.objs.size, _, I1, rfl, ⟨_, x, rfl, I.hok.fresh (Nat.le_refl _), rfl, fun ys hy => by rw [I.tuple_inj hy hq]; exact hx⟩, ⟨⟨y, ?_⟩, ?_, hne⟩, fun b hb => ?_⟩
    · rw [show ((i + 1 : Nat) : Int) = (i : Int) + 1 by omega]; exact he'
    · obtain ⟨o, ho2, r2⟩ := hst.1
      exact ⟨o, (sb.2 it (Ne.symm hne)).trans ho2, r2⟩
    · have hb2 : b < s.heap.objs.size := by
        rcases List.mem_cons.mp hb with z | z
        · rw [z]; exact el
        · rw [List.mem_singleton.mp z]; exact il
      rw [upd_ne (Nat.ne_of_lt hb2)]
      exact (hf b hb).1
  done := by
    intro X hP hw hK hc i pins s σ H E I hf st hg
    subst hP hw hK
    obtain ⟨⟨old, he⟩, hit, hne⟩ := st
    obtain ⟨xs, hq, hx⟩ := hg
    obtain ⟨its, rv, p, hz⟩ := I.tuple hq
    obtain ⟨f0, f1, f2, f3, f4, f5⟩ := hf it (by simp)
    have hl := rv.length
    have ei : i = its.toArray.size := by simp; omega
    have nai : a ≠ it := fun z => by
      obtain ⟨o, ho, oc, _⟩ := p
      obtain ⟨o2, ho2, oc2, _⟩ := hit
      rw [z, ho2] at ho
      cases ho
      rw [oc2] at oc
      injection oc with q
      exact absurd q (by decide)
    subst ei
    exact wpAny_pyNext_enum_endD (Draws.tuple (by simpa using I.ok.hd hc) it a nai its.toArray) he ⟨hit, p⟩ fun h' eb => ⟨rfl, I.turned (t' := s.toks) (fun b o hb q => eb b o hb q) f0 f1 f3 f4 f5⟩
  self := fun A i s Q E st h => let ⟨⟨_, he⟩, _⟩ := st; wpAny_pyIter_enum he h

def iEnumT (K : PySem.W.Frag) (ta : TA) : TI := fun σ H R => ta σ H fun vs H1 => ∃ a xs, vs = [.ref a] ∧ SqT K H1 a xs ∧ R (IteT K a) H1
/-- for i, x in enumerate(t), t a tuple -/
theorem pi_enumT {X : Cx} {e : Expr} {ta : TA} {p pos tpos : Pos} {elts : List Expr} {kk : Nat} (hg : Gl X "enumerate") (hm : X.mg "enumerate" = none) (ha : PA X [e] ta) (hs : starEach [e] X.env = [(false, eval e X.env)] := by rfl) :
    PI X (.Tuple elts kk tpos) (.Call (.Name "enumerate" p) [e] [] pos) (iEnumT X.K ta) := by
  refine ⟨fun pins s σ H R I h => Call_ (ld_blt I hg hm boot_enumerate (PyProof.Rows.callWith_type1 (thn (ha.run pos pins s σ H _ I h) fun us s1 hh => ?_) hs rfl))⟩
  obtain ⟨vs, H1, I1, r1, a, xs, rfl, hq, q⟩ := hh
  cases r1 with
  | cons r rr =>
    cases rr
    cases r
    obtain ⟨its, rv, pt, hz⟩ := I1.tuple hq
    refine enumT_call pt fun h' he hit hsz hk => wpAny_pyIter_enum he ?_
    refine ⟨s1.heap.objs.size + 1, [s1.heap.objs.size + 1, s1.heap.objs.size], _, _, H1, rfl, I1.kept (t' := s1.toks) hk, turn_enumT a (s1.heap.objs.size + 1) s1.heap.objs.size, ⟨⟨.none, he⟩, hit, Nat.succ_ne_self _⟩, fun b hb => ?_, q⟩
    have hle : s1.heap.objs.size ≤ b := by
      rcases List.mem_cons.mp hb with z | z
      · rw [z]; exact Nat.le_add_right _ _
      · rw [List.mem_singleton.mp z]; exact Nat.le_refl _
    exact I1.fpOk hle (I1.hok.fresh hle)
theorem walk_enumT {K : PySem.W.Frag} {a : Addr} {xs : List V} : Walk (IteT K a) xs.length (fun H => SqT K H a xs) (YPair (fun i => some (.int (i : Nat))) (fun i => xs[i]?)) := by
  refine ⟨fun i _ hi q => ⟨xs, xs[i], q, by simp [hi]⟩, fun _ q => ⟨xs, q, rfl⟩, fun i H v H' _ q y => ?_⟩
  obtain ⟨T, x, h1, h2, h3, h4⟩ := y
  exact ⟨T, .int (i : Nat), x, h1, h2, h3, rfl, h4 xs q⟩
section
variable {K : PySem.W.Frag} {σ : L2.St} {H : Hp} {t : TT} {te : TE}
/-- [e for x in t], t a tuple -/
theorem el_lcT {a : Addr} {xs : List V} {tl : TE} {j : Nat} {vs : List Nat} (f : Nat → Bool) (v : Nat → V) (h : Ev tl σ H (.ref a)) (hx : SqT K H a xs) (hz : xs.length ≤ 40000) (hw : ∀ x, wipe ((wipe σ vs).set j (some x)) vs = wipe σ vs)
    (ht : ∀ (i : Nat) (x : V) H1, Ex H H1 → xs[i]? = some x → EvT t ((wipe σ vs).set j (some x)) H1 (f i)) (he : ∀ (i : Nat) (x : V) H1, Ex H H1 → xs[i]? = some x → f i = true → Ev te ((wipe σ vs).set j (some x)) H1 (v i)) :
    EvL (tLc (iTup K tl) (gName j) t te vs) σ H (given xs.length f v) := fun H0 e Q q => h H0 e _ fun H1 e1 => ⟨a, rfl, ⟨xs, ex_t (e.trans e1) hx⟩, fun Dl hD =>
  lc_it (walk_tup (K := K) (a := a) (xs := xs)) (Cw H1 f v Dl) ⟨hD, Ex.new hD, upd_same⟩ (fun i H' _ p => ex_t ((e.trans e1).trans p.2.1) hx)
    (fun i x H' H2 hi p y => by
      obtain ⟨rfl, hxi⟩ := y
      exact ⟨hw x, cw_turn p (by omega) (ht i x H1 (e.trans e1) hxi) (fun hf => he i x H1 (e.trans e1) hxi hf)⟩)
    (fun H' p => q Dl H' (fresh_back e1 p.1) (e1.trans p.2.1) p.2.2)⟩
theorem given_all (n : Nat) (v : Nat → V) : given n (fun _ => true) v = (List.range n).map v := by
  unfold given
  rw [List.filter_eq_self.mpr (fun _ _ => rfl)]
theorem et_yes : EvT tYes σ H true := fun H1 _ _ q => q H1 (Ex.refl H1)
/-- all([..]) of flags -/
theorem ev_allL {bs : List Bool} {ta : TE} (h : EvL ta σ H (bs.map V.bl)) : Ev (tCB (rAll K) (tCons ta tNil)) σ H (.bl (bs.all id)) := fun H1 e Q q =>
  h H1 e _ fun p H2 _ e2 hp => ⟨p, bs, rfl, sq_of hp, q H2 e2⟩
/-- all([test(x) for x in t]) -/
theorem ev_allT {a : Addr} {xs : List V} {tl : TE} {j : Nat} {vs : List Nat} (g : Nat → Bool) (h : Ev tl σ H (.ref a)) (hx : SqT K H a xs) (hz : xs.length ≤ 40000) (hw : ∀ x, wipe ((wipe σ vs).set j (some x)) vs = wipe σ vs)
    (he : ∀ (i : Nat) (x : V) H1, Ex H H1 → xs[i]? = some x → Ev te ((wipe σ vs).set j (some x)) H1 (.bl (g i))) :
    Ev (tCB (rAll K) (tCons (tLc (iTup K tl) (gName j) tYes te vs) tNil)) σ H (.bl (((List.range xs.length).map g).all id)) :=
  ev_allL (by
    have q := el_lcT (K := K) (te := te) (fun _ => true) (fun i => .bl (g i)) h hx hz hw (fun _ _ _ _ _ => et_yes) fun i x H1 e hxi _ => he i x H1 e hxi
    rw [given_all] at q
    rw [List.map_map]
    exact q)
end
section
variable {K : PySem.W.Frag} {σ : L2.St} {H : Hp} {ta tb te : TE}
theorem ev_lenT {p : Addr} {xs : List V} (ha : Ev ta σ H (.ref p)) (h : SqT K H p xs) : Ev (tCB (rLenS K) (tCons ta tNil)) σ H (.int (xs.length : Int)) := fun H1 e Q q =>
  ha H1 e _ fun H2 e2 => ⟨p, xs, rfl, Or.inr (ex_t (e.trans e2) h), q H2 e2⟩
theorem all_get {α : Type} (ds : List α) (p : α → Bool) : ((List.range ds.length).map (fun i => ((ds[i]?).map p).getD false)).all id = ds.all p := by
  have e : (List.range ds.length).map (fun i => ((ds[i]?).map p).getD false) = ds.map p := by
    apply List.ext_getElem
    · simp
    · intro i h1 h2
      have hi : i < ds.length := by simpa using h1
      simp [hi]
  rw [e, List.all_map]
  rfl
end
section
variable {K : PySem.W.Frag} {σ : L2.St} {H : Hp} {g : TG} {tu tz : TS} {D : Ends}
/-- for i, x in enumerate(t) -/
theorem s_forEn {a : Addr} {xs : List V} {tl : TE} (h : Ev tl σ H (.ref a)) (hx : SqT K H a xs) (Pv : Nat → L2.St → Hp → Prop) (h0 : ∀ H1, Ex H H1 → Pv 0 σ H1) (hl : ∀ i σ' H', i ≤ xs.length → Pv i σ' H' → SqT K H' a xs)
    (hs : ∀ i y T σ' H', xs[i]? = some y → Pv i σ' H' → H' T = none → g (.ref T) σ' (upd H' T (.tup [.int (i : Nat), y])) fun σ2 H2 => tu { D with nx := Pv (i + 1), ct := Pv (i + 1), bk := D.nx } σ2 H2) (hd : ∀ σ' H', Pv xs.length σ' H' → D.nx σ' H') : tFor (iEnumT K (tCons tl tNil)) g tu D σ H :=
  h H (Ex.refl H) _ fun H1 e => ⟨a, xs, rfl, ex_t e hx, for_it (walk_enumT (K := K) (a := a) (xs := xs)) Pv (h0 H1 e) hl (fun i x σ' H2 H3 hi p y => by
    obtain ⟨T, u, y, rfl, hT, rfl, hu, hy⟩ := y
    cases hu
    exact hs i y T σ' H2 hy p hT) hd⟩
theorem q_forEn {a : Addr} {xs : List V} {tl : TE} (h : Ev tl σ H (.ref a)) (hx : SqT K H a xs) (Pv : Nat → L2.St → Hp → Prop) (h0 : ∀ H1, Ex H H1 → Pv 0 σ H1) (hl : ∀ i σ' H', i ≤ xs.length → Pv i σ' H' → SqT K H' a xs)
    (hs : ∀ i y T σ' H', xs[i]? = some y → Pv i σ' H' → H' T = none → g (.ref T) σ' (upd H' T (.tup [.int (i : Nat), y])) fun σ2 H2 => tu { D with nx := Pv (i + 1), ct := Pv (i + 1), bk := tz D } σ2 H2) (hd : ∀ σ' H', Pv xs.length σ' H' → tz D σ' H') : tSeq (tFor (iEnumT K (tCons tl tNil)) g tu) tz D σ H :=
  s_forEn (D := { D with nx := tz D }) h hx Pv h0 hl hs hd
end
end Wk

set_option Elab.async false
set_option linter.all false
set_option maxRecDepth 100000
set_option maxHeartbeats 4000000
namespace Wk
open PySem PySem.Spec PyProof.Rows L2 Evl
/-! an object made, a method called, where what is raised is wished for at the caller's slots -/
section
variable {X : Cx} {CX : CXT} {k : Nat} {f C : Addr} {fd : FuncData} {ps : List Str} {sp : Sp} {W : L2.St → XK} {x m : Str} {p pos apos : Pos} {e o : Expr} {es : List Expr} {ta : TE} {t : TA}
def tMkAt (C : Addr) (sp : Sp) (W : L2.St → XK) (t : TA) : TE := fun σ H Q => t σ H fun vs H1 => ∀ x dx, H1 x = none → H1 dx = none → dx ≠ x → sp (.ref x :: vs) (upd (upd H1 dx (.own x)) x (.ins C dx [])) (fun v H2 => v = .non ∧ Q (.ref x) H2) (W σ)
theorem pe_mkAt (M : Mk X.K C f) (Fn : FnOk X.prog X.w X.K X.mg X.base CX k f fd ps sp) (hr : Room (k + 1) X.A) (hg : Gl X x) (hm : X.mg x = some (.ref C)) (hb : Binds X.K fd ps []) (hx : ∀ σ, PassesAt CX X σ (W σ)) (ha : PA X (e :: es) t)
    (hdb : (x == ("__debug__" : Str)) = false := by decide) (he : starEach (e :: es) X.env = (false, eval e X.env) :: starEach es X.env := by rfl) (hpl : (backTo pos (starEach es X.env)).any (·.1) = false := by rfl) :
    PE X (.Call (.Name x p) (e :: es) [] pos) (tMkAt C sp W t) := by
  refine ⟨fun pins s σ H Q I h => wpAny_Call_Name_kw (ld_glob I hg hm (PySem.W.callWith_K (h₀ := X.base) I.ok.mod.kin M.kp (thn (ha.run pos pins s σ H _ I h) fun us s1 hh => ?_) he hpl) hdb)⟩
  obtain ⟨vs, H1, I1, r, q⟩ := hh
  refine ⟨I1.kIn, ?_⟩
  have hq := q (s1.heap.objs.size + 1) s1.heap.objs.size (I1.hok.fresh (Nat.le_succ _)) (I1.hok.fresh (Nat.le_refl _)) (Nat.ne_of_lt (Nat.lt_succ_self _))
  have J := Inv.made (C := C) I1
  have rr : Vals (V.ref (s1.heap.objs.size + 1) :: vs) (Value.ref (s1.heap.objs.size + 1) :: us) := .cons rfl r
  have hl : (Value.ref (s1.heap.objs.size + 1) :: us).length = ps.length := rr.length.symm.trans (Fn.len _ _ _ _ hq)
  have bd := hb _ (Value.ref (s1.heap.objs.size + 1) :: us) J.kIn (by rw [List.append_nil]; exact hl)
  rw [List.append_nil] at bd
  refine wpAny_call (make_map (f := f) I1.kIn M.makes M.init (beq_iff_eq.mp M.fn) (codeAny_mono (Fn.run _ X.stack _ _ ⟨_, []⟩ _ _ _ (W σ) (hr.make C us []) (J.env0.make C us []) bd rr hq) fun r s' out => ?_))
  cases r with
  | error er => exact hx σ pins _ _ er s' J out
  | ok fl =>
    cases fl with
    | ret u =>
      obtain ⟨v, H', I3, rv, ev, q3⟩ := J.after out
      subst ev
      exact ⟨rv, ⟨V.ref (s1.heap.objs.size + 1), H', I3, rfl, q3⟩⟩
    | next => exact False.elim out
    | brk => exact False.elim out
    | cont => exact False.elim out
def tMeAt (C : Addr) (m : Str) (sp : Sp) (W : L2.St → XK) (ta : TE) (t : TA) : TE := fun σ H Q => ta σ H fun x H1 => ∃ a dx fs, x = .ref a ∧ H1 a = some (.ins C dx fs) ∧ fs.lookup m = none ∧ t σ H1 fun vs H2 => sp (x :: vs) H2 Q (W σ)
theorem pe_meAt {pl : Sem Bool} (ho : PE X o ta) (c : Cls X.K C) (hm : Meth X.K C m f) (Fn : FnOk X.prog X.w X.K X.mg X.base CX k f fd ps sp) (hr : Room k X.A) (hb : Binds X.K fd ps []) (hx : ∀ σ, PassesAt CX X σ (W σ)) (ha : PA X (e :: es) t)
    (hst : starEach (e :: es) X.env = (false, eval e X.env) :: starEach es X.env := by rfl) (hpl : (backTo pos (starEach es X.env)).any (·.1) = false := by rfl)
    (ht : eval (.Call (.Attribute o m apos) (e :: es) [] pos) X.env = (do
      let ov ← eval o X.env
      standAt apos.atName
      let (f, first) ← holding [ov] (getMethod ov m pl)
      callWith pos f first (backTo pos (starEach (e :: es) X.env)) (backToKw pos (keywordEach [] X.env))) := by rfl) :
    PE X (.Call (.Attribute o m apos) (e :: es) [] pos) (tMeAt C m sp W ta t) := by
  refine ⟨fun pins s σ H Q I h => PySem.W.methodCall_KW (pl := pl) (thn (ho.run pins s σ H _ I h) fun u s1 hh => ?_) ht⟩
  obtain ⟨x, H1, I1, rx, a, dx, fs, ex, ea, l, q⟩ := hh
  subst ex
  obtain rfl : u = Value.ref a := rx
  refine getmeth_ok I1 ea c hm l (PySem.W.callWith_K (first := [.ref a]) (h₀ := X.base) I.ok.mod.kin hm.kp (thn (ha.run pos pins s1 σ H1 _ I1 q) fun us s2 hh => ?_) hst hpl)
  obtain ⟨vs, H2, I2, r, q2⟩ := hh
  exact ⟨I2.kIn, run_fnS (us := .ref a :: us) (vs := .ref a :: vs) Fn hr hb (hx σ) I2 (.cons rfl r) q2⟩
end
/-! an own error with one field -/
/-- __init__ of such an error: self.router = router -/
def spXI (C : Addr) : Sp := fun vs H Q _ => ∃ (a : Addr) (y : V), vs = [.ref a, y] ∧ H a = some (exo a C none) ∧ ∀ dx, H dx = none → dx ≠ a → Q .non (upd (upd H dx (exd dx [("router", y)])) a (exo a C (some dx)))
/-- X(e) is made: where the error's dict is -/
theorem mk_err {C : Addr} {te : TE} {σ : L2.St} {H : Hp} {y : V} {W : XK} (h : Ev te σ H y) (k : ∀ d H', H d = none → Ex H H' → H' d = some (.xd [("router", y)]) → W (.ref C) (some d) H') : tMkO C (spXI C) [] (tCons te tNil) σ H W := by
  refine h H (Ex.refl H) _ fun H1 e => ⟨by show 1 ≤ 1000; decide, fun a ha => ?_⟩
  refine ⟨a, y, rfl, upd_same, fun dx hd hne => ⟨rfl, dx, [("router", y)], upd_same, by rw [upd_ne hne, upd_same], ?_, ?_⟩⟩
  · rw [upd_ne hne] at hd
    exact hd
  · have hd1 : H1 dx = none := by rw [upd_ne hne] at hd; exact hd
    refine k dx _ (fresh_back e hd1) (fun b o hb => ?_) upd_same
    have hb1 := e b o hb
    have nb : b ≠ dx := ne_of_none hb1 hd1
    have na : b ≠ a := ne_of_none hb1 ha
    rw [upd_ne nb, del_ne na, upd_ne na, upd_ne nb, upd_ne na]
    exact hb1
/-! parts of tuples -/
section
variable {K : PySem.W.Frag} {σ : L2.St} {H : Hp} {ta tb te : TE}
/-- what stands in a tuple (an old one or a new one) -/
def EvS (te : TE) (σ : L2.St) (H : Hp) (xs : List V) : Prop := ∀ H1, Ex H H1 → ∀ Q : VK, (∀ p H2, Ex H1 H2 → H2 p = some (.tup xs) → Q (.ref p) H2) → te σ H1 Q
theorem es_sl {a : Addr} {xs : List V} {tl th : TO} {lo hi : Option Int} (h : Ev te σ H (.ref a)) (h1 : EvO tl σ H lo) (h2 : EvO th σ H hi) (hs : H a = some (.tup xs)) : EvS (tSl (rSlA K) te tl th) σ H (cutV xs lo hi) := fun H1 e Q q =>
  h H1 e _ fun H2 e2 => h1 H2 (e.trans e2) _ fun H3 e3 => h2 H3 ((e.trans e2).trans e3) _ fun H4 e4 => by
    have hs4 := (((e.trans e2).trans e3).trans e4) _ _ hs
    refine ⟨a, xs, rfl, st_of hs4, fun hw => ?_, fun hw p hp => q p _ (((e2.trans e3).trans e4).trans (Ex.new hp)) upd_same⟩
    have ec : cutV xs lo hi = xs := by
      unfold cutV
      rw [hw.1, hw.2]
      simp
    rw [ec] at q
    exact q a H4 ((e2.trans e3).trans e4) hs4
theorem es_cat {xs ys : List V} (ha : EvS ta σ H xs) (hb : EvS tb σ H ys) (hz : xs.length + ys.length ≤ 100000) : EvS (tOp (rCatA K) ta tb) σ H (xs ++ ys) := fun H1 e Q q =>
  ha H1 e _ fun p H2 e2 hp => hb H2 (e.trans e2) _ fun p' H3 e3 hp' => by
    have hp3 := e3 _ _ hp
    refine ⟨p, p', xs, ys, rfl, rfl, st_of hp3, st_of hp', sz_of hz, fun hx => ?_, fun _ hy => ?_, fun _ _ r hr => q r _ ((e2.trans e3).trans (Ex.new hr)) upd_same⟩
    · rw [hx] at q
      exact q p' H3 (e2.trans e3) hp'
    · rw [hy, List.append_nil] at q
      exact q p H3 (e2.trans e3) hp3
theorem es_tup {t : TA} {xs : List V} (h : EvA t σ H xs) (hz : xs.length ≤ 100000) : EvS (tTup t) σ H xs := fun H1 e Q q => eu_tup h hz H1 e Q fun p H2 _ e2 hp => q p H2 e2 hp
theorem es_var {a : Addr} {xs : List V} (h : Ev te σ H (.ref a)) (hs : H a = some (.tup xs)) : EvS te σ H xs := fun H1 e Q q => h H1 e _ fun H2 e2 => q a H2 e2 ((e.trans e2) _ _ hs)
theorem es_mono {xs : List V} {H' : Hp} (e : Ex H H') (h : EvS te σ H xs) : EvS te σ H' xs := fun H1 e1 Q q => h H1 (e.trans e1) Q q
end
/-! x in t, t a tuple of data -/
section
variable {X : Cx}
def rInU (K : PySem.W.Frag) : R2 := fun x y H Q => ∃ d ds, Dp K H x d ∧ Dp K H y (.tuple ds) ∧ SeqAt.shaped d = true ∧ PyData.canLayAll0 ds = true ∧ Q (.bl (ds.any fun z => PyData.eqv z d)) H
def rNotInU (K : PySem.W.Frag) : R2 := fun x y H Q => ∃ d ds, Dp K H x d ∧ Dp K H y (.tuple ds) ∧ SeqAt.shaped d = true ∧ PyData.canLayAll0 ds = true ∧ Q (.bl (!ds.any fun z => PyData.eqv z d)) H
theorem op_inU (hu : X.A.units + 66 < cLine) : OpR X (compareOp .In) (rInU X.K) := fun pins s σ H x y v u Q I rx ry h => by
  obtain ⟨d, ds, hd, he, sd, se, q⟩ := h
  obtain ⟨as, r1⟩ := Dp.reads I d x v hd rx
  obtain ⟨bs, r2⟩ := Dp.reads I (.tuple ds) y u he ry
  have hdp := SeqAt.depth_of_shaped sd
  exact SeqAt.in_tuple_reads r2 r1 se (SeqAt.canLay_of_shaped sd) (by have := Nat.min_le_right (PyData.depthAll ds) d.depth; omega) ⟨.bl _, H, I, rfl, q⟩
theorem op_notInU (hu : X.A.units + 66 < cLine) : OpR X (compareOp .NotIn) (rNotInU X.K) := fun pins s σ H x y v u Q I rx ry h => by
  obtain ⟨d, ds, hd, he, sd, se, q⟩ := h
  obtain ⟨as, r1⟩ := Dp.reads I d x v hd rx
  obtain ⟨bs, r2⟩ := Dp.reads I (.tuple ds) y u he ry
  have hdp := SeqAt.depth_of_shaped sd
  exact SeqAt.notIn_tuple_reads r2 r1 se (SeqAt.canLay_of_shaped sd) (by have := Nat.min_le_right (PyData.depthAll ds) d.depth; omega) ⟨.bl _, H, I, rfl, q⟩
end
end Wk

set_option Elab.async false
set_option linter.all false
set_option maxRecDepth 100000
set_option maxHeartbeats 4000000
namespace Wk
open PySem PySem.Spec PyProof.Rows L2 Evl SeqAt
/-! == of a sequence and the empty one: by the lengths alone -/
section
variable {X : Cx}
def rEqEL (K : PySem.W.Frag) : R2 := fun x y H Q => ∃ a b xs, x = .ref a ∧ y = .ref b ∧ SqL K H a xs ∧ SqL K H b [] ∧ Q (.bl xs.isEmpty) H
theorem op_eqEL (hu : X.A.units < cLine) : OpR X (compareOp .Eq) (rEqEL X.K) := fun pins s σ H x y v u Q I rx ry h => by
  obtain ⟨a, b, xs, rfl, rfl, ha, hb, q⟩ := h
  cases rx
  cases ry
  obtain ⟨its, r1, p1, _⟩ := I.list ha
  obtain ⟨its2, r2, p2, _⟩ := I.list hb
  cases r2
  cases r1 with
  | nil => exact eq_listAt (e := fun _ => true) p1.isList p2.isList rfl hu (fun j h1 _ => absurd h1 (by simp)) ⟨.bl true, H, I, rfl, q⟩
  | cons r rr => exact eq_list_lengthsAt p1.isList p2.isList (by simp) hu ⟨.bl false, H, I, rfl, q⟩
def rEqEU (K : PySem.W.Frag) : R2 := fun x y H Q => ∃ a b xs, x = .ref a ∧ y = .ref b ∧ SqT K H a xs ∧ SqT K H b [] ∧ Q (.bl xs.isEmpty) H
theorem op_eqEU (hu : X.A.units < cLine) : OpR X (compareOp .Eq) (rEqEU X.K) := fun pins s σ H x y v u Q I rx ry h => by
  obtain ⟨a, b, xs, rfl, rfl, ha, hb, q⟩ := h
  cases rx
  cases ry
  obtain ⟨its, r1, p1, _⟩ := I.tuple ha
  obtain ⟨its2, r2, p2, _⟩ := I.tuple hb
  cases r2
  refine eq_tupleAt (e := fun _ => true) p1 p2 hu (fun j _ h2 => absurd h2 (by simp)) ⟨.bl xs.isEmpty, H, I, ?_, q⟩
  cases r1 <;> rfl
def rNeEU (K : PySem.W.Frag) : R2 := fun x y H Q => ∃ a b xs, x = .ref a ∧ y = .ref b ∧ SqT K H a xs ∧ SqT K H b [] ∧ Q (.bl (!xs.isEmpty)) H
theorem op_neEU (hu : X.A.units < cLine) : OpR X (compareOp .NotEq) (rNeEU X.K) := fun pins s σ H x y v u Q I rx ry h => by
  obtain ⟨a, b, xs, rfl, rfl, ha, hb, q⟩ := h
  cases rx
  cases ry
  obtain ⟨its, r1, p1, _⟩ := I.tuple ha
  obtain ⟨its2, r2, p2, _⟩ := I.tuple hb
  cases r2
  refine RcNeAt.tuples (e := fun _ => true) p1 p2 hu (fun j _ h2 => absurd h2 (by simp)) X.prog X.w _ _ ⟨.bl (!xs.isEmpty), H, I, ?_, q⟩
  cases r1 <;> rfl
end
/-! a dict and a tuple are unlike -/
theorem dictEqTup (l b : Addr) (o : Obj) (hoc : o.cls = .type "dict") (its : Array Value) (n : Nat) (dd : Option Addr) (sl : Array (Option Value)) :
    Meets (Builtin.«dict.__eq__» ⟨[.ref l, .ref b], []⟩) (fun _ R s => s.heap.get? l = some o ∧ s.heap.get? b = some { cls := .type "tuple", dict := dd, data := .seq its n, slots := sl } ∧ R (.ok (.ret .notImplemented)) s) :=
  .of_wp fun prog w A R s h => by
    obtain ⟨hp, g, d, tk, os⟩ := s
    obtain ⟨hl, hb, h⟩ := h
    obtain ⟨oc, od, dt, os2⟩ := o
    simp only at hoc
    subst hoc
    have f1 := F.sub_tuple_dict
    wp_walk using wpAny_loadPart' hl, wpAny_loadPart' hb
    exact ⟨_, rfl, h⟩
theorem tupEqDict (l b : Addr) (o : Obj) (hoc : o.cls = .type "dict") (its : Array Value) (n : Nat) (dd : Option Addr) (sl : Array (Option Value)) :
    Meets (Builtin.«tuple.__eq__» ⟨[.ref b, .ref l], []⟩) (fun _ R s => s.heap.get? b = some { cls := .type "tuple", dict := dd, data := .seq its n, slots := sl } ∧ s.heap.get? l = some o ∧ R (.ok (.ret .notImplemented)) s) :=
  .of_wp fun prog w A R s h => by
    obtain ⟨hp, g, d, tk, os⟩ := s
    obtain ⟨hb, hl, h⟩ := h
    obtain ⟨oc, od, dt, os2⟩ := o
    simp only at hoc
    subst hoc
    have f1 := F.sub_dict_tuple
    wp_walk using wpAny_loadPart' hl, wpAny_loadPart' hb
    exact ⟨_, rfl, h⟩
section
variable {A : Around} {s : Shared}
theorem eqAt_dictTup {l b : Addr} {o : Obj} {its : Array Value} (hl : s.heap.get? l = some o) (hoc : o.cls = .type "dict") (hb : s.heap.IsTuple b its) (hu : A.units < cLine) : EqAt A s (.ref l) (.ref b) false := by
  obtain ⟨⟨c2, dd, dt, sl⟩, ho2, hc2, n, hd2⟩ := hb
  simp only at hc2 hd2
  subst hc2 hd2
  have hne : l ≠ b := fun z => by
    rw [z, ho2] at hl
    cases hl
    exact absurd hoc (by simp)
  refine EqAt.of_refs hne fun prog w E Q h => ?_
  exact rc_eq_decline_or (k := false) ⟨_, hl, hoc⟩ ⟨_, ho2, rfl⟩ (by decide) F.sub_tuple_dict F.slot_dict_eq F.slot_tuple_eq_refl
    (fun _ hq => call_meets F.slot_dict_eq ⟨_, hl, hoc⟩ F.entry_dict_eq (F.args_dict_eq_2 _ _) (dictEqTup l b o hoc its n dd sl) ⟨hl, ho2, hq⟩)
    (fun _ hq => call_meets F.slot_tuple_eq_refl ⟨_, ho2, rfl⟩ F.entry_tuple_eq (F.args_tuple_eq_2 _ _) (tupEqDict l b o hoc its n dd sl) ⟨ho2, hl, hq⟩)
    (fun _ hq => wpAny_isSame_ref_other hne hl ho2 (by rw [hoc]; simp) hq) (.inr hu) h
end
/-- an item of an edited row -/
def Itm (d : PyData) : Prop := d = .dict [] ∨ (d.canLay0 = true ∧ d.depth ≤ 8)
section
variable {X : Cx}
/-- x not in l, l a list of such items, x a tuple: a flag -/
def rNotInX (K : PySem.W.Frag) : R2 := fun x y H Q => ∃ a p ds vs es, x = .ref a ∧ y = .ref p ∧ H p = some (.lst vs) ∧ DqA H vs ds ∧ (∀ d ∈ ds, Itm d) ∧ Dq H (.ref a) (.tuple es) ∧ PyData.canLay0 (.tuple es) = true ∧ ∀ b : Bool, Q (.bl b) H
theorem op_notInX (hu : X.A.units + 66 < cLine) : OpR X (compareOp .NotIn) (rNotInX X.K) := fun pins s σ H x y v u Q I rx ry h => by
  obtain ⟨a, p, ds, vs, es, rfl, rfl, hp, hds, hi, hx, cx, q⟩ := h
  cases rx
  cases ry
  obtain ⟨its, r1, p1, _⟩ := I.list (sq_of hp)
  have hxp := hx
  cases hxp with
  | tup h1 h2 =>
    obtain ⟨as, rx⟩ := Dp.reads I (.tuple es) (.ref a) (.ref a) (Dq.dp (K := X.K) cx hx) rfl
    obtain ⟨its2, r2, p2, _⟩ := I.tuple (st_of h1)
    have key : ∀ y ∈ its, ∃ b, EqAt X.A.in1 s y (.ref a) b := fun y hy => by
      obtain ⟨i, hiy⟩ := List.mem_iff_getElem?.mp hy
      have hil : i < vs.length := by
        have := (List.getElem?_eq_some_iff.mp hiy).1
        rw [r1.length]; exact this
      have hv : vs[i]? = some vs[i] := List.getElem?_eq_getElem hil
      obtain ⟨u2, hu2, ru⟩ := r1.get hv
      rw [hiy] at hu2
      cases hu2
      obtain ⟨d, ed, hd⟩ := hds.get hv
      rcases hi d (List.mem_of_getElem? ed) with z | ⟨z, zd⟩
      · subst z
        generalize hvv : vs[i] = vv at *
        cases hd with
        | dic hdd =>
          cases ru
          obtain ⟨_, _, vs2, _, o, es2, ep, g1, g2, _⟩ := (show ObjOk X.prog X.w H s.heap _ (.dK []) from I.hok _ _ hdd)
          exact ⟨false, eqAt_dictTup g1 g2.1 p2 (by show X.A.in1.units < cLine; simp; omega)⟩
      · obtain ⟨bs, ry⟩ := Dp.reads I d vs[i] y (Dq.dp (K := X.K) z hd) ru
        exact ⟨_, eqAt_reads d (.tuple es) X.A.in1 s y (.ref a) bs as ry rx z cx (by
          have hm := Nat.min_le_left d.depth (PyData.tuple es).depth
          show X.A.in1.units + _ < cLine
          simp
          omega)⟩
    have key2 : ∃ e : Value → Bool, ∀ y, y ∈ its.toArray → EqAt X.A.in1 s y (.ref a) (e y) := by
      refine ⟨fun y => @decide (EqAt X.A.in1 s y (.ref a) true) (Classical.propDecidable _), fun y hy => ?_⟩
      obtain ⟨b, hb⟩ := key y (by simpa using hy)
      by_cases c : EqAt X.A.in1 s y (.ref a) true
      · simp only [c, decide_true]
      · simp only [c, decide_false]
        cases b with
        | false => exact hb
        | true => exact absurd hb c
    obtain ⟨e, he⟩ := key2
    exact notIn_listAt e p1.isList he ⟨.bl _, H, I, rfl, q _⟩
end
end Wk

set_option Elab.async false
set_option linter.all false
set_option maxRecDepth 100000
set_option maxHeartbeats 2000000
namespace Wk
open PySem PySem.Spec PyProof.Rows L2 Evl
def top (i : Nat) : Stmt := PySem.Challenge.pw_wishreels_k67_restart_and_what_comes_bac.main.body.getD i (.Pass ⟨0, 0, 0, 0⟩)
abbrev FnP (K : PySem.W.Frag) (x : Str) (st : Stmt) (f : Addr) (fd : FuncData) : Prop := FunD K x x (defArgs st) (defBody st) (defScope st) [] [] f fd
/-- names that are the built-in ones -/
structure Bl (mg : Str → Option Value) : Prop where
  isi : mg "isinstance" = none
  len : mg "len" = none
  tuple : mg "tuple" = none
  list : mg "list" = none
  int : mg "int" = none
  bool : mg "bool" = none
  str : mg "str" = none
  all : mg "all" = none
  set : mg "set" = none
  enum : mg "enumerate" = none
  range : mg "range" = none
  abs : mg "abs" = none
  min : mg "min" = none
  repr : mg "repr" = none
/-- a pure promise: a plain value, what stood stays -/
def spP (R : Hp → List V → V → Prop) : Sp := fun vs H Q _ => ∃ z, R H vs z ∧ ∀ H', Ex H H' → Q z H'
theorem spP_v {R : Hp → List V → V → Prop} {vs : List V} {H : Hp} {z : V} (h : ∀ H1, Ex H H1 → R H1 vs z) : SpV (spP R) vs H z := fun H1 e Q q E => ⟨z, h H1 e, fun H2 e2 => q H2 e2⟩
def isI : PyData → Bool
  | .int _ => true
  | _ => false
/-- what a datum is worth as an int -/
def valI : PyData → Int
  | .int i => i
  | _ => 0
theorem isI_eq {d : PyData} (h : isI d = true) : d = .int (valI d) := by
  cases d <;> first | rfl | (simp [isI] at h)
theorem kit_int (d : PyData) : ∃ b, kitB (tyN d) "int" = some b ∧ (b = true → ∃ c, kitB (tyN d) "bool" = some c ∧ (b && !c) = isI d) ∧ (b = false → isI d = false) := by
  cases d with
  | none => exact ⟨false, show kitB "NoneType" "int" = some false by decide +kernel, fun h => (by cases h), fun _ => rfl⟩
  | bool b => exact ⟨true, show kitB "bool" "int" = some true by decide +kernel, fun _ => ⟨true, show kitB "bool" "bool" = some true by decide +kernel, rfl⟩, fun h => (by cases h)⟩
  | int i => exact ⟨true, show kitB "int" "int" = some true by decide +kernel, fun _ => ⟨false, show kitB "int" "bool" = some false by decide +kernel, rfl⟩, fun h => (by cases h)⟩
  | str z => exact ⟨false, show kitB "str" "int" = some false by decide +kernel, fun h => (by cases h), fun _ => rfl⟩
  | list ds => exact ⟨false, show kitB "list" "int" = some false by decide +kernel, fun h => (by cases h), fun _ => rfl⟩
  | tuple ds => exact ⟨false, show kitB "tuple" "int" = some false by decide +kernel, fun h => (by cases h), fun _ => rfl⟩
  | dict ds => exact ⟨false, show kitB "dict" "int" = some false by decide +kernel, fun h => (by cases h), fun _ => rfl⟩
def isTu : PyData → Bool
  | .tuple _ => true
  | _ => false
def itemsT : PyData → List PyData
  | .tuple ds => ds
  | _ => []
theorem kit_tup (d : PyData) : kitB (tyN d) "tuple" = some (isTu d) := by
  cases d with
  | none => exact show kitB "NoneType" "tuple" = some false by decide +kernel
  | bool b => exact show kitB "bool" "tuple" = some false by decide +kernel
  | int i => exact show kitB "int" "tuple" = some false by decide +kernel
  | str z => exact show kitB "str" "tuple" = some false by decide +kernel
  | list ds => exact show kitB "list" "tuple" = some false by decide +kernel
  | tuple ds => exact show kitB "tuple" "tuple" = some true by decide +kernel
  | dict ds => exact show kitB "dict" "tuple" = some false by decide +kernel
def isR (n : Int) (d : PyData) : Bool := isI d && (decide (0 ≤ valI d) && decide (valI d ≤ n - 1))
section
variable {P : Program} {w : World} {K : PySem.W.Frag} {mg : Str → Option Value} {base : Heap} {f : Addr} {fd : FuncData}
/-! is_integer, _law_is_int -/
abbrev spIsInt : Sp := spP fun H vs z => ∃ v d, vs = [v] ∧ Dq H v d ∧ z = .bl (isI d)
abbrev sIsInt : Stmt := top 8
theorem scIsInt : FnScope ["thing"] ["thing"] (defScope sIsInt) := ⟨rfl, rfl, rfl, by decide +kernel, rfl, by decide +kernel, by decide +kernel⟩
theorem ok_isInt (B : Bl mg) (F : FnP K "is_integer" sIsInt f fd) : FnOk P w K mg base CX0 1 f fd ["thing"] spIsInt := by
  refine F.ok scIsInt (fun vs H Q E h => ?_) (fun cdv A outer s H vs Q E hr h => ?_)
  · obtain ⟨z, ⟨v, d, rfl, _⟩, _⟩ := h
    rfl
  · obtain ⟨z, ⟨v, d, rfl, hd, rfl⟩, k⟩ := h
    refine ⟨_, pss_one (ps_ret (pe_and (pe_callB call_isi (by rfl) B.isi boot_isinstance (pa_cons (pv 0) (pa_cons (pe_bltn (v := .ty "int") (by rfl) B.int PyProof.Rows.boot_int rfl) pa_nil)))
      (pe_one (pe_not (pe_callB call_isi (by rfl) B.isi boot_isinstance (pa_cons (pv 0) (pa_cons (pe_bltn (v := .ty "bool") (by rfl) B.bool PyProof.Rows.boot_bool rfl) pa_nil))))))), ?_⟩
    obtain ⟨b, hb, h1, h2⟩ := kit_int d
    have v0 : Ev (tVar 0) (start ["thing"] [v]) H v := ev_var rfl
    cases b with
    | true =>
      obtain ⟨c, hc, e⟩ := h1 rfl
      rw [← e] at k
      exact s_ret (ev_andV (ev_isi v0 hd hb) fun _ => ev_notV (ev_isi v0 hd hc)) k
    | false =>
      rw [h2 rfl] at k
      exact s_ret (ev_andV (b := false) (ev_isi v0 hd hb) fun z => (by cases z)) k

/-! is_between, is_router -/
abbrev spBetween : Sp := spP fun H vs z => ∃ (a b : Int) (v : V) (d : PyData), vs = [.int a, .int b, v] ∧ Dq H v d ∧ z = .bl (isI d && (decide (a ≤ valI d) && decide (valI d ≤ b)))
abbrev sBetween : Stmt := top 9
theorem scBetween : FnScope ["least", "most", "thing"] ["least", "most", "thing"] (defScope sBetween) := ⟨rfl, rfl, rfl, by decide +kernel, rfl, by decide +kernel, by decide +kernel⟩
theorem ok_between (B : Bl mg) (C : Cal P w K mg base "is_integer" ["thing"] 1 spIsInt) (F : FnP K "is_between" sBetween f fd) : FnOk P w K mg base CX0 2 f fd ["least", "most", "thing"] spBetween := by
  refine F.ok scBetween (fun vs H Q E h => ?_) (fun cdv A outer s H vs Q E hr h => ?_)
  · obtain ⟨z, ⟨a, b, v, d, rfl, _⟩, _⟩ := h
    rfl
  · obtain ⟨z, ⟨a, b, v, d, rfl, hd, rfl⟩, k⟩ := h
    refine ⟨_, pss_one (ps_ret (pe_and (pe_cal C hr (by rfl) (pa_cons (pv 2) pa_nil)) (pe_one (pe_chain op_le op_le (pv 0) (pv 2) (pv 1))))), ?_⟩
    have v0 : Ev (tVar 0) (start ["least", "most", "thing"] [.int a, .int b, v]) H (.int a) := ev_var rfl
    have v1 : Ev (tVar 1) (start ["least", "most", "thing"] [.int a, .int b, v]) H (.int b) := ev_var rfl
    have v2 : Ev (tVar 2) (start ["least", "most", "thing"] [.int a, .int b, v]) H v := ev_var rfl
    refine s_ret (ev_andV (a := isI d) (ev_call (ea_cons v2 ea_nil) (spP_v fun H1 e => ⟨v, d, rfl, hd.mono e, rfl⟩)) fun hi => ?_) k
    rw [isI_eq hi] at hd
    cases hd
    exact ev_chain v0 v2 v1 rv_I0 rv_I0
abbrev spRouter : Sp := spP fun H vs z => ∃ (n : Int) (v : V) (d : PyData), vs = [.int n, v] ∧ Dq H v d ∧ z = .bl (isR n d)
abbrev sRouter : Stmt := top 12
theorem scRouter : FnScope ["size", "thing"] ["size", "thing"] (defScope sRouter) := ⟨rfl, rfl, rfl, by decide +kernel, rfl, by decide +kernel, by decide +kernel⟩
theorem ok_router (C : Cal P w K mg base "is_between" ["least", "most", "thing"] 2 spBetween) (F : FnP K "is_router" sRouter f fd) : FnOk P w K mg base CX0 3 f fd ["size", "thing"] spRouter := by
  refine F.ok scRouter (fun vs H Q E h => ?_) (fun cdv A outer s H vs Q E hr h => ?_)
  · obtain ⟨z, ⟨n, v, d, rfl, _⟩, _⟩ := h
    rfl
  · obtain ⟨z, ⟨n, v, d, rfl, hd, rfl⟩, k⟩ := h
    refine ⟨_, pss_one (ps_ret (pe_cal C hr (by rfl) (pa_cons pe_int (pa_cons (pe_op op_sub (pv 0) pe_int) (pa_cons (pv 1) pa_nil))))), ?_⟩
    exact s_ret (ev_call (ea_cons ev_c (ea_cons (ev_op (ev_var rfl) ev_c rv_I0) (ea_cons (ev_var rfl) ea_nil))) (spP_v fun H1 e => ⟨0, n - 1, v, d, rfl, hd.mono e, rfl⟩)) k
end
end Wk

set_option Elab.async false
set_option linter.all false
set_option maxRecDepth 100000
set_option maxHeartbeats 2000000
namespace Wk
open PySem PySem.Spec PyProof.Rows L2 Evl
theorem cut_to (xs : List V) (i : Nat) (h : i ≤ xs.length) : cutV xs none (some (i : Int)) = xs.take i := by
  unfold cutV
  rw [HT.sIx_none, HT.sIx_nat, Nat.min_eq_left h]
  simp
theorem flat_ints (ns : List Int) : (ns.map V.int).all flatV = true := by
  rw [List.all_map, List.all_eq_true]
  intro x _
  rfl
theorem cut_from (xs : List V) (i : Nat) (h : i ≤ xs.length) : cutV xs (some (i : Int)) none = xs.drop i := by
  unfold cutV
  rw [HT.sIx_nat, HT.sIx_none, Nat.min_eq_left h]
  exact List.take_of_length_le (by simp)
theorem seqIx {k n : Nat} (h : k < n) : seqIndex? (k : Int) n = some k := by
  have q := ixN_seq (n := n) (i := (k : Int)) (j := k) (by
    unfold ixN
    rw [if_pos (by omega), if_pos (by omega)]
    simp)
  exact q.1
theorem ix_listK {X : Cx} {K : PySem.W.Frag} (hK : X.K = K) : IxR X (rIxL K) := by
  subst hK
  exact ix_list
theorem ixNat {n : Nat} {x : Int} (h0 : 0 ≤ x) (h1 : x < n) : ixN n x = some x.toNat := by
  unfold ixN
  rw [if_pos h0, if_pos h1]
theorem at_ints {os : List Int} {j : Nat} (h : j < os.length) : atI (os.map V.int) (j : Int) = some (.int os[j]) := atI_nat (by rw [List.getElem?_map, List.getElem?_eq_getElem h]; rfl)
theorem g_name {i : Nat} {x : V} {σ : L2.St} {H : Hp} {k : L2.St → Hp → Prop} (h : k (σ.set i (some x)) H) : gName i x σ H k := h
theorem asg_lst1 {te : TE} {g : TG} {D : Ends} {σ : L2.St} {H : Hp} (h : te σ H fun x H1 => 1 ≤ sizeLine ∧ ∀ b, H1 b = none → g (.ref b) σ (upd H1 b (.lst [x])) D.nx) : tAsg (tLst (tCons te tNil)) g D σ H := h
theorem cb1 {r : List V → Hp → VK → Prop} {ta : TE} {σ : L2.St} {H : Hp} {Q : VK} (h : ta σ H fun x H1 => r [x] H1 Q) : tCB r (tCons ta tNil) σ H Q := h
theorem q_c {i : Nat} {v : V} {tz : TS} {D : Ends} {σ : L2.St} {H : Hp} (h : tz D (σ.set i (some v)) H) : tSeq (tAsg (tC v) (gName i)) tz D σ H := h
theorem call_tupleK {X : Cx} {K : PySem.W.Frag} (hK : X.K = K) : CallR X (.type "tuple") (fun xs H Q => ∃ p ys, xs = [.ref p] ∧ ((SqL K H p ys ∧ ∀ l, H l = none → Q (.ref l) (upd H l (.tup ys))) ∨ (SqT K H p ys ∧ Q (.ref p) H))) := by
  subst hK
  exact call_tuple_of
theorem ret_cb {r : List V → Hp → VK → Prop} {ta : TE} {D : Ends} {σ : L2.St} {H : Hp} (h : ta σ H fun x H1 => r [x] H1 D.rt) : tRet (tCB r (tCons ta tNil)) D σ H := h
theorem ret_op {r : R2} {ta tb : TE} {D : Ends} {σ : L2.St} {H : Hp} (h : ta σ H fun x H1 => tb σ H1 fun y H2 => r x y H2 D.rt) : tRet (tOp r ta tb) D σ H := h
theorem call_listK2 {X : Cx} {K : PySem.W.Frag} (hK : X.K = K) : CallR X (.type "list") (fun xs H Q => ∃ p ys, xs = [.ref p] ∧ (SqL K H p ys ∨ SqT K H p ys) ∧ ∀ l, H l = none → Q (.ref l) (upd H l (.lst ys))) := by
  subst hK
  exact call_list_of
theorem take_snoc {α : Type} {l : List α} {i : Nat} {x : α} (h : l[i]? = some x) : l.take (i + 1) = l.take i ++ [x] := by
  rw [List.take_add_one, h]
  rfl
theorem ev_inS {K : PySem.W.Frag} {σ : L2.St} {H : Hp} {ta tb : TE} {x : V} {xs : List V} (ha : Ev ta σ H x) (hb : EvS tb σ H xs) (hx : flatV x = true) (hf : xs.all flatV = true) : Ev (tOp (rIn K false) ta tb) σ H (.bl (inV x xs)) := fun H1 e Q q =>
  ha H1 e _ fun H2 e2 => hb H2 (e.trans e2) _ fun p H3 e3 hp => ⟨p, xs, rfl, .inr (st_of hp), hx, hf, q H3 (e2.trans e3)⟩
theorem modP (a b : Int) (h : 0 < b) : 0 ≤ a % b ∧ a % b < b := ⟨Int.emod_nonneg _ (by omega), Int.emod_lt_of_pos _ h⟩
theorem q_asgW {te : TE} {tz : TS} {D : Ends} {σ : L2.St} {H : Hp} {i : Nat} (h : te σ H fun x H1 => tz D (σ.set i (some x)) H1) : tSeq (tAsg te (gName i)) tz D σ H := h
end Wk

set_option Elab.async false
set_option linter.all false
set_option maxRecDepth 100000
set_option maxHeartbeats 2000000
namespace Wk
open PySem PySem.Spec PyProof.Rows L2 Evl
/-! the pool: the list at p of the list at q that stays, and of three numbers; G is what stays -/
structure Pm (G H : Hp) (p q : Addr) : Prop where
  ex : Ex G H
  gp : G p = none
  gq : ∃ cs : List Int, G q = some (.lst (cs.map V.int)) ∧ cs.length ≤ 63
  at_ : ∃ (a b c : Int), H p = some (.lst [.ref q, .int a, .int b, .int c]) ∧ 0 ≤ a ∧ 0 ≤ b ∧ 0 ≤ c
theorem Pm.np {G H : Hp} {p q a : Addr} (h : Pm G H p q) (ha : H a = none) : a ≠ p := fun z => by
  obtain ⟨a', b, c, h2, _⟩ := h.at_
  rw [z, h2] at ha
  cases ha
theorem Pm.ext {G H H' : Hp} {p q : Addr} (h : Pm G H p q) (e : Ex H H') : Pm G H' p q := by
  obtain ⟨a, b, c, h2, r⟩ := h.at_
  exact ⟨h.ex.trans e, h.gp, h.gq, a, b, c, e _ _ h2, r⟩
theorem Pm.new {G H : Hp} {p q a : Addr} {o : HO} (h : Pm G H p q) (ha : H a = none) : Pm (upd G a o) (upd H a o) p q := by
  obtain ⟨a', b, c, h2, r⟩ := h.at_
  obtain ⟨cs, h0, h1⟩ := h.gq
  have np := h.np ha
  have ga := fresh_back h.ex ha
  refine ⟨fun b u hb => ?_, by rw [upd_ne (Ne.symm np)]; exact h.gp, ⟨cs, (Ex.new ga) _ _ h0, h1⟩, a', b, c, by rw [upd_ne (Ne.symm np)]; exact h2, r⟩
  by_cases c : b = a
  · rw [c, upd_same] at hb ⊢
    exact hb
  · rw [upd_ne c] at hb ⊢
    exact h.ex _ _ hb
theorem Pm.mut {G H : Hp} {p q a : Addr} {o : HO} (h : Pm G H p q) (ga : G a = none) (np : a ≠ p) : Pm G (upd H a o) p q := by
  obtain ⟨a', b, c, h2, r⟩ := h.at_
  exact ⟨Ex.mut h.ex ga, h.gp, h.gq, a', b, c, by rw [upd_ne (Ne.symm np)]; exact h2, r⟩
theorem Pm.hold {G H : Hp} {p q a : Addr} {o : HO} (h : Pm G H p q) (ha : H a = some o) (np : a ≠ p) (ga : G a = none) : Pm (upd G a o) H p q := by
  obtain ⟨cs, h0, h1⟩ := h.gq
  refine ⟨fun b u hb => ?_, by rw [upd_ne (Ne.symm np)]; exact h.gp, ⟨cs, (Ex.new ga) _ _ h0, h1⟩, h.at_⟩
  by_cases c : b = a
  · rw [c, upd_same] at hb
    cases hb
    rw [c]
    exact ha
  · rw [upd_ne c] at hb
    exact h.ex _ _ hb
def Of1 (p : Addr) (H H' : Hp) : Prop := ∀ b o, b ≠ p → H b = some o → H' b = some o
theorem Of1.refl (p : Addr) (H : Hp) : Of1 p H H := fun _ _ _ h => h
theorem Of1.trans {p : Addr} {H H1 H2 : Hp} (a : Of1 p H H1) (b : Of1 p H1 H2) : Of1 p H H2 := fun c o h1 h => b c o h1 (a c o h1 h)
theorem Of1.ex {p : Addr} {H H1 : Hp} (e : Ex H H1) : Of1 p H H1 := fun c o _ h => e c o h
open Classical in
noncomputable def Hd1 (H : Hp) (p : Addr) : Hp := fun b => if b = p then none else H b
theorem hd1_at {H : Hp} {p b : Addr} (hp : b ≠ p) : Hd1 H p b = H b := by
  unfold Hd1
  rw [if_neg hp]
theorem Pm.sub {G H : Hp} {p q : Addr} (h : Pm G H p q) : Ex G (Hd1 H p) := fun b o hb => by
  have hp : b ≠ p := fun z => by rw [z, h.gp] at hb; cases hb
  rw [hd1_at hp]
  exact h.ex _ _ hb
theorem Pm.hd {G H : Hp} {p q : Addr} (h : Pm G H p q) : Pm (Hd1 H p) H p q := by
  obtain ⟨cs, h0, h1⟩ := h.gq
  refine ⟨fun b o hb => ?_, by unfold Hd1; rw [if_pos rfl], ⟨cs, h.sub _ _ h0, h1⟩, h.at_⟩
  unfold Hd1 at hb
  split at hb
  · cases hb
  · exact hb
theorem Pm.off {H H' : Hp} {p q : Addr} (h : Pm (Hd1 H p) H' p q) : Of1 p H H' := fun b o hp hb => h.ex b o (by rw [hd1_at hp]; exact hb)
theorem Pm.back {G H H' : Hp} {p q : Addr} (h0 : Pm G H p q) (h : Pm (Hd1 H p) H' p q) : Pm G H' p q := ⟨h0.sub.trans h.ex, h0.gp, h0.gq, h.at_⟩
/-- less stays -/
theorem Pm.less {G G' H : Hp} {p q : Addr} (h : Pm G H p q) (e : Ex G' G) (hq : ∃ cs : List Int, G' q = some (.lst (cs.map V.int)) ∧ cs.length ≤ 63) : Pm G' H p q := ⟨e.trans h.ex, fresh_back e h.gp, hq, h.at_⟩
theorem rng_getD (ns : List Int) : (List.range ns.length).map (fun i => V.int (ns.getD i 0)) = ns.map V.int := by
  apply List.ext_getElem
  · simp
  · intro i h1 h2
    have h3 : i < ns.length := by simpa using h1
    simp [List.getD_eq_getElem?_getD, List.getElem?_eq_getElem h3]
theorem given_yesAll (n : Nat) (v : Nat → V) : given n (fun _ => true) v = (List.range n).map v := by
  unfold given
  rw [List.filter_eq_self.mpr fun _ _ => rfl]
theorem cut_all {ns : List Int} (h : ns.length ≤ 63) : cutV (ns.map V.int) none (some 63) = ns.map V.int := by
  unfold cutV
  rw [HT.sIx_none, show ((63 : Int)) = ((63 : Nat) : Int) from rfl, HT.sIx_nat, List.length_map, Nat.min_eq_right h]
  simp
  exact List.take_of_length_le (by simp)
theorem ret_lst1 {te : TE} {ta : TA} {D : Ends} {σ : L2.St} {H : Hp} (h : te σ H fun x H1 => ta σ H1 fun vs H2 => (x :: vs).length ≤ sizeLine ∧ ∀ l, H2 l = none → D.rt (.ref l) (upd H2 l (.lst (x :: vs)))) : tRet (tLst (tCons te ta)) D σ H := h
section
variable {P : Program} {w : World} {K : PySem.W.Frag} {mg : Str → Option Value} {base : Heap} {f : Addr} {fd : FuncData}
/-! _law_pool -/
def spPool (K : PySem.W.Frag) : Sp := fun vs H Q _ => ∃ (a : Addr) (ns : List Int), vs = [.ref a] ∧ SqL K H a (ns.map V.int) ∧ ns.length ≤ 63 ∧ ∀ G H' p q, Ex H G → Pm G H' p q → Q (.ref p) H'
abbrev sPool : Stmt := top 31
abbrev nPool : List Str := ["_law_script", "_law_cell"]
theorem scPool : FnScope nPool ["_law_script"] (defScope sPool) := ⟨rfl, rfl, rfl, by decide +kernel, rfl, by decide +kernel, by decide +kernel⟩
theorem ok_pool (B : Bl mg) (F : FnP K "_law_pool" sPool f fd) : FnOk P w K mg base CX0 1 f fd ["_law_script"] (spPool K) := by
  refine F.ok scPool (fun vs H Q E h => ?_) (fun cdv A outer s H vs Q E hr h => ?_)
  · obtain ⟨a, ns, rfl, _⟩ := h
    rfl
  · obtain ⟨a, ns, rfl, hs, hl, k⟩ := h
    refine ⟨_, pss_one (ps_ret (pe_lst (pa_cons (pe_lc (own := [("_law_cell", 1)]) (g := gName 1) (tt := tYes) rfl scPool.nd (pi_list (pe_slice sl_list (pv 0) po_none (po_some pe_int))) (blkOk_by (N := nPool) (sc := defScope sPool) (by decide +kernel))
          (fun _ _ _ _ _ => pg_name (i := 1) scPool.nd rfl (Or.inl rfl)) (fun _ _ _ _ _ => pts_nil)
          (fun _ _ _ _ _ => pe_callTy call_int1 (by rfl) B.int PyProof.Rows.boot_int (pa_cons (pv 1) pa_nil))) (pa_cons pe_int (pa_cons pe_int (pa_cons pe_int pa_nil)))))), ?_⟩
    have hsl : EvL (tSl (rSlL K) (tVar 0) tNoPart (tPart (tC (.int 63)))) (wipe (start nPool [V.ref a]) [1]) H (ns.map V.int) := by
      have q := el_sl (K := K) (te := tVar 0) (σ := wipe (start nPool [V.ref a]) [1]) (H := H) (ev_var rfl) eo_none (eo_some (i := 63) ev_c) hs
      rw [cut_all hl] at q
      exact q
    have hlc := el_lcNL (K := K) (σ := start nPool [V.ref a]) (H := H) (j := 1) (vs := [1]) (te := tCB (fun xs H Q => (∃ i, xs = [.int i] ∧ Q (.int i) H) ∨ ∃ k, xs = [.bl k] ∧ Q (.int (if k then 1 else 0)) H) (tCons (tVar 1) tNil)) (t := tYes) (fun _ => true) (fun i => V.int (ns.getD i 0)) hsl (by rw [List.length_map]; omega) (fun x => rfl) (fun _ _ _ _ _ => et_yes) (fun i x H1 e hx _ => by
      rw [List.getElem?_map] at hx
      cases hn : ns[i]? with
      | none => rw [hn] at hx; cases hx
      | some n =>
        rw [hn] at hx
        have ex : x = .int n := (Option.some.inj hx).symm
        subst ex
        rw [show ns.getD i 0 = n by rw [List.getD_eq_getElem?_getD, hn]; rfl]
        exact ev_cb (ea_cons (ev_var rfl) ea_nil) fun H2 e2 Q2 q => .inl ⟨n, rfl, q H2 (Ex.refl H2)⟩)
    rw [given_yesAll, List.length_map, rng_getD] at hlc
    refine ret_lst1 (hlc H (Ex.refl _) _ fun q H1 hq e1 hq1 => ?_)
    refine ⟨by show 4 ≤ sizeLine; decide, fun p hp => ?_⟩
    exact k H1 _ p q e1 ⟨Ex.new hp, hp, ⟨ns, hq1, hl⟩, 0, 0, 0, upd_same, by decide, by decide, by decide⟩
/-! _law_mixed -/
def mx1 (c m : Int) : Int := ((c + 7919 * m + 1) * 48271) % 2147483647
def mx2 (y : Int) : Int := (y * (y / 1009 + 69621)) % 2147483647
def mx3 (y : Int) : Int := (y * (y / 2003 + 40692)) % 2147483399
def mixI (c m : Int) : Int := mx3 (mx2 (mx1 c m))
theorem mixI_nn (c m : Int) : 0 ≤ mixI c m := (modP _ 2147483399 (by decide)).1
abbrev spMixed : Sp := spP fun _ vs z => ∃ c m : Int, vs = [.int c, .int m] ∧ z = .int (mixI c m)
abbrev sMixed : Stmt := top 32
abbrev nMixed : List Str := ["_law_cell", "_law_many", "_law_number"]
theorem scMixed : FnScope nMixed ["_law_cell", "_law_many"] (defScope sMixed) := ⟨rfl, rfl, rfl, by decide +kernel, rfl, by decide +kernel, by decide +kernel⟩
theorem ok_mixed (B : Bl mg) (F : FnP K "_law_mixed" sMixed f fd) : FnOk P w K mg base CX0 1 f fd ["_law_cell", "_law_many"] spMixed := by
  refine F.ok scMixed (fun vs H Q E h => ?_) (fun cdv A outer s H vs Q E hr h => ?_)
  · obtain ⟨z, ⟨c, m, rfl, _⟩, _⟩ := h
    rfl
  · obtain ⟨z, ⟨c, m, rfl, rfl⟩, k⟩ := h
    refine ⟨_, pss_cons (ps_set (i := 2) scMixed.nd rfl (Or.inl rfl) (pe_op op_mod (pe_callTy call_int1 (by rfl) B.int PyProof.Rows.boot_int (pa_cons (pe_op op_mul (pe_op op_add (pe_op op_add (pv 0) (pe_op op_mul pe_int (pv 1))) pe_int) pe_int) pa_nil)) pe_int))
      (pss_cons (ps_set (i := 2) scMixed.nd rfl (Or.inl rfl) (pe_op op_mod (pe_callTy call_int1 (by rfl) B.int PyProof.Rows.boot_int (pa_cons (pe_op op_mul (pv 2) (pe_op op_add (pe_op op_fdiv (pv 2) pe_int) pe_int)) pa_nil)) pe_int))
      (pss_one (ps_ret (pe_op op_mod (pe_callTy call_int1 (by rfl) B.int PyProof.Rows.boot_int (pa_cons (pe_op op_mul (pv 2) (pe_op op_add (pe_op op_fdiv (pv 2) pe_int) pe_int)) pa_nil)) pe_int)))), ?_⟩
    refine ⟨.int c, rfl, .int m, rfl, 7919, m, rfl, rfl, .inl ⟨by decide, by decide⟩, c, _, rfl, rfl, _, 1, rfl, rfl, _, 48271, rfl, rfl, .inr ⟨by decide, by decide⟩, .inl ⟨_, rfl, _, 2147483647, rfl, rfl, (show (0 : Int) < 2147483647 by decide), ?_⟩⟩
    have m1 := modP ((c + 7919 * m + 1) * 48271) 2147483647 (by decide)
    change tSeq _ _ _ [some (.int c), some (.int m), some (.int (mx1 c m))] H
    have k' : ∀ H', Ex H H' → Q (.int (mx3 (mx2 (mx1 c m)))) H' := k
    have hy1 : 0 ≤ mx1 c m ∧ mx1 c m < 2147483647 := m1
    generalize mx1 c m = y1 at k' hy1 ⊢
    refine ⟨.int y1, rfl, .int y1, rfl, y1, 1009, rfl, rfl, ⟨by decide, by decide⟩, _, 69621, rfl, rfl, y1, _, rfl, rfl, .inl ⟨by omega, by omega⟩, .inl ⟨_, rfl, _, 2147483647, rfl, rfl, (show (0 : Int) < 2147483647 by decide), ?_⟩⟩
    have m2 : 0 ≤ mx2 y1 ∧ mx2 y1 < 2147483647 := modP (y1 * (y1 / 1009 + 69621)) 2147483647 (by decide)
    refine g_name ?_
    exact ⟨.int (mx2 y1), rfl, .int (mx2 y1), rfl, mx2 y1, 2003, rfl, rfl, ⟨by decide, by decide⟩, _, 40692, rfl, rfl, mx2 y1, _, rfl, rfl, .inl ⟨by omega, by omega⟩, .inl ⟨_, rfl, _, 2147483399, rfl, rfl, (show (0 : Int) < 2147483399 by decide), k' H (Ex.refl _)⟩⟩
/-! _law_draw -/
def spDraw : Sp := fun vs H Q _ => ∃ (G : Hp) (p q : Addr) (z : Int), vs = [.ref p, .int z] ∧ Pm G H p q ∧ 0 < z ∧ z ≤ 1000000000 ∧ ∀ H' (i : Int), Pm G H' p q → 0 ≤ i → i < z → Q (.int i) H'
abbrev sDraw : Stmt := top 33
abbrev nDraw : List Str := ["_law_pool_here", "_law_limit", "_law_drawn", "_law_cell", "_law_fresh"]
theorem scDraw : FnScope nDraw ["_law_pool_here", "_law_limit"] (defScope sDraw) := ⟨rfl, rfl, rfl, by decide +kernel, rfl, by decide +kernel, by decide +kernel⟩
theorem ok_draw (B : Bl mg) (C : Cal P w K mg base "_law_mixed" ["_law_cell", "_law_many"] 1 spMixed) (F : FnP K "_law_draw" sDraw f fd) : FnOk P w K mg base CX0 2 f fd ["_law_pool_here", "_law_limit"] spDraw := by
  refine F.ok scDraw (fun vs H Q E h => ?_) (fun cdv A outer s H vs Q E hr h => ?_)
  · obtain ⟨G, p, q, z, rfl, _⟩ := h
    rfl
  · obtain ⟨G, p, q, z, rfl, hP, hz, hz2, k⟩ := h
    refine ⟨_, pss_cons (ps_asg (pe_op op_add (pe_ix ix_list (pv 0) pe_int (fun _ _ => rfl)) pe_int) (pg_sub (pv 0) pe_int set_list))
      (pss_cons (ps_if (pt_cmpR op_ge (pe_ix ix_list (pv 0) pe_int (fun _ _ => rfl)) (pv 1) (nomark _))
          (pss_cons (ps_set (i := 2) scDraw.nd rfl (Or.inl rfl) (pe_op op_mod (pe_callTy call_int1 (by rfl) B.int PyProof.Rows.boot_int (pa_cons (pe_ix ix_list (pv 0) pe_int (fun _ _ => rfl)) pa_nil)) (pv 1)))
          (pss_cons (ps_asg (pe_op op_fdiv (pe_ix ix_list (pv 0) pe_int (fun _ _ => rfl)) (pv 1)) (pg_sub (pv 0) pe_int set_list))
          (pss_one (ps_ret (pv 2))))) pss_nil)
      (pss_cons (ps_set (i := 3) scDraw.nd rfl (Or.inl rfl) pe_int)
      (pss_cons (ps_set (i := 4) scDraw.nd rfl (Or.inl rfl) (pe_cmpR op_lt (pe_ix ix_list (pv 0) pe_int (fun _ _ => rfl)) (pe_callB call_len_seq (by rfl) B.len PySem.boot_len (pa_cons (pe_ix ix_list (pv 0) pe_int (fun _ _ => rfl)) pa_nil)) (nomark _)))
      (pss_cut (ps_if (pt_cmpR op_gt (pe_callB call_len_seq (by rfl) B.len PySem.boot_len (pa_cons (pe_ix ix_list (pv 0) pe_int (fun _ _ => rfl)) pa_nil)) pe_int (nomark _))
          (pss_one (ps_set (i := 3) scDraw.nd rfl (Or.inl rfl) (pe_callB call_abs (by rfl) B.abs boot_abs (pa_cons (pe_ix ix_list (pe_ix ix_list (pv 0) pe_int (fun _ _ => rfl)) (pe_op op_mod (pe_callTy call_int1 (by rfl) B.int PyProof.Rows.boot_int (pa_cons (pe_ix ix_list (pv 0) pe_int (fun _ _ => rfl)) pa_nil)) (pe_callB call_len_seq (by rfl) B.len PySem.boot_len (pa_cons (pe_ix ix_list (pv 0) pe_int (fun _ _ => rfl)) pa_nil))) (fun _ _ => rfl)) pa_nil)))) pss_nil)
      (pss_cons (ps_asg (pe_op op_add (pe_ix ix_list (pv 0) pe_int (fun _ _ => rfl)) pe_int) (pg_sub (pv 0) pe_int set_list))
      (pss_cons (ps_asg pe_int (pg_sub (pv 0) pe_int set_list))
      (pss_cons (ps_if (PW.pt (pw_and (pt_val (pv 4)) (pw_and1 (pt_cmpR op_ge (pv 3) (pe_op op_pow pe_int pe_int) (nomark _)))))
          (pss_cons (ps_asg (pe_op op_fdiv (pv 3) (pv 1)) (pg_sub (pv 0) pe_int set_list))
          (pss_one (ps_ret (pe_op op_mod (pe_callTy call_int1 (by rfl) B.int PyProof.Rows.boot_int (pa_cons (pv 3) pa_nil)) (pv 1))))) pss_nil)
      (pss_one (ps_ret (pe_op op_mod (pe_callTy call_int1 (by rfl) B.int PyProof.Rows.boot_int (pa_cons (pe_op op_fdiv (pe_cal C hr (by rfl) (pa_cons (pv 3) (pa_cons (pe_ix ix_list (pv 0) pe_int (fun _ _ => rfl)) pa_nil))) pe_int) pa_nil)) (pv 1))))))))))), ?_⟩
    obtain ⟨cs, gq, hcs⟩ := hP.gq
    obtain ⟨a, b, c, hp, ha, hb, hc⟩ := hP.at_
    have hzz : z < 2 ^ 30 := by omega
    refine ⟨.ref p, rfl, p, _, 3, .int c, rfl, rfl, sq_of hp, rfl, c, 1, rfl, rfl, .ref p, rfl, p, _, 3, 3, rfl, rfl, hp, rfl, ?_⟩
    have hpa : (upd H p (.lst ([V.ref q, .int a, .int b, .int c].set 3 (.int (c + 1))))) p = some (.lst [.ref q, .int a, .int b, .int (c + 1)]) := upd_same
    have hPa : Ex G (upd H p (.lst ([V.ref q, .int a, .int b, .int c].set 3 (.int (c + 1))))) := Ex.mut hP.ex hP.gp
    generalize upd H p (.lst ([V.ref q, .int a, .int b, .int c].set 3 (.int (c + 1)))) = H1 at *
    have hc1 : 0 ≤ c + 1 := by omega
    generalize c + 1 = c' at *
    have hq1 := hPa _ _ gq
    refine q_when (b := decide (z ≤ b)) (et_test (ev_op (r := rI0 fun i j => .bl (decide (j ≤ i))) (x := .int b) (y := .int z) (ev_op (ev_var rfl) ev_c (rv_ixL (K := K) (i := 2) (sq_of hpa) rfl)) (ev_var rfl) rv_I0)) (fun hbz H2 e2 => ?_) (fun hbz H2 e2 => ?_)
    · have hp2 := e2 _ _ hpa
      have m := modP b z hz
      refine ⟨.ref p, rfl, p, _, 2, .int b, rfl, rfl, sq_of hp2, rfl, .inl ⟨b, rfl, .int z, rfl, b, z, rfl, rfl, hz, ?_⟩⟩
      refine g_name ?_
      dsimp only
      refine ⟨.ref p, rfl, p, _, 2, .int b, rfl, rfl, sq_of hp2, rfl, .int z, rfl, b, z, rfl, rfl, ⟨hz, by omega⟩, .ref p, rfl, p, _, 2, 2, rfl, rfl, hp2, rfl, ?_⟩
      refine ⟨_, rfl, k _ _ ⟨Ex.mut (hPa.trans e2) hP.gp, hP.gp, hP.gq, _, _, _, upd_same, ha, ?_, hc1⟩ m.1 m.2⟩
      exact Int.ediv_nonneg hb (by omega)
    · have hp2 := e2 _ _ hpa
      have hq2 := e2 _ _ hq1
      have hP2 := hPa.trans e2
      refine q_c ?_
      refine q_asg (v := .bl (decide (a < (cs.length : Int)))) (by
        have z := ev_len (K := K) (ta := tOp (rIxL K) (tVar 0) (tC (.int 0))) (σ := [some (.ref p), some (.int z), none, some (.int 0), none]) (H := H2) (ev_op (ev_var rfl) ev_c (rv_ixL (K := K) (i := 0) (sq_of hp2) rfl)) (sq_of hq2)
        rw [List.length_map] at z
        exact ev_op (r := rI0 fun i j => .bl (decide (i < j))) (ev_op (ev_var rfl) ev_c (rv_ixL (K := K) (i := 1) (sq_of hp2) rfl)) z rv_I0) fun H3 e3 => ?_
      have hp3 := e3 _ _ hp2
      have hq3 := e3 _ _ hq2
      have hP3 := hP2.trans e3
      generalize decide (a < (cs.length : Int)) = fr
      change tCut _ _ _ [some (.ref p), some (.int z), none, some (.int 0), some (.bl fr)] H3
      refine q_cut (M := fun σ' H' => ∃ v : Int, 0 ≤ v ∧ σ' = [some (.ref p), some (.int z), none, some (.int v), some (.bl fr)] ∧ Ex H3 H') ?_ ?_
      · refine s_when (b := decide (0 < (cs.length : Int))) (et_test (by
          have z := ev_len (K := K) (ta := tOp (rIxL K) (tVar 0) (tC (.int 0))) (σ := [some (.ref p), some (.int z), none, some (.int 0), some (.bl fr)]) (H := H3) (ev_op (ev_var rfl) ev_c (rv_ixL (K := K) (i := 0) (sq_of hp3) rfl)) (sq_of hq3)
          rw [List.length_map] at z
          exact ev_op (r := rI0 fun i j => .bl (decide (j < i))) z ev_c rv_I0)) (fun h0 H4 e4 => ?_) (fun _ H4 e4 => ⟨0, by decide, rfl, e4⟩)
        have h0 := of_decide_eq_true h0
        have hp4 := e4 _ _ hp3
        have hq4 := e4 _ _ hq3
        have m := modP a (cs.length : Int) h0
        obtain ⟨j, hj⟩ : ∃ j : Nat, a % (cs.length : Int) = (j : Int) := ⟨(a % (cs.length : Int)).toNat, by omega⟩
        have hjl : j < cs.length := by omega
        have hcj : (cs.map V.int)[j]? = some (.int cs[j]) := by rw [List.getElem?_map, List.getElem?_eq_getElem hjl]; rfl
        generalize cs[j] = v at *
        refine ⟨.ref p, rfl, p, _, 0, .ref q, rfl, rfl, sq_of hp4, rfl, .ref p, rfl, p, _, 1, .int a, rfl, rfl, sq_of hp4, rfl, .inl ⟨a, rfl, .ref p, rfl, p, _, 0, .ref q, rfl, rfl, sq_of hp4, rfl, q, _, rfl, .inl (sq_of hq4), a, _, rfl, rfl, by rw [List.length_map]; exact h0, ?_⟩⟩
        rw [List.length_map]
        dsimp only
        rw [hj]
        refine ⟨q, _, (j : Int), .int v, rfl, rfl, sq_of hq4, atI_nat hcj, v, rfl, ?_⟩
        refine g_name ⟨_, ?_, rfl, e4⟩
        split <;> omega
      · rintro σ' H4 ⟨v, hv, rfl, e4⟩
        have hp4 := e4 _ _ hp3
        have hP4 := hP3.trans e4
        refine ⟨.ref p, rfl, p, _, 1, .int a, rfl, rfl, sq_of hp4, rfl, a, 1, rfl, rfl, .ref p, rfl, p, _, 1, 1, rfl, rfl, hp4, rfl, ?_⟩
        have hp5 : (upd H4 p (.lst ([V.ref q, .int a, .int b, .int c'].set 1 (.int (a + 1))))) p = some (.lst [.ref q, .int (a + 1), .int b, .int c']) := upd_same
        have hP5 : Ex G (upd H4 p (.lst ([V.ref q, .int a, .int b, .int c'].set 1 (.int (a + 1))))) := Ex.mut hP4 hP.gp
        generalize upd H4 p (.lst ([V.ref q, .int a, .int b, .int c'].set 1 (.int (a + 1)))) = H5 at *
        refine ⟨.ref p, rfl, p, _, 2, 2, rfl, rfl, hp5, rfl, ?_⟩
        have hp6 : (upd H5 p (.lst ([V.ref q, .int (a + 1), .int b, .int c'].set 2 (.int 0)))) p = some (.lst [.ref q, .int (a + 1), .int 0, .int c']) := upd_same
        have hP6 : Ex G (upd H5 p (.lst ([V.ref q, .int (a + 1), .int b, .int c'].set 2 (.int 0)))) := Ex.mut hP5 hP.gp
        generalize upd H5 p (.lst ([V.ref q, .int (a + 1), .int b, .int c'].set 2 (.int 0))) = H6 at *
        have ha1 : 0 ≤ a + 1 := by omega
        generalize a + 1 = a' at *
        refine q_when (b := fr && decide ((10 : Int) ^ (18 : Int).toNat ≤ v)) (et_and (et_B (ev_var rfl)) fun _ => et_test fun H7 e7 Q7 q7 => ⟨.int v, rfl, 10, 18, rfl, rfl, ⟨by decide, by decide, by decide⟩, v, _, rfl, rfl, q7 H7 (Ex.refl _)⟩) (fun _ H7 e7 => ?_) (fun _ H7 e7 => ?_)
        · have hp7 := e7 _ _ hp6
          have m := modP v z hz
          refine ⟨.int v, rfl, .int z, rfl, v, z, rfl, rfl, ⟨hz, by omega⟩, .ref p, rfl, p, _, 2, 2, rfl, rfl, hp7, rfl, ?_⟩
          refine ⟨.int v, rfl, .inl ⟨v, rfl, .int z, rfl, v, z, rfl, rfl, hz, k _ _ ⟨Ex.mut (hP6.trans e7) hP.gp, hP.gp, hP.gq, _, _, _, upd_same, ha1, Int.ediv_nonneg hv (by omega), hc1⟩ m.1 m.2⟩⟩
        · have hp7 := e7 _ _ hp6
          refine ⟨.int v, rfl, .ref p, rfl, p, _, 3, .int c', rfl, rfl, sq_of hp7, rfl, .int (mixI v c'), ⟨v, c', rfl, rfl⟩, fun H8 e8 => ?_⟩
          have m := modP (mixI v c' / 16) z hz
          refine ⟨_, 16, rfl, rfl, ⟨by decide, by decide⟩, .inl ⟨_, rfl, .int z, rfl, _, z, rfl, rfl, hz, k _ _ ⟨(hP6.trans e7).trans e8, hP.gp, hP.gq, _, _, _, e8 _ _ hp7, ha1, by decide, hc1⟩ m.1 m.2⟩⟩
/-- a draw, as a call -/
theorem ev_draw {G H : Hp} {p q : Addr} {z : Int} {Q : VK} (h : Pm G H p q) (hz : 0 < z) (hz2 : z ≤ 1000000000) (k : ∀ H' (i : Int), Pm G H' p q → Of1 p H H' → 0 ≤ i → i < z → Q (.int i) H') (E : XK) : spDraw [.ref p, .int z] H Q E :=
  ⟨Hd1 H p, p, q, z, rfl, h.hd, hz, hz2, fun H' i hP h0 h1 => k H' i (h.back hP) hP.off h0 h1⟩
end
end Wk


set_option Elab.async false
set_option linter.all false
set_option maxRecDepth 100000
set_option maxHeartbeats 2000000
namespace Wk
open L2 PySem PySem.Spec PyProof.Rows
section
variable {X : Cx}
/-- one entry more by a comprehension, in a dict of either kind of keys -/
theorem put_dp {ps : List (Addr × Obj)} {σ : L2.St} {H Hn : Hp} {s : Shared} {D : Addr} {y z : V} {u r : Value}
    {E : Value → Shared → Prop} {Q : Unit → Shared → Prop} (hu : X.A.units < cLine) (I : Inv X ps σ H s)
    (g : DPut H D y z Hn) (ry : L2.RelV y u) (rz : L2.RelV z r) (h : ∀ s', Inv X ps σ Hn s' → Q () s') :
    wpAny (model X.prog X.w) X.A (dictSet D u r) Q E s := by
  rcases g with ⟨kvs, k, e, rfl, l, rfl⟩ | ⟨kvs, k, b, e, rfl, eb, l, rfl⟩
  · exact d_dictSet I e l ry rz h
  · obtain rfl : u = Value.ref b := ry
    obtain ⟨z1, nd, xs, rel, dd⟩ := dt_of I.hok e
    have l1 := length_putK kvs k z
    refine wpAny_dictSet_heap (hsz := by rw [← Paired.length rel]; exact z1) hu (key_of I.hok eb) dd
      fun h1 d1 sb => h _ ?_
    obtain ⟨q, es, ep, hq, a1, a2, a3, _, a4⟩ := d1
    refine d_write I (by rw [e]; trivial) sb ⟨q, hq⟩ ⟨by omega, nd, _, (rel.put k eb rz).keeps ?_, q, es, ep, hq, a1, a2, a3, a4⟩
    intro c ys ec
    exact (upd_ne (ne_of ec e (by intro z; cases z))).trans ec
end
/-- what one item does: the target, the tests, then key, value and the entry -/
def dqStep (g : TG) (tt : TT) (tk tv : TE) (vs : List Nat) (D : Addr) (Nx : Hp → Prop) (σ : L2.St) (x : V) (H : Hp) : Prop :=
  g x (wipe σ vs) H fun σa Ha => wipe σa vs = wipe σ vs ∧ tt σa Ha fun b Hb =>
    if b = true then tk σa Hb fun y Hc => tv σa Hc fun z Hd => ∃ Hn, DPut Hd D y z Hn ∧ Nx Hn
    else Nx Hb
/-- the walk of such a comprehension by a measure -/
def dqWalk (J : It) (step : (Hp → Prop) → V → Hp → Prop) (Qs : Hp → Prop) (W : Nat → Nat → Hp → Prop) : Prop :=
  ∀ i m H, W i m H → (J.stop i H ∧ Qs H) ∨
    (J.go i H ∧ ∃ Nx : Hp → Prop, (∀ Ha, Nx Ha → ∃ k, k < m ∧ W (i + 1) k Ha) ∧ ∀ x Ha, J.yld i H x Ha → step Nx x Ha)
theorem dq_loop {Y : Cx} {σ : L2.St} {vs : List Nat} {R : Result → Shared → Prop} {J : It} {fp : List Addr} {it D : Addr}
    {tn : Nat → Heap → Prop} {kx vx tg iter : Expr} {ifs : List Expr} {scope : Scope} {pos : Pos} {g : TG} {tt : TT} {tk tv : TE}
    {W : Nat → Nat → Hp → Prop} {Qs : Hp → Prop} (hc : Y.calm = true) (hx : Y.xe = fun _ _ => False) (hu : Y.A.units < cLine)
    (T : Turn Y.prog Y.w Y.K tg J fp it tn) (pg : PG Y tg g) (pt : PTs Y ifs tt) (pk : PE Y kx tk) (pv : PE Y vx tv)
    (own : ∀ {σ' : L2.St} {H' : Hp} {s' : Shared}, Inv Y [] σ' H' s' → (∀ b ∈ fp, H' b = none) → ∀ b ∈ fp, FpOk Y [] H' b)
    (walk : dqWalk J (fun Nx x H => dqStep g tt tk tv vs D Nx σ x H) Qs W)
    (last : ∀ H s, Inv Y [] (wipe σ vs) H s → Qs H → R (.ok .next) s)
    {m : Nat} {H : Hp} {s : Shared} (I : Inv Y [] (wipe σ vs) H s) (st : tn 0 s.heap) (nf : ∀ b ∈ fp, H b = none) (w : W 0 m H) :
    codeAny (model Y.prog Y.w) Y.A
      (.compLoop (.DictComp kx vx [⟨tg, iter, ifs, 0⟩] scope pos) 0 (.ref it) (.ref D) Y.env) R s := by
  refine compLoop_anyD (fun k s1 => ∃ i H1, Inv Y [] (wipe σ vs) H1 s1 ∧ tn i s1.heap ∧ (∀ b ∈ fp, H1 b = none) ∧ W i k H1)
    (fun k s1 hk => ?_) m ⟨0, H, I, st, nf, w⟩
  obtain ⟨i, H1, I1, st1, nf1, w1⟩ := hk
  cases walk i k H1 w1 with
  | inl e =>
    refine thnF (T.done Y rfl rfl rfl hc i [] s1 _ H1 (fun _ _ => False) I1 (own I1 nf1) st1 e.1) ?_
    rintro _ s2 ⟨rfl, I2⟩
    exact last H1 s2 I2 e.2
  | inr e =>
    obtain ⟨go, Nx, less, step⟩ := e
    refine thnF (T.item Y rfl rfl rfl hc i [] s1 _ H1 (fun _ _ => False) I1 (own I1 nf1) st1 go) ?_
    rintro _ s2 ⟨u, rfl, it2⟩
    refine thnF it2 ?_
    rintro _ s3 ⟨x, H3, I3, rx, yx, st3, nf3⟩
    have pin := I3.pinned (own I3 nf3) (T.obj _ _ st3)
    have t1 := pg.run _ s3 _ H3 x u _ pin rx (step x H3 yx)
    rw [hx] at t1
    refine thnF t1 ?_
    rintro _ s4 ⟨σ4, H4, I4, ew, q4⟩
    have back : ∀ {s9 : Shared} {H9 : Hp}, Inv Y ([] ++ pinsAt fp s3.heap) σ4 H9 s9 → Nx H9 →
        ∃ j, j < k ∧ ∃ i' H', Inv Y [] (wipe σ vs) H' s9 ∧ tn i' s9.heap ∧ (∀ b ∈ fp, H' b = none) ∧ W i' j H' := by
      intro s9 H9 I9 nx
      obtain ⟨j, lt, wj⟩ := less H9 nx
      have same : ∀ b ∈ fp, ∀ o, s3.heap.get? b = some o → s9.heap.get? b = some o ∧ H9 b = none := by
        intro b hb o eo
        have a := I9.pin (b, o) (List.mem_append_right _ (List.mem_append_right _ (mem_pinsAt hb eo)))
        exact ⟨a.1, a.2.1⟩
      refine ⟨j, lt, i + 1, H9, ?_, T.keep _ _ _ st3 fun b hb o eo => (same b hb o eo).1, ?_, wj⟩
      · refine (I9.unpinned (pins := [])).weak (by rw [← ew, wipe_length]) ?_
        intro n v en
        rw [← ew] at en
        exact (wipe_some en).1
      · intro b hb
        obtain ⟨o, eo, _⟩ := T.obj _ _ st3 b hb
        exact (same b hb o eo).2
    have t2 := pt.run _ s4 σ4 H4 _ I4 q4
    rw [hx] at t2
    refine thnF t2 ?_
    rintro b s5 ⟨H5, I5, q5⟩
    cases b with
    | false => exact back I5 q5
    | true =>
      have t3 := pk.run _ s5 σ4 H5 _ I5 q5
      rw [hx] at t3
      refine thnF t3 ?_
      rintro ky s6 ⟨y, H6, I6, ry, q6⟩
      have t4 := pv.run _ s6 σ4 H6 _ I6 q6
      rw [hx] at t4
      refine thnF t4 ?_
      rintro vy s7 ⟨z, H7, I7, rz, Hn, put, nx⟩
      exact put_dp hu I7 put ry rz fun s8 I8 => back I8 nx
/-- {k: v for .. in .. if ..}, keys tuples -/
def tDq (wi : TI) (g : TG) (tt : TT) (tk tv : TE) (vs : List Nat) : TE := fun σ H Q => wi σ H fun J H1 => ∀ D, H1 D = none →
  ∃ W : Nat → Nat → Hp → Prop, (∃ m, W 0 m (upd H1 D (.dT []))) ∧
    dqWalk J (fun Nx x Ha => dqStep g tt tk tv vs D Nx σ x Ha) (fun Ha => Q (.ref D) Ha) W
/-- the context of the block -/
abbrev Bq (X : Cx) (scope : Scope) (s : Shared) (H : Hp) (C : Addr) (cl : List (Str × Addr)) (fp : List Addr) : Cx :=
  X.blk s H scope (compEnvC scope cl C X.env) fp
theorem pe_dq {X : Cx} {kx vx tg iter : Expr} {ifs : List Expr} {scope : Scope} {own : List (Str × Nat)} {pos : Pos}
    {wi : TI} {g : TG} {tt : TT} {tk tv : TE} (hc : X.calm = true) (hu : X.A.units + 1 < cLine) (hN : X.N.Nodup)
    (hi : PI X tg iter wi) (ok : BlkOk X.N X.env.scope scope own) (hg : ∀ s H C cl fp, PG (Bq X scope s H C cl fp) tg g)
    (ht : ∀ s H C cl fp, PTs (Bq X scope s H C cl fp) ifs tt) (hk : ∀ s H C cl fp, PE (Bq X scope s H C cl fp) kx tk)
    (he : ∀ s H C cl fp, PE (Bq X scope s H C cl fp) vx tv) (hs : ∀ x, foldedSetIterable iter X.env x = pure x := by intro _; rfl) :
    PE X (.DictComp kx vx [⟨tg, iter, ifs, 0⟩] scope pos) (tDq wi g tt tk tv (own.map (·.2))) := by
  constructor
  intro ps s σ H Q I h
  rw [arm_eval_DictComp]
  have look : ∀ y ∈ scope.names, y.2 = .free → ∃ c, X.env.cells.lookup y.1 = some c := by
    intro y hy e
    exact I.ok.has _ (ok.free y hy e)
  refine wpAny_comprehension_free (use := none) rfl hs (closure_ok look) ok.kind (fun y hy e => (ok.uniq y hy).trans (by rw [e])) ?_
  refine thn (hi.run ps s σ H _ I h) ?_
  intro xv s1 h1
  refine thn h1 ?_
  rintro _ s2 ⟨it, fp, tn, J, H2, rfl, I2, T, st2, f2, q⟩
  refine wpAny_newObj_type ?_
  refine newEnv_comp ?_
  obtain ⟨D, hD⟩ : ∃ D, D = s2.heap.objs.size := ⟨_, rfl⟩
  rw [← hD]
  obtain ⟨W, ⟨m0, w0⟩, walk⟩ := q D (I2.hok.fresh (Nat.le_of_eq hD.symm))
  obtain ⟨s3, e3⟩ : ∃ s3 : Shared, s3 = { s2 with heap := s2.heap.push { cls := .type "dict", data := .dict #[] } } := ⟨_, rfl⟩
  have g3 : ∀ b o, s2.heap.get? b = some o → s3.heap.get? b = some o := by
    intro b o e
    rw [e3]
    exact Heap.get?_push_of_some _ (by exact e)
  have I3 : Inv X ps σ (upd H2 D (.dT [])) s3 := by
    rw [e3, hD]
    exact I2.laid (t' := s2.toks) (fun b o e => Heap.get?_push_of_some _ e) (Nat.le_refl _) (dt_empty s2.heap I2.big)
  rw [← e3]
  obtain ⟨H3, eH3⟩ : ∃ H3, H3 = upd H2 D (.dT []) := ⟨_, rfl⟩
  rw [← eH3] at I3 w0
  have f3 : ∀ b ∈ fp, FpOk X ps H3 b ∧ b < s3.heap.objs.size := by
    intro b hb
    obtain ⟨o, e, _⟩ := T.obj 0 _ st2 b hb
    refine ⟨⟨?_, (f2 b hb).2⟩, Heap.lt_size (g3 b o e)⟩
    rw [eH3, upd_ne (by rw [hD]; exact Nat.ne_of_lt (Heap.lt_size e))]
    exact (f2 b hb).1
  have st3 : tn 0 s3.heap := T.keep _ _ _ st2 fun b _ o e => g3 b o e
  have Ib := block_start I3 ok hN f3
  obtain ⟨C, hC⟩ : ∃ C, C = s3.heap.objs.size := ⟨_, rfl⟩
  rw [← hC] at Ib ⊢
  obtain ⟨cl, ecl⟩ : ∃ cl, cl = cellsFrom (C + 1) scope.names (cloFrom X.env.cells scope.names []) := ⟨_, rfl⟩
  rw [← ecl] at Ib ⊢
  have st4 : tn 0 (pushCells (s3.heap.push { cls := .type "dict", data := .dict #[] }) scope.names) := T.keep _ _ _ st3 fun b _ o e =>
    pushCells_keeps _ _ _ _ (Heap.get?_push_of_some _ e)
  have loop : codeAny (model X.prog X.w) X.A
      (.compLoop (.DictComp kx vx [⟨tg, iter, ifs, 0⟩] scope pos) 0 (.ref it) (.ref D) (compEnvC scope cl C X.env))
      (compPost (model X.prog X.w) X.A X.xe none (EP X ps σ Q) (.ref D) C)
      { s3 with heap := pushCells (s3.heap.push { cls := .type "dict", data := .dict #[] }) scope.names } := by
    refine dq_loop (Y := Bq X scope s3 H3 C cl fp) (σ := σ) hc rfl (Nat.lt_of_succ_lt hu) T (hg s3 H3 C cl fp)
      (ht s3 H3 C cl fp) (hk s3 H3 C cl fp) (he s3 H3 C cl fp) ?_ walk ?_ Ib st4 (fun b hb => (f3 b hb).1.1) w0
    · intro σ' H' s' I' nf b hb
      refine ⟨nf b hb, (I'.ok.exf b hb).1, I'.ok.exfs b hb, .inl hb, fun x c e => (I'.ok.exf b hb).2 x c e, ?_⟩
      intro p hp
      exact absurd (show p ∈ ([] : List (Addr × Obj)) ++ [] from hp) (by simp)
    · intro H6 s6 I6 q6
      have I7 : Inv X ps σ H6 s6 := by
        refine I3.call' (ch := fp) I6.os I6.base I6.hok I6.bare ?_
        intro b hb
        obtain ⟨_, n1, _, n2, n3, n4⟩ := (f3 b hb).1
        exact ⟨n2, n1, n3, n4⟩
      obtain ⟨m, hn, _⟩ := I6.loc
      refine ⟨m, hn, fun h' sb => ?_⟩
      obtain ⟨n0, n1, n2, n3, n4, n5⟩ := I3.fpOk (b := C) (Nat.le_of_eq hC.symm) (show H6 C = none from I6.free)
      refine ⟨.ref D, H6, ?_, rfl, q6⟩
      exact I7.turned (t' := s6.toks) (fun b o hb e => (sb.2 b hb).trans e) n0 n1 n3 n4 n5
  exact codeAny_compStart_dict loop (T.self _ 0 _ _ _ st4 loop)
end Wk

set_option Elab.async false
set_option linter.all false
set_option maxRecDepth 100000
set_option maxHeartbeats 2000000
namespace Wk
open L2 PySem PySem.Spec PyProof.Rows Evl
/-- the items that a comprehension has put, item j of the source by Y j -/
def Grown (Y : Nat → V → Hp → Prop) (H : Hp) : List Nat → List V → Prop
  | [], us => us = []
  | j :: js, us => ∃ u r, us = u :: r ∧ Y j u H ∧ Grown Y H js r
def UpY (Y : Nat → V → Hp → Prop) : Prop := ∀ i u H H', Ex H H' → Y i u H → Y i u H'
theorem Grown.up {Y : Nat → V → Hp → Prop} (hY : UpY Y) {H H' : Hp} (e : Ex H H') : ∀ {js : List Nat} {us : List V}, Grown Y H js us → Grown Y H' js us
  | [], _, h => h
  | j :: js, _, ⟨u, r, h1, h2, h3⟩ => ⟨u, r, h1, hY j u H H' e h2, Grown.up hY e h3⟩
theorem Grown.snoc {Y : Nat → V → Hp → Prop} {H : Hp} {j : Nat} {u : V} (h : Y j u H) : ∀ {js : List Nat} {us : List V}, Grown Y H js us → Grown Y H (js ++ [j]) (us ++ [u])
  | [], _, h0 => by
    rw [show _ = [] from h0]
    exact ⟨u, [], rfl, h, rfl⟩
  | k :: js, _, ⟨v, r, h1, h2, h3⟩ => by
    subst h1
    exact ⟨v, r ++ [u], rfl, h2, Grown.snoc h h3⟩
theorem Grown.len {Y : Nat → V → Hp → Prop} {H : Hp} : ∀ {js : List Nat} {us : List V}, Grown Y H js us → us.length = js.length
  | [], _, h0 => by
    rw [show _ = [] from h0]
    rfl
  | k :: js, _, ⟨v, r, h1, h2, h3⟩ => by
    subst h1
    simp [Grown.len h3]
def upTo (f : Nat → Bool) (i : Nat) : List Nat := (List.range i).filter f
theorem upTo_yes {f : Nat → Bool} {i : Nat} (h : f i = true) : upTo f (i + 1) = upTo f i ++ [i] := by
  unfold upTo
  rw [List.range_succ, List.filter_append]
  simp [h]
theorem upTo_no {f : Nat → Bool} {i : Nat} (h : f i = false) : upTo f (i + 1) = upTo f i := by
  unfold upTo
  rw [List.range_succ, List.filter_append]
  simp [h]
theorem upTo_len (f : Nat → Bool) (i : Nat) : (upTo f i).length ≤ i := by
  unfold upTo
  have h := List.length_filter_le f (List.range i)
  rw [List.length_range] at h
  exact h
/-- what is evaluated is told by Y, the heap may grow -/
def EvY (te : TE) (σ : L2.St) (H : Hp) (Y : V → Hp → Prop) : Prop := ∀ H1, Ex H H1 → ∀ Q : VK, (∀ u H2, Ex H1 H2 → Y u H2 → Q u H2) → te σ H1 Q
def off (D : Addr) (H : Hp) : Hp := fun a => if a = D then none else H a
theorem off_ex {D : Addr} {H H' : Hp} (e : Ex H H') : Ex (off D H) (off D H') := fun a o h => by
  unfold off at h ⊢
  by_cases z : a = D
  · rw [if_pos z] at h
    cases h
  · rw [if_neg z] at h ⊢
    exact e a o h
theorem off_in (D : Addr) (H : Hp) : Ex (off D H) H := fun a o h => by
  unfold off at h
  split at h
  · cases h
  · exact h
theorem off_upd {D : Addr} {H : Hp} {o : HO} : off D (upd H D o) = off D H := by
  funext a
  unfold off upd
  split <;> rfl
theorem off_at {D a : Addr} {H : Hp} (h : a ≠ D) : off D H a = H a := by
  unfold off
  rw [if_neg h]
/-- a word of an item that outlives new objects and does not speak of lists -/
structure GoodY (Y : Nat → V → Hp → Prop) : Prop where
  up : UpY Y
  off : ∀ i u H D l, H D = some (.lst l) → Y i u H → Y i u (Wk.off D H)
def Gw (Y : Nat → V → Hp → Prop) (H : Hp) (f : Nat → Bool) (D : Addr) (i : Nat) (H' : Hp) : Prop :=
  H D = none ∧ Ex H H' ∧ ∃ us, H' D = some (.lst us) ∧ Grown Y (off D H') (upTo f i) us
theorem gw_turn {Y : Nat → V → Hp → Prop} (hY : GoodY Y) {H H' : Hp} {f : Nat → Bool} {D : Addr} {i : Nat} {t : TT} {te : TE} {σ2 : L2.St} (p : Gw Y H f D i H') (hi : i < 50000)
    (ht : EvT t σ2 H' (f i)) (he : f i = true → EvY te σ2 H' (Y i)) :
    t σ2 H' fun b H3 => if b = true then te σ2 H3 fun y H4 => ∃ acc, H4 D = some (.lst acc) ∧ acc.length < sizeLine ∧ Gw Y H f D (i + 1) (upd H4 D (.lst (acc ++ [y])))
      else Gw Y H f D (i + 1) H3 := by
  obtain ⟨p1, p2, us, p3, p4⟩ := p
  refine ht H' (Ex.refl _) _ fun H3 e3 => ?_
  cases hf : f i with
  | false =>
    refine ⟨p1, p2.trans e3, us, e3 _ _ p3, ?_⟩
    rw [upTo_no hf]
    exact p4.up hY.up (off_ex e3)
  | true =>
    refine he hf H3 e3 _ fun u H4 e4 y => ?_
    have d4 := e4 _ _ (e3 _ _ p3)
    have l1 := p4.len
    have l2 := upTo_len f i
    refine ⟨us, d4, sz_lt (by omega), p1, Ex.mut ((p2.trans e3).trans e4) p1, us ++ [u], upd_same, ?_⟩
    rw [upTo_yes hf, off_upd]
    exact Grown.snoc (hY.off i u H4 D us d4 y) (p4.up hY.up (off_ex (e3.trans e4)))
/-- a list comprehension whose items may be new objects -/
theorem grow_lc {J : It} {n : Nat} {Gd : Hp → Prop} {Yx : Nat → V → Prop} {Y : Nat → V → Hp → Prop} {j : Nat} {vs : List Nat} {σ : L2.St} {H : Hp} {D : Addr} {Qd : Hp → Prop} {t : TT} {te : TE}
    (w : Walk J n Gd (fun i H x H' => H' = H ∧ Yx i x)) (hY : GoodY Y) (f : Nat → Bool) (hD : H D = none) (hn : n ≤ 40000) (hG : ∀ H', Ex H H' → Gd H') (hw : ∀ x, wipe ((wipe σ vs).set j (some x)) vs = wipe σ vs)
    (ht : ∀ i x H', Ex H H' → i < n → Yx i x → EvT t ((wipe σ vs).set j (some x)) H' (f i)) (he : ∀ i x H', Ex H H' → i < n → Yx i x → f i = true → EvY te ((wipe σ vs).set j (some x)) H' (Y i))
    (hq : ∀ us H', Ex H H' → H' D = some (.lst us) → Grown Y H' (upTo f n) us → Qd H') :
    ∃ W : Nat → Nat → Hp → Prop, (∃ m, W 0 m (upd H D (.lst []))) ∧ ∀ i m H, W i m H →
      (J.stop i H ∧ Qd H) ∨ (J.go i H ∧ ∃ Nx : Hp → Prop, (∀ H', Nx H' → ∃ m', m' < m ∧ W (i + 1) m' H') ∧ ∀ x H', J.yld i H x H' → gName j x (wipe σ vs) H' fun σ2 H2 => wipe σ2 vs = wipe σ vs ∧ t σ2 H2 fun b H3 =>
        if b = true then te σ2 H3 fun y H4 => ∃ acc, H4 D = some (.lst acc) ∧ acc.length < sizeLine ∧ Nx (upd H4 D (.lst (acc ++ [y]))) else Nx H3) := by
  refine lc_it w (Gw Y H f D) ⟨hD, Ex.new hD, [], upd_same, rfl⟩ (fun i H' _ p => hG H' p.2.1) (fun i x H' H2 hi p y => ?_) (fun H' p => ?_)
  · obtain ⟨rfl, yx⟩ := y
    exact ⟨hw x, gw_turn hY p (by omega) (ht i x _ p.2.1 hi yx) (fun hf => he i x _ p.2.1 hi yx hf)⟩
  · obtain ⟨_, e, us, d, g⟩ := p
    exact hq us H' e d (g.up hY.up (off_in D H'))
/-- the keys of a dict are the first i of k, each with True -/
def KHas (k : Nat → List L2.Key) (i : Nat) (kvs : List (List L2.Key × V)) : Prop :=
  ∀ q, (valV kvs q = some (V.bl true) ∧ ∃ j, j < i ∧ k j = q) ∨ (valV kvs q = none ∧ ∀ j, j < i → k j ≠ q)
/-- the keys that a comprehension has put -/
def Kw (k : Nat → List L2.Key) (H : Hp) (D : Addr) (i : Nat) (H' : Hp) : Prop :=
  H D = none ∧ Ex H H' ∧ ∃ kvs, H' D = some (.dT kvs) ∧ kvs.length ≤ i ∧ KHas k i kvs
/-- {x: True for x in ..}, of tuples of whole numbers or texts -/
theorem grow_dq {J : It} {n : Nat} {Gd : Hp → Prop} {Yx : Nat → V → Prop} {k : Nat → List L2.Key} {j : Nat} {vs : List Nat} {σ : L2.St} {H : Hp} {D : Addr} {Qd : Hp → Prop} {tk tv : TE}
    (w : Walk J n Gd (fun i H x H' => H' = H ∧ Yx i x)) (hD : H D = none) (hn : n ≤ 40000) (hG : ∀ H', Ex H H' → Gd H') (hw : ∀ x, wipe ((wipe σ vs).set j (some x)) vs = wipe σ vs)
    (hk : ∀ i x H', Ex H H' → i < n → Yx i x → EvY tk ((wipe σ vs).set j (some x)) H' (fun u H2 => ∃ b, u = .ref b ∧ H2 b = some (.tup ((k i).map kV))))
    (hv : ∀ i x H', Ex H H' → i < n → Yx i x → Ev tv ((wipe σ vs).set j (some x)) H' (.bl true))
    (hq : ∀ kvs H', Ex H H' → H' D = some (.dT kvs) → KHas k n kvs → Qd H') :
    ∃ W : Nat → Nat → Hp → Prop, (∃ m, W 0 m (upd H D (.dT []))) ∧ dqWalk J (fun Nx x Ha => dqStep (gName j) tYes tk tv vs D Nx σ x Ha) Qd W := by
  refine ⟨fun i m H' => m = n - i ∧ i ≤ n ∧ Kw k H D i H', ⟨n, by simp, Nat.zero_le _, hD, Ex.new hD, [], upd_same, Nat.le_refl _, fun q => .inr ⟨rfl, fun j hj => absurd hj (Nat.not_lt_zero _)⟩⟩, ?_⟩
  rintro i m H1 ⟨rfl, hi, p1, p2, kvs, p3, p4, p5⟩
  by_cases lt : i < n
  · refine .inr ⟨w.goes i H1 lt (hG H1 p2), Kw k H D (i + 1), fun Ha q => ⟨n - (i + 1), by omega, rfl, lt, q⟩, fun x Ha y => ?_⟩
    obtain ⟨rfl, yx⟩ := w.yields i H1 x Ha lt (hG H1 p2) y
    refine ⟨hw x, ?_⟩
    show tk _ _ _
    refine hk i x _ p2 lt yx _ (Ex.refl _) _ fun u H2 e2 hu => ?_
    obtain ⟨b, rfl, hb⟩ := hu
    refine hv i x _ p2 lt yx H2 e2 _ fun H3 e3 => ?_
    have d3 := e3 _ _ (e2 _ _ p3)
    refine ⟨_, DPut.t d3 (e3 _ _ hb) (sz_lt (by omega)), p1, Ex.mut ((p2.trans e2).trans e3) p1, _, upd_same, ?_, fun q => ?_⟩
    · have := length_putK kvs (k i) (V.bl true)
      omega
    · rw [valV_put]
      by_cases e : q = k i
      · rw [if_pos e]
        exact .inl ⟨rfl, i, Nat.lt_succ_self i, e.symm⟩
      · rw [if_neg e]
        rcases p5 q with ⟨z, j', h1, h2⟩ | ⟨z, h2⟩
        · exact .inl ⟨z, j', by omega, h2⟩
        · refine .inr ⟨z, fun j' hj => ?_⟩
          rcases Nat.lt_succ_iff_lt_or_eq.mp hj with h3 | h3
          · exact h2 j' h3
          · subst h3
            exact fun z2 => e z2.symm
  · have e : i = n := by omega
    subst e
    exact .inl ⟨w.stops H1 (hG H1 p2), hq kvs H1 p2 p3 p5⟩
end Wk

set_option Elab.async false
set_option linter.all false
set_option maxRecDepth 100000
set_option maxHeartbeats 2000000
namespace Wk
open PySem PySem.Spec PyProof.Rows L2 Evl
theorem lay_ints : ∀ ns : List Int, PyData.canLayAll0 (ns.map PyData.int) = true
  | [] => by simp [PyData.canLayAll0]
  | n :: ns => by
    have h := lay_ints ns
    simp [PyData.canLayAll0, PyData.canLay0, h]
theorem depth_ints : ∀ ns : List Int, PyData.depthAll (ns.map PyData.int) = 0
  | [] => by simp [PyData.depthAll]
  | n :: ns => by
    have h := depth_ints ns
    simp [PyData.depthAll, PyData.depth, h]
theorem shaped_ints (ns : List Int) : SeqAt.shaped (.tuple (ns.map PyData.int)) = true := by
  unfold SeqAt.shaped
  have h1 := lay_ints ns
  have h2 := depth_ints ns
  simp [PyData.canLay0, PyData.depth, h1, h2]
theorem layAll : ∀ {ds : List PyData}, PyData.canLayAll0 ds = true ↔ ∀ d ∈ ds, d.canLay0 = true
  | [] => by simp [PyData.canLayAll0]
  | d :: ds => by
    have ih := layAll (ds := ds)
    simp [PyData.canLayAll0, ih]
theorem depAll {k : Nat} : ∀ {ds : List PyData}, PyData.depthAll ds ≤ k ↔ ∀ d ∈ ds, d.depth ≤ k
  | [] => by simp [PyData.depthAll]
  | d :: ds => by
    have ih := depAll (k := k) (ds := ds)
    simp only [PyData.depthAll, List.mem_cons, forall_eq_or_imp, ← ih]
    omega
theorem nd_snoc {α : Type} {l : List α} {x : α} (h : l.Nodup) (hx : x ∉ l) : (l ++ [x]).Nodup := by
  unfold List.Nodup
  rw [List.pairwise_append]
  refine ⟨h, List.pairwise_singleton _ _, fun a ha b hb => ?_⟩
  rw [List.mem_singleton] at hb
  intro e
  rw [← hb, ← e] at hx
  exact hx ha
theorem eraseIdx_mp {α β : Type} (f : α → β) : ∀ (l : List α) (k : Nat), (l.map f).eraseIdx k = (l.eraseIdx k).map f
  | [], _ => rfl
  | _ :: _, 0 => rfl
  | x :: l, k + 1 => by
    show f x :: (l.map f).eraseIdx k = f x :: (l.eraseIdx k).map f
    rw [eraseIdx_mp f l k]
theorem eqv_ints : ∀ a b : List Int, PyData.eqvAll (a.map PyData.int) (b.map PyData.int) = decide (a = b)
  | [], [] => by simp [PyData.eqvAll]
  | [], _ :: _ => by simp [PyData.eqvAll]
  | _ :: _, [] => by simp [PyData.eqvAll]
  | x :: a, y :: b => by
    have ih := eqv_ints a b
    simp only [List.map_cons, PyData.eqvAll, PyData.eqv, ih]
    by_cases h : x = y
    · subst h; simp
    · have : (x == y) = false := by simpa using h
      simp [this, h]
theorem inV_ints (x : Int) : ∀ ns : List Int, inV (.int x) (ns.map V.int) = decide (x ∈ ns)
  | [] => rfl
  | n :: ns => by
    have ih := inV_ints x ns
    unfold inV at *
    rw [List.map_cons, List.any_cons, ih]
    show ((n == x) || _) = _
    by_cases h : n = x
    · subst h; simp
    · have : (n == x) = false := by simpa using h
      rw [this]
      simp [Ne.symm h]
abbrev Wy := List Int
def wd (w : Wy) : PyData := .tuple (w.map PyData.int)
theorem eqv_wd (a b : Wy) : PyData.eqv (wd a) (wd b) = decide (a = b) := eqv_ints a b
theorem wd_ref {G : Hp} {v : V} {w : Wy} (h : Dq G v (wd w)) : ∃ a, v = .ref a ∧ G a = some (.tup (w.map V.int)) := by
  unfold wd at h
  cases h with
  | tup h1 h2 => exact ⟨_, rfl, by rw [h1, h2.int_inv]⟩
theorem wd_of {G : Hp} {a : Addr} {w : Wy} (h : G a = some (.tup (w.map V.int))) : Dq G (.ref a) (wd w) := .tup h (DqA.ints w)
theorem lay_wds (ws : List Wy) : PyData.canLayAll0 (ws.map wd) = true := layAll.mpr fun d hd => by
  obtain ⟨w, _, rfl⟩ := List.mem_map.mp hd
  simp [wd, PyData.canLay0, lay_ints]
theorem dep_wds (ws : List Wy) : PyData.depthAll (ws.map wd) ≤ 1 := depAll.mpr fun d hd => by
  obtain ⟨w, _, rfl⟩ := List.mem_map.mp hd
  simp [wd, PyData.depth, depth_ints]
theorem shaped_wds (ws : List Wy) : SeqAt.shaped (.list (ws.map wd)) = true := by
  unfold SeqAt.shaped
  have h1 := lay_wds ws
  have h2 := dep_wds ws
  have : decide ((PyData.list (ws.map wd)).depth ≤ 64) = true := decide_eq_true (by simp only [PyData.depth]; omega)
  rw [this]
  simp [PyData.canLay0, h1]
theorem any_wd (ws : List Wy) (x : Wy) : ((ws.map wd).any fun z => PyData.eqv z (wd x)) = decide (x ∈ ws) := by
  induction ws with
  | nil => rfl
  | cons a l ih =>
    rw [List.map_cons, List.any_cons, ih, eqv_wd]
    by_cases h : a = x
    · subst h; simp
    · rw [decide_eq_false h, Bool.false_or, decide_eq_decide]
      constructor
      · exact fun z => List.mem_cons_of_mem _ z
      · intro z
        rcases List.mem_cons.mp z with e | e
        · exact absurd e.symm h
        · exact e
theorem DqA.wds_inv {G : Hp} {ws : List Wy} {vs : List V} {i : Nat} {v : V} (h : DqA G vs (ws.map wd)) (e : vs[i]? = some v) : ∃ w, ws[i]? = some w ∧ Dq G v (wd w) := by
  obtain ⟨d, e1, e2⟩ := h.get e
  rw [List.getElem?_map] at e1
  cases hw : ws[i]? with
  | none => rw [hw] at e1; cases e1
  | some w =>
    rw [hw] at e1
    cases e1
    exact ⟨w, rfl, e2⟩
theorem DqA.set {G : Hp} {v : V} {d : PyData} (hv : Dq G v d) : ∀ {ds : List PyData} {vs : List V} (i : Nat), DqA G vs ds → DqA G (vs.set i v) (ds.set i d)
  | [], _, i, .nil => by simp; exact .nil
  | _ :: _, _, 0, .cons h t => .cons hv t
  | _ :: _, _, i + 1, .cons h t => .cons h (DqA.set hv i t)
theorem DqA.erase {G : Hp} : ∀ {ds : List PyData} {vs : List V} (i : Nat), DqA G vs ds → DqA G (vs.eraseIdx i) (ds.eraseIdx i)
  | [], _, i, .nil => by simp; exact .nil
  | _ :: _, _, 0, .cons h t => t
  | _ :: _, _, i + 1, .cons h t => .cons h (DqA.erase i t)
theorem DqA.perm {G : Hp} {us ys : List V} (h : ys.Perm us) : ∀ {ds : List PyData}, DqA G us ds → ∃ es, es.Perm ds ∧ DqA G ys es := by
  induction h with
  | nil => exact fun h => ⟨_, .refl _, h⟩
  | cons x h ih =>
    intro ds hd
    cases hd with
    | cons hv t =>
      obtain ⟨es, h1, h2⟩ := ih t
      exact ⟨_, h1.cons _, .cons hv h2⟩
  | swap x y l =>
    intro ds hd
    cases hd with
    | cons hx t =>
      cases t with
      | cons hy t => exact ⟨_, .swap _ _ _, .cons hy (.cons hx t)⟩
  | trans h1 h2 ih1 ih2 =>
    intro ds hd
    obtain ⟨es, a, b⟩ := ih2 hd
    obtain ⟨es2, c, d⟩ := ih1 b
    exact ⟨es2, c.trans a, d⟩
def wi (d : PyData) : Wy := (itemsT d).map valI
theorem wi_wd (w : Wy) : wi (wd w) = w := by
  show (w.map PyData.int).map valI = w
  rw [List.map_map]
  exact List.map_id w
theorem perm_wds {es : List PyData} {ws : List Wy} (h : es.Perm (ws.map wd)) : ∃ ws' : List Wy, ws'.Perm ws ∧ es = ws'.map wd := by
  refine ⟨es.map wi, ?_, ?_⟩
  · have z := h.map wi
    rw [List.map_map, show (wi ∘ wd) = id from funext wi_wd, List.map_id] at z
    exact z
  · rw [List.map_map]
    refine ((List.map_congr_left fun d hd => ?_).trans (List.map_id es)).symm
    obtain ⟨w, _, rfl⟩ := List.mem_map.mp (h.mem_iff.mp hd)
    show wd (wi (wd w)) = _
    rw [wi_wd]
    rfl
def TupY (z : Nat → List V) : Nat → V → Hp → Prop := fun i u H => ∃ b, u = .ref b ∧ H b = some (.tup (z i))
theorem tupY_good (z : Nat → List V) : GoodY (TupY z) := by
  refine ⟨fun i u H H' e h => ?_, fun i u H D l hD h => ?_⟩
  · obtain ⟨b, h1, h2⟩ := h
    exact ⟨b, h1, e _ _ h2⟩
  · obtain ⟨b, h1, h2⟩ := h
    refine ⟨b, h1, (off_at ?_).trans h2⟩
    intro hb
    rw [hb, hD] at h2
    cases h2
theorem grown_ks {z : Nat → Wy} {H : Hp} : ∀ {js : List Nat} {us : List V}, Grown (TupY fun i => (z i).map V.int) H js us → ∃ ks : List (Addr × List Int), us = (ks.map fun p => V.ref p.1) ∧ ks.map (·.2) = js.map z ∧
    ∀ p ∈ ks, H p.1 = some (.tup (p.2.map V.int))
  | [], us, h => ⟨[], h, rfl, fun p hp => by cases hp⟩
  | j :: js, us, ⟨u, r, h1, ⟨b, h2, h3⟩, h4⟩ => by
    obtain ⟨ks, k1, k2, k3⟩ := grown_ks h4
    subst h1 h2
    refine ⟨(b, z j) :: ks, by rw [k1]; rfl, by rw [List.map_cons, k2]; rfl, ?_⟩
    intro p hp
    rcases List.mem_cons.mp hp with e | e
    · subst e
      exact h3
    · exact k3 p e
theorem ks_wds {H : Hp} : ∀ {ks : List (Addr × List Int)}, (∀ p ∈ ks, H p.1 = some (.tup (p.2.map V.int))) → DqA H (ks.map fun p => V.ref p.1) ((ks.map (·.2)).map wd)
  | [], _ => .nil
  | p :: ks, h => .cons (wd_of (h p List.mem_cons_self)) (ks_wds fun q hq => h q (List.mem_cons_of_mem _ hq))
theorem wds_ks {H : Hp} : ∀ {ws : List Wy} {us : List V}, DqA H us (ws.map wd) → ∃ ks : List (Addr × List Int), us = (ks.map fun p => V.ref p.1) ∧ ks.map (·.2) = ws ∧ ∀ p ∈ ks, H p.1 = some (.tup (p.2.map V.int))
  | [], us, h => by
    cases h
    exact ⟨[], rfl, rfl, fun p hp => by cases hp⟩
  | w :: ws, us, h => by
    cases h with
    | cons hv t =>
      obtain ⟨ks, k1, k2, k3⟩ := wds_ks t
      obtain ⟨a, rfl, ha⟩ := wd_ref hv
      refine ⟨(a, w) :: ks, by rw [k1]; rfl, by rw [List.map_cons, k2], fun p hp => ?_⟩
      rcases List.mem_cons.mp hp with e | e
      · subst e
        exact ha
      · exact k3 p e
/-! pairs of routers, ascending -/
theorem asc_eq : ∀ {l m : List Nat}, l.Pairwise (· < ·) → m.Pairwise (· < ·) → (∀ x, x ∈ l ↔ x ∈ m) → l = m
  | [], [], _, _, _ => rfl
  | [], b :: m, _, _, h => absurd ((h b).mpr List.mem_cons_self) (by simp)
  | a :: l, [], _, _, h => absurd ((h a).mp List.mem_cons_self) (by simp)
  | a :: l, b :: m, h1, h2, h => by
    obtain ⟨ha, hl⟩ := List.pairwise_cons.mp h1
    obtain ⟨hb, hm⟩ := List.pairwise_cons.mp h2
    have e : a = b := by
      rcases List.mem_cons.mp ((h a).mp List.mem_cons_self) with z | z
      · exact z
      · rcases List.mem_cons.mp ((h b).mpr List.mem_cons_self) with y | y
        · exact y.symm
        · have := ha b y
          have := hb a z
          omega
    subst e
    rw [asc_eq hl hm fun x => ?_]
    constructor
    · intro hx
      rcases List.mem_cons.mp ((h x).mp (List.mem_cons_of_mem _ hx)) with z | z
      · have := ha x hx
        omega
      · exact z
    · intro hx
      rcases List.mem_cons.mp ((h x).mpr (List.mem_cons_of_mem _ hx)) with z | z
      · have := hb x hx
        omega
      · exact z
def cdW (c : Nat) : Wy := [((c / 8 : Nat) : Int), ((c % 8 : Nat) : Int)]
def ascW (S : List Wy) : List Wy := ((List.range 64).filter fun c => decide (cdW c ∈ S)).map cdW
theorem cd_pair {u v : Nat} (hv : v < 8) : cdW (u * 8 + v) = [(u : Int), (v : Int)] := by
  unfold cdW
  rw [show (u * 8 + v) / 8 = u by omega, show (u * 8 + v) % 8 = v by omega]
def enW (w : Wy) : Nat := (w.getD 0 0).toNat * 8 + (w.getD 1 0).toNat
/-- a pair of unlike routers below n -/
def PrOk (n : Nat) (w : Wy) : Prop := ∃ u v : Nat, w = [(u : Int), (v : Int)] ∧ u < n ∧ v < n ∧ u ≠ v
theorem asc_unique {S M : List Wy} (hb : ∀ p ∈ S, ∃ u v : Nat, u < 8 ∧ v < 8 ∧ p = [(u : Int), (v : Int)]) (hm : ∀ p, p ∈ M ↔ p ∈ S) (nd : M.Nodup)
    (pw : M.Pairwise fun q r => TS.code 64 q ≤ TS.code 64 r) : M = ascW S := by
  have hM : ∀ p ∈ M, ∃ u v : Nat, u < 8 ∧ v < 8 ∧ p = [(u : Int), (v : Int)] := fun p hp => hb p ((hm p).mp hp)
  have e1 : (M.map enW).map cdW = M := by
    rw [List.map_map]
    refine (List.map_congr_left fun p hp => ?_).trans (List.map_id M)
    obtain ⟨u, v, hu, hv, rfl⟩ := hM p hp
    show cdW ((u : Int).toNat * 8 + (v : Int).toNat) = _
    rw [Int.toNat_natCast, Int.toNat_natCast, cd_pair hv]
    rfl
  have e2 : (M.map enW).Pairwise (· < ·) := by
    rw [List.pairwise_map]
    refine List.Pairwise.imp_of_mem (R := fun q r => TS.code 64 q ≤ TS.code 64 r ∧ q ≠ r) ?_ (pw.and nd)
    intro q r hq hr ⟨h, hne⟩
    obtain ⟨u, v, hu, hv, rfl⟩ := hM q hq
    obtain ⟨x, y, hx, hy, rfl⟩ := hM r hr
    have z := pair_lt h hne (by omega) (by omega) (by omega) (by omega)
    show (u : Int).toNat * 8 + (v : Int).toNat < (x : Int).toNat * 8 + (y : Int).toNat
    rw [Int.toNat_natCast, Int.toNat_natCast, Int.toNat_natCast, Int.toNat_natCast]
    omega
  have e3 : ((List.range 64).filter fun c => decide (cdW c ∈ S)).Pairwise (· < ·) := List.Pairwise.filter _ List.pairwise_lt_range
  have e4 : M.map enW = (List.range 64).filter fun c => decide (cdW c ∈ S) := by
    refine asc_eq e2 e3 fun c => ?_
    rw [List.mem_map, List.mem_filter, List.mem_range, decide_eq_true_eq]
    constructor
    · rintro ⟨p, hp, rfl⟩
      have hp2 := (hm p).mp hp
      obtain ⟨u, v, hu, hv, rfl⟩ := hM p hp
      have ee : enW [(u : Int), (v : Int)] = u * 8 + v := by
        show (u : Int).toNat * 8 + (v : Int).toNat = _
        rw [Int.toNat_natCast, Int.toNat_natCast]
      rw [ee]
      exact ⟨by omega, by rw [cd_pair hv]; exact hp2⟩
    · rintro ⟨hc, hp⟩
      refine ⟨cdW c, (hm _).mpr hp, ?_⟩
      show (((c / 8 : Nat) : Int)).toNat * 8 + (((c % 8 : Nat) : Int)).toNat = c
      rw [Int.toNat_natCast, Int.toNat_natCast]
      omega
  rw [← e1, e4]
  rfl
theorem asc_mem {S : List Wy} (hb : ∀ p ∈ S, ∃ u v : Nat, u < 8 ∧ v < 8 ∧ p = [(u : Int), (v : Int)]) (p : Wy) : p ∈ ascW S ↔ p ∈ S := by
  unfold ascW
  rw [List.mem_map]
  constructor
  · rintro ⟨c, hc, rfl⟩
    exact of_decide_eq_true (List.mem_filter.mp hc).2
  · intro hp
    obtain ⟨u, v, hu, hv, rfl⟩ := hb p hp
    exact ⟨u * 8 + v, List.mem_filter.mpr ⟨List.mem_range.mpr (by omega), decide_eq_true (by rw [cd_pair hv]; exact hp)⟩, cd_pair hv⟩
theorem asc_len (S : List Wy) : (ascW S).length ≤ 64 := by
  unfold ascW
  rw [List.length_map]
  have h := List.length_filter_le (fun c => decide (cdW c ∈ S)) (List.range 64)
  rw [List.length_range] at h
  exact h
def swW (w : Wy) : Wy := [w.getD 1 0, w.getD 0 0]
def joinW (prs : List Wy) : List Wy := ascW (prs ++ prs.map swW)
theorem PrOk.sw {n : Nat} {w : Wy} (h : PrOk n w) : PrOk n (swW w) := by
  obtain ⟨u, v, rfl, h1, h2, h3⟩ := h
  exact ⟨v, u, rfl, h2, h1, Ne.symm h3⟩
theorem both_ok {n : Nat} {prs : List Wy} (h : ∀ p ∈ prs, PrOk n p) : ∀ p ∈ prs ++ prs.map swW, PrOk n p := fun p hp => by
  rcases List.mem_append.mp hp with z | z
  · exact h p z
  · obtain ⟨q, hq, rfl⟩ := List.mem_map.mp z
    exact (h q hq).sw
theorem PrOk.bd {n : Nat} (hn : n ≤ 8) {S : List Wy} (h : ∀ p ∈ S, PrOk n p) : ∀ p ∈ S, ∃ u v : Nat, u < 8 ∧ v < 8 ∧ p = [(u : Int), (v : Int)] := fun p hp => by
  obtain ⟨u, v, e, h1, h2, _⟩ := h p hp
  exact ⟨u, v, by omega, by omega, e⟩
theorem join_ok {n : Nat} (hn : n ≤ 8) {prs : List Wy} (h : ∀ p ∈ prs, PrOk n p) : ∀ p ∈ joinW prs, PrOk n p := fun p hp => both_ok h p ((asc_mem (PrOk.bd hn (both_ok h)) p).mp hp)

theorem perm_erase {α : Type} : ∀ {l : List α} {m : Nat} (h : m < l.length), l.Perm (l[m] :: l.eraseIdx m)
  | [], _, h => absurd h (Nat.not_lt_zero _)
  | x :: l, 0, _ => .refl _
  | x :: l, m + 1, h => ((perm_erase (l := l) (m := m) (Nat.lt_of_succ_lt_succ h)).cons x).trans (.swap _ _ _)
end Wk

set_option Elab.async false
set_option linter.all false
set_option maxRecDepth 100000
set_option maxHeartbeats 2000000
namespace Wk
open PySem PySem.Spec PyProof.Rows L2 Evl
/-! what stays grows by new things only -/
structure Gr (p q : Addr) (G H G' H' : Hp) : Prop where
  ex : Ex G G'
  nw : ∀ b, G b = none → H b ≠ none → G' b = none
  off : Of1 p H H'
  pl : Pm G' H' p q
theorem Gr.refl {p q : Addr} {G H : Hp} (h : Pm G H p q) : Gr p q G H G H := ⟨Ex.refl _, fun _ h _ => h, Of1.refl _ _, h⟩
theorem Gr.trans {p q : Addr} {G H G1 H1 G2 H2 : Hp} (a : Gr p q G H G1 H1) (b : Gr p q G1 H1 G2 H2) : Gr p q G H G2 H2 := by
  refine ⟨a.ex.trans b.ex, fun c hc hh => ?_, a.off.trans b.off, b.pl⟩
  by_cases cp : c = p
  · rw [cp]; exact b.pl.gp
  refine b.nw c (a.nw c hc hh) ?_
  cases hx : H c with
  | none => exact absurd hx hh
  | some o => rw [a.off c o cp hx]; simp
theorem Gr.new {p q t : Addr} {G H : Hp} {o : HO} (h : Pm G H p q) (ht : H t = none) : Gr p q G H (upd G t o) (upd H t o) := by
  refine ⟨Ex.new (fresh_back h.ex ht), fun b hb hh => ?_, Of1.ex (Ex.new ht), h.new ht⟩
  have nb : b ≠ t := fun z => hh (by rw [z]; exact ht)
  rw [upd_ne nb]
  exact hb
theorem Gr.ext {p q : Addr} {G H H' : Hp} (h : Pm G H p q) (e : Ex H H') : Gr p q G H G H' := ⟨Ex.refl _, fun _ h _ => h, Of1.ex e, h.ext e⟩
theorem Gr.draw {p q : Addr} {G H H' : Hp} (h : Pm G H p q) (h' : Pm (Hd1 H p) H' p q) : Gr p q G H G H' := ⟨Ex.refl _, fun _ h _ => h, h'.off, h.back h'⟩
/-! displays -/
def EvDt (p q : Addr) (te : TE) (σ : L2.St) (d : PyData) : Prop := ∀ G H, Pm G H p q → ∀ Q : VK, (∀ G' H' v, Gr p q G H G' H' → Dq G' v d → Q v H') → te σ H Q
def EvDA (p q : Addr) (ta : TA) (σ : L2.St) (ds : List PyData) : Prop := ∀ G H, Pm G H p q → ∀ Q : List V → Hp → Prop, (∀ G' H' vs, Gr p q G H G' H' → DqA G' vs ds → Q vs H') → ta σ H Q
section
variable {p q : Addr} {σ : L2.St} {te tb : TE} {ta : TA} {d : PyData} {ds es : List PyData}
theorem ed_c {v : V} (h : ∀ G, Dq G v d) : EvDt p q (tC v) σ d := fun G H hP Q k => k G H v (Gr.refl hP) (h G)
theorem ed_int {i : Nat} {x : Int} (h : σ[i]? = some (some (.int x))) : EvDt p q (tVar i) σ (.int x) := fun G H hP Q k => ⟨.int x, h, k G H _ (Gr.refl hP) (.int x)⟩
theorem ed_nil : EvDA p q tNil σ [] := fun G H hP Q k => k G H [] (Gr.refl hP) .nil
theorem ed_cons (h : EvDt p q te σ d) (hr : EvDA p q ta σ ds) : EvDA p q (tCons te ta) σ (d :: ds) := fun G H hP Q k =>
  h G H hP _ fun G1 H1 v g1 hv => hr G1 H1 g1.pl _ fun G2 H2 vs g2 hvs => k G2 H2 (v :: vs) (g1.trans g2) (.cons (hv.mono g2.ex) hvs)
theorem ed_tup (h : EvDA p q ta σ ds) (hl : ds.length ≤ 1000) : EvDt p q (tTup ta) σ (.tuple ds) := fun G H hP Q k =>
  h G H hP _ fun G1 H1 vs g1 hvs => ⟨by have := hvs.length; rw [sizeLine_eq]; omega, fun t ht => k (upd G1 t (.tup vs)) _ (.ref t) (g1.trans (Gr.new g1.pl ht)) (.tup upd_same (hvs.mono (Gr.new (o := .tup vs) g1.pl ht).ex))⟩
theorem ed_lst (h : EvDA p q ta σ ds) (hl : ds.length ≤ 1000) : EvDt p q (tLst ta) σ (.list ds) := fun G H hP Q k =>
  h G H hP _ fun G1 H1 vs g1 hvs => ⟨by have := hvs.length; rw [sizeLine_eq]; omega, fun t ht => k (upd G1 t (.lst vs)) _ (.ref t) (g1.trans (Gr.new g1.pl ht)) (.lst upd_same (hvs.mono (Gr.new (o := .lst vs) g1.pl ht).ex))⟩
theorem ed_dict : EvDt p q tDNewK σ (.dict []) := fun G H hP Q k t ht => k (upd G t (.dK [])) _ (.ref t) (Gr.new hP ht) (.dic upd_same)
/-- things + [..] -/
theorem ed_cat (G0 : Hp) {v : V} {i : Nat} (hv : σ[i]? = some (some v)) (h0 : Dq G0 v (.list ds)) (hb : EvDt p q tb σ (.list es)) (hl : ds.length + es.length ≤ 1000) {H : Hp} (hP : Pm G0 H p q) {Q : VK} (k : ∀ G' H' v, Gr p q G0 H G' H' → Dq G' v (.list (ds ++ es)) → Q v H') : tOp rCat (tVar i) tb σ H Q := by
  refine ⟨v, hv, hb G0 H hP _ fun G1 H1 u g1 hu => ?_⟩
  have h1 := h0.mono g1.ex
  cases h1 with
  | lst a1 a2 =>
    cases hu with
    | lst b1 b2 =>
      rename_i aa xs ab ys
      have l1 := a2.length
      have l2 := b2.length
      refine ⟨aa, ab, xs, ys, rfl, rfl, g1.pl.ex _ _ a1, g1.pl.ex _ _ b1, by rw [sizeLine_eq]; omega, fun t ht => ?_⟩
      have gn := Gr.new (o := .lst (xs ++ ys)) g1.pl ht
      exact k _ _ (.ref t) (g1.trans gn) (.lst upd_same ((a2.append b2).mono gn.ex))
end
theorem q_asgD {p q : Addr} {i : Nat} {te : TE} {tz : TS} {D : Ends} {σ : L2.St} {G H : Hp} {d : PyData} (h : EvDt p q te σ d) (hP : Pm G H p q) (k : ∀ G' H' v, Gr p q G H G' H' → Dq G' v d → tz D (σ.set i (some v)) H') : tSeq (tAsg te (gName i)) tz D σ H := h G H hP _ k
theorem q_catD {p q : Addr} {i j : Nat} {tb : TE} {tz : TS} {D : Ends} {σ : L2.St} {H : Hp} {ds es : List PyData} (G0 : Hp) {v : V} (hv : σ[i]? = some (some v)) (h0 : Dq G0 v (.list ds)) (hb : EvDt p q tb σ (.list es)) (hl : ds.length + es.length ≤ 1000) (hP : Pm G0 H p q) (k : ∀ G' H' v, Gr p q G0 H G' H' → Dq G' v (.list (ds ++ es)) → tz D (σ.set j (some v)) H') : tSeq (tAsg (tOp rCat (tVar i) tb) (gName j)) tz D σ H := ed_cat G0 hv h0 hb hl hP k
end Wk

set_option Elab.async false
set_option linter.all false
set_option maxRecDepth 100000
set_option maxHeartbeats 2000000
namespace Wk
open PySem PySem.Spec PyProof.Rows L2 Evl
def vI : V → Int
  | .int i => i
  | _ => 0
theorem perm_ints {ys : List V} {ns : List Int} (h : ys.Perm (ns.map V.int)) : ∃ os : List Int, os.Perm ns ∧ ys = os.map V.int := by
  refine ⟨ys.map vI, ?_, ?_⟩
  · have z := h.map vI
    rw [List.map_map, show (vI ∘ V.int) = id from rfl, List.map_id] at z
    exact z
  · rw [List.map_map]
    refine ((List.map_congr_left fun d hd => ?_).trans (List.map_id ys)).symm
    obtain ⟨w, _, rfl⟩ := List.mem_map.mp (h.mem_iff.mp hd)
    rfl
theorem next_ne {a d n : Int} (h0 : 0 ≤ a) (h1 : a < n) (h2 : 0 ≤ d) (h3 : d < n - 1) : (a + 1 + d) % n ≠ a := by
  by_cases h : a + 1 + d < n
  · rw [Int.emod_eq_of_lt (by omega) h]
    omega
  · rw [show a + 1 + d = (a + 1 + d - n) + n by omega, Int.add_emod_right, Int.emod_eq_of_lt (by omega) (by omega)]
    omega
theorem prOk_of {n : Nat} {a b : Int} (h0 : 0 ≤ a) (h1 : a < n) (h2 : 0 ≤ b) (h3 : b < n) (h4 : a ≠ b) : PrOk n [a, b] :=
  ⟨a.toNat, b.toNat, by rw [Int.toNat_of_nonneg h0, Int.toNat_of_nonneg h2], by omega, by omega, by omega⟩
/-- links that are put into the list at D -/
structure LsW (n : Nat) (G H : Hp) (p q D : Addr) (us : List V) (prs : List Wy) : Prop where
  pm : Pm G H p q
  at_ : H D = some (.lst us)
  gD : G D = none
  np : D ≠ p
  dq : DqA G us (prs.map wd)
  ok : ∀ w ∈ prs, PrOk n w
theorem LsW.ext {n : Nat} {G H H' : Hp} {p q D : Addr} {us : List V} {prs : List Wy} (h : LsW n G H p q D us prs) (e : Ex H H') : LsW n G H' p q D us prs := ⟨h.pm.ext e, e _ _ h.at_, h.gD, h.np, h.dq, h.ok⟩
theorem LsW.off {n : Nat} {G H H' : Hp} {p q D : Addr} {us : List V} {prs : List Wy} (h : LsW n G H p q D us prs) (hP : Pm G H' p q) (o : Of1 p H H') : LsW n G H' p q D us prs := ⟨hP, o _ _ h.np h.at_, h.gD, h.np, h.dq, h.ok⟩
theorem LsW.put {n : Nat} {G H : Hp} {p q D t : Addr} {us : List V} {prs : List Wy} {w : Wy} (h : LsW n G H p q D us prs) (ht : H t = none) (hw : PrOk n w) :
    Ex G (upd G t (.tup (w.map V.int))) ∧ LsW n (upd G t (.tup (w.map V.int))) (upd (upd H t (.tup (w.map V.int))) D (.lst (us ++ [.ref t]))) p q D (us ++ [.ref t]) (prs ++ [w]) := by
  have gt := fresh_back h.pm.ex ht
  have eg : Ex G (upd G t (.tup (w.map V.int))) := Ex.new gt
  have nDt : D ≠ t := ne_of_none h.at_ ht
  have gD' : (upd G t (.tup (w.map V.int))) D = none := by rw [upd_ne nDt]; exact h.gD
  refine ⟨eg, (h.pm.new ht).mut gD' h.np, upd_same, gD', h.np, ?_, fun x hx => ?_⟩
  · rw [List.map_append]
    exact (h.dq.mono eg).append (.cons (wd_of upd_same) .nil)
  · rcases List.mem_append.mp hx with z | z
    · exact h.ok x z
    · rw [List.mem_singleton.mp z]
      exact hw
def spPairs : Sp := fun vs H Q _ => ∃ (l : Addr) (us : List V) (prs : List Wy), vs = [.ref l] ∧ H l = some (.lst us) ∧ DqA H us (prs.map wd) ∧ (∀ w ∈ prs, PrOk 8 w) ∧ prs.length ≤ 22 ∧
  ∀ H' l' us', Ex H H' → H l' = none → H' l' = some (.lst us') → DqA H' us' ((joinW prs).map wd) → Q (.ref l') H'
theorem upTo_all (n : Nat) : upTo (fun _ => true) n = List.range n := by
  unfold upTo
  exact List.filter_eq_self.mpr fun _ _ => rfl
theorem range_sw (prs : List Wy) : (List.range prs.length).map (fun i => swW (prs.getD i [])) = prs.map swW := by
  apply List.ext_getElem
  · simp
  · intro i h1 h2
    have h3 : i < prs.length := by simpa using h1
    simp [List.getD_eq_getElem?_getD, List.getElem?_eq_getElem h3]
end Wk

set_option Elab.async false
set_option linter.all false
set_option maxRecDepth 100000
set_option maxHeartbeats 2000000
namespace Wk
open PySem PySem.Spec PyProof.Rows L2 Evl
/-! deeds -/
inductive Deed
  | pas (a b : Nat)
  | los (a b : Nat)
  | rst (r : Nat)
  | wri (r c : Nat)
def Deed.vs : Deed → List V
  | .pas a b => [.str "pass", .int (a : Int), .int (b : Int)]
  | .los a b => [.str "lose", .int (a : Int), .int (b : Int)]
  | .rst r => [.str "restart", .int (r : Int)]
  | .wri r c => [.str "write", .int (r : Int), .int (c : Int)]
def Deed.ds : Deed → List PyData
  | .pas a b => [.str "pass", .int (a : Int), .int (b : Int)]
  | .los a b => [.str "lose", .int (a : Int), .int (b : Int)]
  | .rst r => [.str "restart", .int (r : Int)]
  | .wri r c => [.str "write", .int (r : Int), .int (c : Int)]
def Deed.d (x : Deed) : PyData := .tuple x.ds
def Deed.ok (n : Nat) (js : List Wy) (rs : Bool) : Deed → Prop
  | .pas a b => [(a : Int), (b : Int)] ∈ js
  | .los a b => [(a : Int), (b : Int)] ∈ js
  | .rst r => r < n ∧ rs = true
  | .wri r c => r < n ∧ c < 100
theorem Deed.dqa (H : Hp) : ∀ x : Deed, DqA H x.vs x.ds
  | .pas a b => .cons (.str _) (.cons (.int _) (.cons (.int _) .nil))
  | .los a b => .cons (.str _) (.cons (.int _) (.cons (.int _) .nil))
  | .rst r => .cons (.str _) (.cons (.int _) .nil)
  | .wri r c => .cons (.str _) (.cons (.int _) (.cons (.int _) .nil))
theorem Deed.dq {H : Hp} {t : Addr} {x : Deed} (h : H t = some (.tup x.vs)) : Dq H (.ref t) x.d := .tup h (x.dqa H)
theorem Deed.inv {H : Hp} {v : V} {x : Deed} (h : Dq H v x.d) : ∃ t, v = .ref t ∧ H t = some (.tup x.vs) := by
  unfold Deed.d at h
  cases h with
  | @tup a xs _ h1 h2 =>
    refine ⟨a, rfl, ?_⟩
    rw [h1]
    cases x with
    | pas a b => obtain _ | ⟨⟨⟩, _ | ⟨⟨⟩, _ | ⟨⟨⟩, _ | _⟩⟩⟩ := h2; rfl
    | los a b => obtain _ | ⟨⟨⟩, _ | ⟨⟨⟩, _ | ⟨⟨⟩, _ | _⟩⟩⟩ := h2; rfl
    | rst r => obtain _ | ⟨⟨⟩, _ | ⟨⟨⟩, _ | _⟩⟩ := h2; rfl
    | wri r c => obtain _ | ⟨⟨⟩, _ | ⟨⟨⟩, _ | ⟨⟨⟩, _ | _⟩⟩⟩ := h2; rfl
end Wk

set_option Elab.async false
set_option linter.all false
set_option maxRecDepth 100000
set_option maxHeartbeats 4000000
namespace PySem.SeqAt
open AutoSeq1 (wpAny_loadPart')
open MeetsSeq MeetsSeq2 MeetsSeq3 SeqRoads2
section
variable {prog : Program} {w : World}
/-- != of tuples within one world -/
theorem tuple_neIn (l b : Addr) (items items2 : Array Value) (n n2 : Nat) (dd dd2 : Option Addr) (sl sl2 : Array (Option Value)) (e : Nat → Bool) :
    MeetsIn prog w (Builtin.«tuple.__ne__» ⟨[.ref l, .ref b], []⟩)
      (fun A R s => s.heap.get? l = some { cls := .type "tuple", dict := dd, data := .seq items n, slots := sl } ∧ s.heap.get? b = some { cls := .type "tuple", dict := dd2, data := .seq items2 n2, slots := sl2 } ∧
        (∀ j (h1 : j < items.size) (h2 : j < items2.size), EqIn prog w A.in1 s items[j] items2[j] (e j)) ∧
        R (.ok (.ret (.bool (!((List.range (min items.size items2.size)).all e && items.size == items2.size))))) s) :=
  .of_wp fun A R s h => by
    obtain ⟨hp, g, d, tk, os⟩ := s; obtain ⟨hl, hb, he, h⟩ := h
    have f2 := AutoSeq1.sub_tuple_tuple
    have hZ : (items.toList.zip items2.toList).length = min items.size items2.size := by simp
    wp_walk using wpAny_loadPart' hl, wpAny_loadPart' hb, wpAny_forIn_list _ (fun rest b s' => b.1 = none ∧ s' = ⟨hp, g, d, tk, os⟩ ∧ ∃ i, rest = (items.toList.zip items2.toList).drop i ∧
      R (.ok (.ret (.bool (!(((List.range (min items.size items2.size)).drop i).all e && items.size == items2.size))))) ⟨hp, g, d, tk, os⟩) _
    case turn =>
      rintro ⟨y, x⟩ rest b s' ⟨hb', rfl, i, hz, hR⟩
      have hlt : i < (items.toList.zip items2.toList).length := by
        rcases Nat.lt_or_ge i (items.toList.zip items2.toList).length with h' | h'
        · exact h'
        · rw [List.drop_of_length_le h'] at hz; cases hz
      have hm : i < min items.size items2.size := hZ ▸ hlt
      have h1 : i < items.size := Nat.lt_of_lt_of_le hm (Nat.min_le_left _ _)
      have h2 : i < items2.size := Nat.lt_of_lt_of_le hm (Nat.min_le_right _ _)
      rw [List.drop_eq_getElem_cons hlt] at hz
      injection hz with hyx hrest
      have hy : y = items[i] := by have := congrArg Prod.fst hyx; simpa using this
      have hx : x = items2[i] := by have := congrArg Prod.snd hyx; simpa using this
      subst hy hx
      have hd : (List.range (min items.size items2.size)).drop i = i :: (List.range (min items.size items2.size)).drop (i + 1) := by simp [List.drop_eq_getElem_cons, hm]
      rw [hd, List.all_cons] at hR
      refine wpAny_bind (he i h1 h2 _ _ ?_)
      cases hy : e i with
      | true =>
        rw [hy] at hR
        wp_walk
        exact ⟨rfl, rfl, i + 1, hrest, by simpa using hR⟩
      | false =>
        rw [hy] at hR
        wp_walk
        exact ⟨_, rfl, by simpa using hR⟩
    case fin =>
      rintro ⟨b1, b2⟩ s' ⟨hb', rfl, i, hz, hR⟩
      simp only at hb'
      subst hb'
      have hge : min items.size items2.size ≤ i := by
        rcases Nat.lt_or_ge i (items.toList.zip items2.toList).length with h' | h'
        · rw [List.drop_eq_getElem_cons h'] at hz; cases hz
        · exact hZ ▸ h'
      rw [List.drop_of_length_le (by simpa using hge)] at hR
      wp_walk
      exact ⟨_, rfl, by simpa [Builtin.Tuple.tupleCompareSizes, bne] using hR⟩
    case h =>
      exact ⟨rfl, rfl, 0, rfl, by simpa using h⟩
end
section
variable {prog : Program} {w : World} {A : Around} {s : Shared}
theorem rcIn_tuples_ne {E : Value → Shared → Prop} {l b : Addr} {items items2 : Array Value} {e : Nat → Bool} {Q : Value → Shared → Prop} (hl : s.heap.IsTuple l items) (hb : s.heap.IsTuple b items2) (hu : A.units < cLine)
    (he : ∀ j (h1 : j < items.size) (h2 : j < items2.size), EqIn prog w A.in1 s items[j] items2[j] (e j)) (h : Q (.bool (!((List.range (min items.size items2.size)).all e && items.size == items2.size))) s) :
    wpAny (model prog w) A (richCompare .NotEq (.ref l) (.ref b)) Q E s := by
  obtain ⟨⟨cls, dd, data, sl⟩, ho, hc, n, hd⟩ := id hl
  obtain ⟨⟨cls2, dd2, data2, sl2⟩, ho2, hc2, n2, hd2⟩ := id hb
  simp only at hc hd hc2 hd2
  subst hc hd hc2 hd2
  exact wpAny_richCompare_same_room (T := "tuple") (op := .NotEq) ⟨_, ho, rfl⟩ ⟨_, ho2, rfl⟩ F.slot_tuple_ne (call_meetsIn F.slot_tuple_ne ⟨_, ho, rfl⟩ F.entry_tuple_ne (F.args_tuple_ne_2 _ _) (tuple_neIn l b items items2 n n2 dd dd2 sl sl2 e)
    ⟨ho, ho2, he, show Value.bool (!((List.range (min items.size items2.size)).all e && items.size == items2.size)) ≠ Value.notImplemented ∧ Q (.bool (!((List.range (min items.size items2.size)).all e && items.size == items2.size))) s from ⟨(fun x => nomatch x), h⟩⟩) hu
end
end PySem.SeqAt
namespace Wk
open PySem PySem.Spec PyProof.Rows L2 Evl
/-! entries compared -/
def gtE (x y : Int × Int) : Bool := if x.1 = y.1 then decide (y.2 < x.2) else decide (y.1 < x.1)
def rGtP (K : PySem.W.Frag) : R2 := fun x y H Q => ∃ (a b : Addr) (p q : Int × Int), x = .ref a ∧ y = .ref b ∧ SqT K H a [.int p.1, .int p.2] ∧ SqT K H b [.int q.1, .int q.2] ∧ Q (.bl (gtE p q)) H
theorem op_gtP {X : Cx} {K : PySem.W.Frag} (hK : X.K = K) (hu : X.A.units < cLine) : OpR X (compareOp .Gt) (rGtP K) := by
  subst hK
  intro pins s σ H x y v u Q I rx ry h
  obtain ⟨a, b, p, q', rfl, rfl, ha, hb, q⟩ := h
  cases rx
  cases ry
  obtain ⟨its, r1, p1, _⟩ := I.tuple ha
  obtain ⟨its2, r2, p2, _⟩ := I.tuple hb
  have i1 : IntsAre its [p.1, p.2] := Vals.ints (ns := [p.1, p.2]) r1
  have i2 : IntsAre its2 [q'.1, q'.2] := Vals.ints (ns := [q'.1, q'.2]) r2
  have e1 : its.toArray.size = 2 := by rw [List.size_toArray]; exact i1.length
  have e2 : its2.toArray.size = 2 := by rw [List.size_toArray]; exact i2.length
  have at1 : ∀ j (h1 : j < its.toArray.size), ∃ t, its.toArray[j] = .int ([p.1, p.2].getD j 0) t := fun j h1 => PyProof.Rows.IntsAre.int_at i1 _ _ (by simp at h1; simp [h1])
  have at2 : ∀ j (h1 : j < its2.toArray.size), ∃ t, its2.toArray[j] = .int ([q'.1, q'.2].getD j 0) t := fun j h1 => PyProof.Rows.IntsAre.int_at i2 _ _ (by simp at h1; simp [h1])
  have R := Ob.RcOp.tuples_gt (A := X.A) (s := s) (e := fun j => decide ([p.1, p.2].getD j 0 = [q'.1, q'.2].getD j 0)) (r := fun j => decide ([p.1, p.2].getD j 0 > [q'.1, q'.2].getD j 0)) p1 p2 hu (fun j h1 h2 => by
    obtain ⟨t, et⟩ := at1 j h1
    obtain ⟨t', et'⟩ := at2 j h2
    rw [et, et']
    have z : ([p.1, p.2].getD j 0 == [q'.1, q'.2].getD j 0) = decide ([p.1, p.2].getD j 0 = [q'.1, q'.2].getD j 0) := by
      by_cases q : [p.1, p.2].getD j 0 = [q'.1, q'.2].getD j 0
      · rw [decide_eq_true q]; exact beq_iff_eq.mpr q
      · rw [decide_eq_false q]; exact beq_eq_false_iff_ne.mpr q
    rw [← z]
    exact SeqAt.EqAt.int_int _ _ _ _) (fun j h1 h2 _ => by
    obtain ⟨t, et⟩ := at1 j h1
    obtain ⟨t', et'⟩ := at2 j h2
    rw [et, et']
    exact Ob.RcOp.gt_int _ _ _ _)
  rw [e1, e2] at R
  have ev : Ob.lexAt (fun j => decide ([p.1, p.2].getD j 0 = [q'.1, q'.2].getD j 0)) (fun j => decide ([p.1, p.2].getD j 0 > [q'.1, q'.2].getD j 0)) (decide (2 > 2)) 0 (min 2 2) = gtE p q' := by
    show Ob.lexAt _ _ _ 0 2 = _
    rw [Ob.lexAt_succ, Ob.lexAt_succ, Ob.lexAt_zero]
    show (if decide (p.1 = q'.1) = true then (if decide (p.2 = q'.2) = true then decide (2 > 2) else decide (p.2 > q'.2)) else decide (p.1 > q'.1)) = _
    unfold gtE
    by_cases h1 : p.1 = q'.1
    · by_cases h2 : p.2 = q'.2
      · simp [h1, h2]
      · simp [h1, h2]
    · simp [h1]
  have z : wpAny (model X.prog X.w) X.A (compareOp .Gt (.ref a) (.ref b)) (EP X pins σ Q) X.xe s := R X.prog X.w X.xe (EP X pins σ Q) ⟨.bl (gtE p q'), H, I, congrArg Value.bool ev, q⟩
  exact z
/-! == and != of tuples and dicts, nested -/
inductive EqV (H : Hp) : Nat → V → V → Bool → Prop
  | data {n : Nat} {x y : V} {d e : PyData} : Dq H x d → Dq H y e → d.canLay0 = true → e.canLay0 = true → d.depth ≤ n → EqV H n x y (PyData.eqv d e)
  | same {n : Nat} {a : Addr} : EqV H n (.ref a) (.ref a) true
  | tup {n : Nat} {a b : Addr} {xs ys : List V} (e : Nat → Bool) : a ≠ b → H a = some (.tup xs) → H b = some (.tup ys) → (∀ j x y, xs[j]? = some x → ys[j]? = some y → EqV H n x y (e j)) →
      EqV H (n + 1) (.ref a) (.ref b) ((List.range (min xs.length ys.length)).all e && xs.length == ys.length)
  | dic {n : Nat} {a b : Addr} {ks ls : List (L2.Key × V)} (e : L2.Key → Bool) : a ≠ b → H a = some (.dK ks) → H b = some (.dK ls) → (∀ k v y, (k, v) ∈ ks → valV ls k = some y → EqV H n v y (e k)) →
      EqV H (n + 1) (.ref a) (.ref b) (ks.length == ls.length && ks.all fun p => (valV ls p.1).isSome && e p.1)
theorem kv_mem {ks : List (L2.Key × V)} {vs : List (L2.Key × Value)} (r : KV ks vs) {k : L2.Key} {u : Value} (h : (k, u) ∈ vs) : ∃ v, (k, v) ∈ ks ∧ RelV v u := by
  induction r with
  | nil => cases h
  | @cons p q ps qs h1 t ih =>
    rcases List.mem_cons.mp h with e | e
    · obtain ⟨h2, h3⟩ := h1
      refine ⟨p.2, List.mem_cons.mpr (.inl ?_), ?_⟩
      · rw [show k = p.1 by rw [h2, ← e]]
      · rw [← e] at h3; exact h3
    · obtain ⟨v, a, b⟩ := ih e
      exact ⟨v, List.mem_cons_of_mem _ a, b⟩
theorem kv_all {ks : List (L2.Key × V)} {vs : List (L2.Key × Value)} (r : KV ks vs) (f : L2.Key → Bool) : (vs.all fun p => f p.1) = (ks.all fun p => f p.1) := by
  induction r with
  | nil => rfl
  | @cons p q ps qs h1 t ih =>
    rw [List.all_cons, List.all_cons, ih, h1.1]
section
variable {X : Cx} {pins : List (Addr × Obj)} {σ : L2.St} {H : Hp} {s : Shared}
theorem EqV.tree (I : Inv X pins σ H s) {n : Nat} {x y : V} {b : Bool} (t : EqV H n x y b) : ∀ v u, RelV x v → RelV y u → PySem.W.EqTree X.prog X.w s n v u b := by
  induction t with
  | @data n x y d e hx hy hd he hdep =>
    intro v u rv ru
    obtain ⟨as, ra⟩ := Dp.reads I d x v (Dq.dp (K := X.K) hd hx) rv
    obtain ⟨bs, rb⟩ := Dp.reads I e y u (Dq.dp (K := X.K) he hy) ru
    exact .leaf fun A hu => SeqAt.eqAt_reads d e A s v u as bs ra rb hd he (by have := Nat.min_le_left d.depth e.depth; omega)
  | same =>
    intro v u rv ru
    cases rv
    cases ru
    exact .same
  | @tup n a b xs ys e hne ha hb _ ih =>
    intro v u rv ru
    cases rv
    cases ru
    obtain ⟨its, r1, p1, _⟩ := I.tuple (st_of ha)
    obtain ⟨its2, r2, p2, _⟩ := I.tuple (st_of hb)
    have z := PySem.W.EqTree.tuples (prog := X.prog) (w := X.w) (n := n) (e := e) hne p1 p2 fun j h1 h2 => by
      have h1' : j < xs.length := by rw [r1.length]; simpa using h1
      have h2' : j < ys.length := by rw [r2.length]; simpa using h2
      obtain ⟨v1, e1, q1⟩ := r1.get (List.getElem?_eq_getElem h1')
      obtain ⟨v2, e2, q2⟩ := r2.get (List.getElem?_eq_getElem h2')
      have g1 : its.toArray[j] = v1 := by
        have : its[j]? = some v1 := e1
        obtain ⟨_, w⟩ := List.getElem?_eq_some_iff.mp this
        simpa using w
      have g2 : its2.toArray[j] = v2 := by
        have : its2[j]? = some v2 := e2
        obtain ⟨_, w⟩ := List.getElem?_eq_some_iff.mp this
        simpa using w
      rw [g1, g2]
      exact ih j _ _ (List.getElem?_eq_getElem h1') (List.getElem?_eq_getElem h2') v1 v2 q1 q2
    rw [List.size_toArray, List.size_toArray, ← r1.length, ← r2.length] at z
    exact z
  | @dic n a b ks ls e hne ha hb _ ih =>
    intro v u rv ru
    cases rv
    cases ru
    obtain ⟨_, hsa, va, ra, da⟩ := dk_of I.hok ha
    obtain ⟨_, hsb, vb, rb, db⟩ := dk_of I.hok hb
    have z := PySem.W.EqTree.dicts (prog := X.prog) (w := X.w) (n := n) (e := e) hne hsa hsb da db fun k v1 y1 hm hv => by
      obtain ⟨v2, m2, q2⟩ := kv_mem ra hm
      have ro := rb.val k
      rw [hv] at ro
      cases hl : valV ls k with
      | none => rw [hl] at ro; cases ro
      | some y2 =>
        rw [hl] at ro
        exact ih k v2 y2 m2 hl v1 y1 q2 ro
    have e2 : (va.all fun p => (valueAt vb p.1).isSome && e p.1) = (ks.all fun p => (valV ls p.1).isSome && e p.1) := by
      rw [kv_all ra fun k => (valueAt vb k).isSome && e k]
      congr 1
      funext p
      rw [(rb.val p.1).isSome_eq]
    rw [e2, ← ra.length, ← rb.length] at z
    exact z
def rEqX : R2 := fun x y H Q => ∃ (a b : Addr) (xs ys : List V) (e : Nat → Bool) (n : Nat), x = .ref a ∧ y = .ref b ∧ H a = some (.tup xs) ∧ H b = some (.tup ys) ∧ n ≤ 20 ∧ (∀ j x y, xs[j]? = some x → ys[j]? = some y → EqV H n x y (e j)) ∧ Q (.bl ((List.range (min xs.length ys.length)).all e && xs.length == ys.length)) H
def rNeX : R2 := fun x y H Q => ∃ (a b : Addr) (xs ys : List V) (e : Nat → Bool) (n : Nat), x = .ref a ∧ y = .ref b ∧ H a = some (.tup xs) ∧ H b = some (.tup ys) ∧ n ≤ 20 ∧ (∀ j x y, xs[j]? = some x → ys[j]? = some y → EqV H n x y (e j)) ∧ Q (.bl (!((List.range (min xs.length ys.length)).all e && xs.length == ys.length))) H
theorem at_arr {its : List Value} {xs : List V} (r : Vals xs its) {j : Nat} (h1 : j < its.toArray.size) : ∃ x, xs[j]? = some x ∧ RelV x its.toArray[j] := by
  have h1' : j < xs.length := by rw [r.length]; simpa using h1
  obtain ⟨v1, e1, q1⟩ := r.get (List.getElem?_eq_getElem h1')
  have g1 : its.toArray[j] = v1 := by
    have : its[j]? = some v1 := e1
    obtain ⟨_, w⟩ := List.getElem?_eq_some_iff.mp this
    simpa using w
  rw [g1]
  exact ⟨_, List.getElem?_eq_getElem h1', q1⟩
theorem op_eqX (hu : X.A.units + 64 < cLine) : OpR X (compareOp .Eq) rEqX := by
  intro pins s σ H x y v u Q I rx ry h
  obtain ⟨a, b, xs, ys, e, n, rfl, rfl, ha, hb, hn, he, q⟩ := h
  cases rx
  cases ry
  obtain ⟨its, r1, p1, _⟩ := I.tuple (st_of ha)
  obtain ⟨its2, r2, p2, _⟩ := I.tuple (st_of hb)
  refine PySem.W.eq_tuplesT (n := n) (e := e) p1 p2 (fun j h1 h2 => ?_) (by omega) ⟨.bl _, H, I, rfl, ?_⟩
  · obtain ⟨x1, ex, qx⟩ := at_arr r1 h1
    obtain ⟨y1, ey, qy⟩ := at_arr r2 h2
    exact (he j x1 y1 ex ey).tree I _ _ qx qy
  · rw [List.size_toArray, List.size_toArray, ← r1.length, ← r2.length]
    exact q
theorem op_neX (hu : X.A.units + 64 < cLine) : OpR X (compareOp .NotEq) rNeX := by
  intro pins s σ H x y v u Q I rx ry h
  obtain ⟨a, b, xs, ys, e, n, rfl, rfl, ha, hb, hn, he, q⟩ := h
  cases rx
  cases ry
  obtain ⟨its, r1, p1, _⟩ := I.tuple (st_of ha)
  obtain ⟨its2, r2, p2, _⟩ := I.tuple (st_of hb)
  refine SeqAt.rcIn_tuples_ne (e := e) p1 p2 (by omega) (fun j h1 h2 => ?_) ⟨.bl _, H, I, rfl, ?_⟩
  · obtain ⟨x1, ex, qx⟩ := at_arr r1 h1
    obtain ⟨y1, ey, qy⟩ := at_arr r2 h2
    exact ((he j x1 y1 ex ey).tree I _ _ qx qy).at X.A.in1 (by show X.A.in1.units + n < cLine; simp; omega)
  · rw [List.size_toArray, List.size_toArray, ← r1.length, ← r2.length]
    exact q
end
/-! t * n of a tuple -/
theorem tuple_mul1 (l : Addr) (items : Array Value) (n : Nat) (dd : Option Addr) (sl : Array (Option Value)) (u : Tok) :
    Meets (Builtin.«tuple.__mul__» ⟨[.ref l, .int 1 u], []⟩) (fun _ R s => s.heap.get? l = some { cls := .type "tuple", dict := dd, data := .seq items n, slots := sl } ∧ R (.ok (.ret (Value.ref l))) s) :=
  .of_wp fun prog w A R s h => by
    obtain ⟨hp, g, d, tk, os⟩ := s
    obtain ⟨hl, h⟩ := h
    have f1 := AutoSeq1.idx_int
    wp_walk using wpAny_loadPart' hl
    exact ⟨_, rfl, h⟩
end Wk

set_option Elab.async false
set_option linter.all false
set_option maxRecDepth 100000
set_option maxHeartbeats 2000000
namespace Wk
open PySem PySem.Spec PyProof.Rows L2 Evl
/-! dicts whose keys are whole numbers, made by a comprehension -/
def pf (g : Int → V) (ks : List Int) : List (L2.Key × V) := ks.foldl (fun a k => putK a (.inl k) (g k)) []
theorem pf_snoc (g : Int → V) (ks : List Int) (k : Int) : pf g (ks ++ [k]) = putK (pf g ks) (.inl k) (g k) := by
  unfold pf
  rw [List.foldl_append]
  rfl
theorem putK_old {kvs : List (L2.Key × V)} {k : L2.Key} {v : V} (hm : k ∈ kvs.map (·.1)) : (putK kvs k v).map (·.1) = kvs.map (·.1) := by
  unfold putK
  have h : (kvs.any fun kv => decide (kv.1 = k)) = true := by
    obtain ⟨p, hp, e⟩ := List.mem_map.mp hm
    exact List.any_eq_true.mpr ⟨p, hp, decide_eq_true e⟩
  rw [if_pos h, List.map_map]
  refine List.map_congr_left fun p _ => ?_
  show (if p.1 = k then (p.1, v) else p).1 = p.1
  split <;> rfl
theorem putK_new {kvs : List (L2.Key × V)} {k : L2.Key} {v : V} (h : k ∉ kvs.map (·.1)) : putK kvs k v = kvs ++ [(k, v)] := by
  unfold putK
  have h' : ¬ (kvs.any fun kv => decide (kv.1 = k)) = true := fun z => by
    obtain ⟨p, hp, e⟩ := List.any_eq_true.mp z
    exact h (List.mem_map.mpr ⟨p, hp, of_decide_eq_true e⟩)
  rw [if_neg h']
/-- the keys of a dict are whole numbers that differ -/
def NK (kvs : List (L2.Key × V)) (ks : List Int) : Prop := kvs.map (·.1) = ks.map Sum.inl ∧ ks.Nodup
theorem NK.put {kvs : List (L2.Key × V)} {ks : List Int} (h : NK kvs ks) (k : Int) (v : V) : NK (putK kvs (.inl k) v) (if k ∈ ks then ks else ks ++ [k]) := by
  have hm : (Sum.inl k : L2.Key) ∈ kvs.map (·.1) ↔ k ∈ ks := by
    rw [h.1, List.mem_map]
    constructor
    · rintro ⟨x, hx, e⟩
      injection e with e
      rw [← e]; exact hx
    · exact fun hk => ⟨k, hk, rfl⟩
  unfold NK
  by_cases hk : k ∈ ks
  · rw [if_pos hk, putK_old (hm.mpr hk)]
    exact h
  · rw [if_neg hk, putK_new (fun z => hk (hm.mp z))]
    refine ⟨?_, nd_snoc h.2 hk⟩
    rw [List.map_append, List.map_append, h.1]
    rfl
theorem valV_pf (g : Int → V) (k : Int) : ∀ n (ks : List Int), ks.length = n → valV (pf g ks) (.inl k) = if k ∈ ks then some (g k) else none
  | 0, ks, h => by
    rw [List.length_eq_zero_iff.mp h]
    rfl
  | n + 1, ks, h => by
    obtain ⟨l, x, rfl⟩ : ∃ l x, ks = l ++ [x] := ⟨ks.dropLast, ks.getLast (by intro z; rw [z] at h; cases h), (List.dropLast_concat_getLast _).symm⟩
    have ih := valV_pf g k n l (by simpa using h)
    rw [pf_snoc, valV_put, ih]
    by_cases e : k = x
    · rw [if_pos (by rw [e]), if_pos (by rw [e]; simp), e]
    · rw [if_neg (fun z => e (by injection z))]
      by_cases hl : k ∈ l
      · rw [if_pos hl, if_pos (List.mem_append_left _ hl)]
      · rw [if_neg hl, if_neg (fun z => (List.mem_append.mp z).elim hl fun y => e (List.mem_singleton.mp y))]
theorem nk_pf (g : Int → V) : ∀ n (ks : List Int), ks.length = n → ∃ js, NK (pf g ks) js ∧ (∀ k, k ∈ js ↔ k ∈ ks) ∧ js.length ≤ n
  | 0, ks, h => by
    rw [List.length_eq_zero_iff.mp h]
    exact ⟨[], ⟨rfl, List.nodup_nil⟩, fun k => Iff.rfl, Nat.le_refl _⟩
  | n + 1, ks, h => by
    obtain ⟨l, x, rfl⟩ : ∃ l x, ks = l ++ [x] := ⟨ks.dropLast, ks.getLast (by intro z; rw [z] at h; cases h), (List.dropLast_concat_getLast _).symm⟩
    obtain ⟨js, h1, h2, h3⟩ := nk_pf g n l (by simpa using h)
    have z := h1.put x (g x)
    rw [← pf_snoc] at z
    refine ⟨_, z, fun k => ?_, ?_⟩
    · by_cases hx : x ∈ js
      · rw [if_pos hx, h2, List.mem_append, List.mem_singleton]
        exact ⟨fun h => .inl h, fun h => h.elim id fun e => by rw [e]; exact (h2 x).mp hx⟩
      · rw [if_neg hx, List.mem_append, List.mem_append, h2]
    · split
      · omega
      · rw [List.length_append]; simp; omega
theorem pf_nodup (g : Int → V) : ∀ n (ks : List Int), ks.length = n → ks.Nodup → pf g ks = ks.map fun k => (Sum.inl k, g k)
  | 0, ks, h, _ => by
    rw [List.length_eq_zero_iff.mp h]
    rfl
  | n + 1, ks, h, nd => by
    obtain ⟨l, x, rfl⟩ : ∃ l x, ks = l ++ [x] := ⟨ks.dropLast, ks.getLast (by intro z; rw [z] at h; cases h), (List.dropLast_concat_getLast _).symm⟩
    have hx : x ∉ l := fun z => by
      have := (List.nodup_append.mp nd).2.2 x z x (by simp)
      exact this rfl
    have ih := pf_nodup g n l (by simpa using h) (List.nodup_append.mp nd).1
    rw [pf_snoc, ih, putK_new, List.map_append]
    · rfl
    · rw [List.map_map, List.mem_map]
      rintro ⟨y, hy, e⟩
      have e : y = x := by injection e
      exact hx (e ▸ hy)
theorem filter_take {ks : List Int} {f : Int → Bool} {i : Nat} {k : Int} (h : ks[i]? = some k) : (ks.take (i + 1)).filter f = (ks.take i).filter f ++ (if f k = true then [k] else []) := by
  rw [take_snoc h, List.filter_append]
  congr 1
  by_cases z : f k = true
  · rw [if_pos z]; simp [z]
  · rw [if_neg z]; simp [z]
def Yk (ks : List Int) : Nat → Hp → V → Hp → Prop := fun i H x H' => H' = H ∧ ∃ k, ks[i]? = some k ∧ x = .int k
/-- {k: v for k in .. if ..} -/
theorem dc_it {J : It} {ks : List Int} {Gd : Hp → Prop} {j : Nat} {vs : List Nat} {σ : L2.St} {H : Hp} {D : Addr} {Qd : Hp → Prop} {tt : TT} {tv : TE} (f : Int → Bool) (g : Int → V) (w : Walk J ks.length Gd (Yk ks)) (hD : H D = none) (hn : ks.length ≤ 1000)
    (hG : ∀ H', Ex H H' → Gd H') (hw : ∀ x, wipe ((wipe σ vs).set j (some x)) vs = wipe σ vs) (hj : j < σ.length)
    (ht : ∀ k ∈ ks, ∀ H', Ex H H' → EvT tt ((wipe σ vs).set j (some (.int k))) H' (f k)) (hv : ∀ k ∈ ks, f k = true → ∀ H', Ex H H' → Ev tv ((wipe σ vs).set j (some (.int k))) H' (g k))
    (hq : ∀ H', Ex H H' → H' D = some (.dK (pf g (ks.filter f))) → Qd H') :
    ∃ W : Nat → Nat → Hp → Prop, (∃ m, W 0 m (upd H D (.dK []))) ∧ ∀ i m H, W i m H →
      (J.stop i H ∧ Qd H) ∨ (J.go i H ∧ ∃ Nx : Hp → Prop, (∀ H', Nx H' → ∃ m', m' < m ∧ W (i + 1) m' H') ∧ ∀ x H', J.yld i H x H' → gName j x (wipe σ vs) H' fun σ2 H2 => wipe σ2 vs = wipe σ vs ∧ tt σ2 H2 fun b H3 =>
        if b = true then tVar j σ2 H3 fun y H4 => tv σ2 H4 fun z H5 => ∃ kvs k, y = kV k ∧ H5 D = some (.dK kvs) ∧ kvs.length < sizeLine ∧ Nx (upd H5 D (.dK (putK kvs k z))) else Nx H3) := by
  have Pn : ∀ i H', (i ≤ ks.length ∧ Ex H H' ∧ H' D = some (.dK (pf g ((ks.take i).filter f)))) → Gd H' := fun i H' p => hG H' p.2.1
  refine ⟨fun i m H' => m = ks.length - i ∧ i ≤ ks.length ∧ Ex H H' ∧ H' D = some (.dK (pf g ((ks.take i).filter f))), ⟨ks.length, by simp, Nat.zero_le _, Ex.new hD, by rw [List.take_zero]; exact upd_same⟩, ?_⟩
  rintro i m H1 ⟨rfl, hi, e1, d1⟩
  by_cases lt : i < ks.length
  · refine .inr ⟨w.goes i H1 lt (hG H1 e1), fun H' => Ex H H' ∧ H' D = some (.dK (pf g ((ks.take (i + 1)).filter f))), fun H' p => ⟨ks.length - (i + 1), by omega, rfl, lt, p⟩, fun x H' y => ?_⟩
    obtain ⟨rfl, k, hk, rfl⟩ := w.yields i H1 x H' lt (hG H1 e1) y
    have hkm := List.mem_of_getElem? hk
    refine ⟨hw _, ?_⟩
    refine ht k hkm H' e1 H' (Ex.refl _) _ fun H3 e3 => ?_
    rw [filter_take hk]
    cases hf : f k with
    | false =>
      simp only [Bool.false_eq_true, if_false, List.append_nil]
      exact ⟨e1.trans e3, e3 _ _ d1⟩
    | true =>
      simp only [if_true]
      refine ⟨.int k, ?_, hv k hkm hf H' e1 H3 e3 _ fun H5 e5 => ⟨_, .inl k, rfl, e5 _ _ (e3 _ _ d1), ?_, Ex.mut ((e1.trans e3).trans e5) hD, ?_⟩⟩
      · rw [List.getElem?_set_self]
        rw [wipe_length]; exact hj
      · obtain ⟨js, n1, _, n3⟩ := nk_pf g _ ((ks.take i).filter f) rfl
        have l1 : (pf g ((ks.take i).filter f)).length = js.length := by
          have := congrArg List.length n1.1
          simpa using this
        have l2 := List.length_filter_le f (ks.take i)
        have l3 : (ks.take i).length ≤ ks.length := by rw [List.length_take]; omega
        rw [l1, sizeLine_eq]
        omega
      · rw [upd_same, pf_snoc]
  · have e : i = ks.length := by omega
    subst e
    rw [List.take_length] at d1
    exact .inl ⟨w.stops H1 (hG H1 e1), hq H1 e1 d1⟩
theorem walk_ints {K : PySem.W.Frag} {a : Addr} {ks : List Int} : Walk (Itl K a) ks.length (fun H => SqL K H a (ks.map V.int)) (Yk ks) := by
  have w := walk_list (K := K) (a := a) (xs := ks.map V.int)
  rw [List.length_map] at w
  refine w.mono (fun H h => h) fun i H x H' hi _ y => ⟨y.1, ?_⟩
  have h2 := y.2
  rw [List.getElem?_map] at h2
  cases hk : ks[i]? with
  | none => rw [hk] at h2; cases h2
  | some k => rw [hk] at h2; exact ⟨k, rfl, (Option.some.inj h2).symm⟩
theorem walk_keysI {d : Addr} {o : Obj} {kvs : List (L2.Key × V)} {ks : List Int} (h : kvs.map (·.1) = ks.map Sum.inl) : Walk (Itk d o kvs) ks.length (fun H => H d = some (.frz o (.dK kvs))) (Yk ks) := by
  have hl : kvs.length = ks.length := by
    have := congrArg List.length h
    simpa using this
  have w := walk_keys (d := d) (o := o) (kvs := kvs)
  rw [hl] at w
  refine w.mono (fun H h => h) fun i H x H' hi _ y => ⟨y.1, ?_⟩
  obtain ⟨k, v, h1, h2⟩ := y.2
  have h3 : (kvs.map (·.1))[i]? = some k := by rw [List.getElem?_map, h1]; rfl
  rw [h, List.getElem?_map] at h3
  cases hk : ks[i]? with
  | none => rw [hk] at h3; cases h3
  | some z =>
    rw [hk] at h3
    have e : Sum.inl z = k := Option.some.inj h3
    refine ⟨z, rfl, ?_⟩
    rw [h2, ← e]
    rfl
/-- the same of a dict's keys: it is locked -/
theorem dc_keys {kvs : List (L2.Key × V)} {ks : List Int} {d : Addr} {n j : Nat} {vs : List Nat} {σ : L2.St} {H : Hp} {tt : TT} {tv : TE} {Q : VK} (f : Int → Bool) (g : Int → V) (hσ : σ[n]? = some (some (.ref d))) (hd : H d = some (.dK kvs)) (hk : kvs.map (·.1) = ks.map Sum.inl) (hn : ks.length ≤ 1000)
    (hw : ∀ x, wipe ((wipe σ vs).set j (some x)) vs = wipe σ vs) (hj : j < σ.length)
    (ht : ∀ k ∈ ks, ∀ H', (∀ b u, H b = some u → Rd H' b u) → (∀ b u, b ≠ d → H b = some u → H' b = some u) → EvT tt ((wipe σ vs).set j (some (.int k))) H' (f k))
    (hv : ∀ k ∈ ks, f k = true → ∀ H', (∀ b u, H b = some u → Rd H' b u) → (∀ b u, b ≠ d → H b = some u → H' b = some u) → Ev tv ((wipe σ vs).set j (some (.int k))) H' (g k))
    (hq : ∀ H' D, Ex H H' → H D = none → H' D = some (.dK (pf g (ks.filter f))) → Q (.ref D) H') : tLockE (tDc (iKeys (tVar n)) (gName j) tt (tVar j) tv vs) σ H Q := by
  refine ⟨d, .dK kvs, hd, trivial, fun od => ?_⟩
  refine ⟨.ref d, hσ, d, od, rfl, .inl ⟨kvs, upd_same, fun D hD => ?_⟩⟩
  have nDd : D ≠ d := fun z => by rw [z, upd_same] at hD; cases hD
  have hD' : H D = none := by rw [upd_ne nDd] at hD; exact hD
  have r1 : ∀ H', Ex (upd H d (.frz od (.dK kvs))) H' → ∀ b u, b ≠ d → H b = some u → H' b = some u := fun H' e b u nb hb => e _ _ (by rw [upd_ne nb]; exact hb)
  have r2 : ∀ H', Ex (upd H d (.frz od (.dK kvs))) H' → ∀ b u, H b = some u → Rd H' b u := fun H' e b u hb => by
    by_cases z : b = d
    · rw [z, hd] at hb
      cases hb
      exact .inr ⟨od, by rw [z]; exact e _ _ upd_same⟩
    · exact .inl (r1 H' e b u z hb)
  refine dc_it (H := upd H d (.frz od (.dK kvs))) f g (walk_keysI (o := od) hk) hD hn (fun H' e => e _ _ upd_same) hw hj (fun k hk H' e => ht k hk H' (r2 H' e) (r1 H' e)) (fun k hk hf H' e => hv k hk hf H' (r2 H' e) (r1 H' e)) fun H' e hD2 => ⟨e _ _ upd_same, ?_⟩
  refine hq _ D (fun b u hb => ?_) hD' (by rw [upd_ne nDd]; exact hD2)
  by_cases z : b = d
  · rw [z, hd] at hb
    rw [z, upd_same]
    exact hb
  · rw [upd_ne z]
    exact r1 H' e b u z hb
section
variable {σ : L2.St} {H : Hp} {ta tb tc : TE}
theorem ev_dget {a : Addr} {k : Int} {v : V} {kvs : List (L2.Key × V)} (ha : Ev ta σ H (.ref a)) (hk : Ev tb σ H (.int k)) (hr : Rd H a (.dK kvs)) (hv : valV kvs (.inl k) = some v) : Ev (tDGet ta tb) σ H v := fun H1 e Q q =>
  ha H1 e _ fun H2 e2 => hk H2 (e.trans e2) _ fun H3 e3 => ⟨a, v, rfl, .inl ⟨kvs, .inl k, hr.elim (fun h => .inl (((e.trans e2).trans e3) _ _ h)) (fun ⟨o, h⟩ => .inr ⟨o, ((e.trans e2).trans e3) _ _ h⟩), rfl, hv.symm⟩, q H3 (e2.trans e3)⟩
theorem rd_up {H H' : Hp} {a : Addr} {u : HO} (e : Ex H H') (h : Rd H a u) : Rd H' a u := h.elim (fun h => .inl (e _ _ h)) fun ⟨o, h⟩ => .inr ⟨o, e _ _ h⟩
theorem ev_dget1 {a : Addr} {k : Int} {v : Option V} {kvs : List (L2.Key × V)} (ha : Ev ta σ H (.ref a)) (hk : Ev tb σ H (.int k)) (hr : Rd H a (.dK kvs)) (hv : valV kvs (.inl k) = v) : Ev (tDGet1 ta tb) σ H (v.getD .non) := fun H1 e Q q =>
  ha H1 e _ fun H2 e2 => ⟨a, rfl, .inl ⟨kvs, rd_up (e.trans e2) hr⟩, hk H2 (e.trans e2) _ fun H3 e3 => ⟨v, .inl ⟨kvs, .inl k, rd_up ((e.trans e2).trans e3) hr, rfl, hv.symm⟩, q H3 (e2.trans e3)⟩⟩
theorem ev_dget2 {a : Addr} {k : Int} {v : Option V} {z : V} {kvs : List (L2.Key × V)} (ha : Ev ta σ H (.ref a)) (hk : Ev tb σ H (.int k)) (hz : Ev tc σ H z) (hr : Rd H a (.dK kvs)) (hv : valV kvs (.inl k) = v) : Ev (tDGet2 ta tb tc) σ H (v.getD z) := fun H1 e Q q =>
  ha H1 e _ fun H2 e2 => ⟨a, rfl, .inl ⟨kvs, rd_up (e.trans e2) hr⟩, hk H2 (e.trans e2) _ fun H3 e3 => hz H3 ((e.trans e2).trans e3) _ fun H4 e4 => ⟨v, .inl ⟨kvs, .inl k, rd_up (((e.trans e2).trans e3).trans e4) hr, rfl, hv.symm⟩, q H4 ((e2.trans e3).trans e4)⟩⟩
theorem ev_dnot {a : Addr} {k : Int} {kvs : List (L2.Key × V)} (hk : Ev tb σ H (.int k)) (ha : Ev ta σ H (.ref a)) (hr : Rd H a (.dK kvs)) : Ev (tDNotIn tb ta) σ H (.bl (!(valV kvs (.inl k)).isSome)) := fun H1 e Q q =>
  hk H1 e _ fun H2 e2 => ha H2 (e.trans e2) _ fun H3 e3 => ⟨a, _, rfl, .inl ⟨kvs, .inl k, rd_up ((e.trans e2).trans e3) hr, rfl, rfl⟩, q H3 (e2.trans e3)⟩
theorem ev_din {a : Addr} {k : Int} {kvs : List (L2.Key × V)} (hk : Ev tb σ H (.int k)) (ha : Ev ta σ H (.ref a)) (hr : Rd H a (.dK kvs)) : Ev (tDIn tb ta) σ H (.bl (valV kvs (.inl k)).isSome) := fun H1 e Q q =>
  hk H1 e _ fun H2 e2 => ha H2 (e.trans e2) _ fun H3 e3 => ⟨a, _, rfl, .inl ⟨kvs, .inl k, rd_up ((e.trans e2).trans e3) hr, rfl, rfl⟩, q H3 (e2.trans e3)⟩
end
end Wk

set_option Elab.async false
set_option linter.all false
set_option maxRecDepth 100000
set_option maxHeartbeats 2000000
namespace L2
open PySem PySem.Spec PyProof.Rows
section
variable {X : Cx}
/-- y = {k: v for ..}, y a local of a def -/
theorem ps_setDc {i : Nat} {y : Str} {py : Pos} {kx vx tg iter : Expr} {ifs : List Expr} {scope : Scope} {own : List (Str × Nat)} {pos spos : Pos} {wi : TI} {g : TG} {tt : TT} {tk tv : TE} (hc : X.calm = true) (hN : X.N.Nodup) (hy : X.N[i]? = some y) (hyl : X.env.scope.names.lookup y = some .local)
    (hsw : swapsWith (.DictComp kx vx [⟨tg, iter, ifs, 0⟩] scope pos) (some (.Name y py)) spos.line X.env = pure true) (hi : PI X tg iter wi) (ok : BlkOk X.N X.env.scope scope own)
    (hg : ∀ (s : Shared) (H : Hp) (C : Addr) (cl : List (Str × Addr)) (fp : List Addr), PG (X.blk s H scope (compEnvC scope cl C X.env) fp) tg g) (ht : ∀ (s : Shared) (H : Hp) (C : Addr) (cl : List (Str × Addr)) (fp : List Addr), PTs (X.blk s H scope (compEnvC scope cl C X.env) fp) ifs tt)
    (hk : ∀ (s : Shared) (H : Hp) (C : Addr) (cl : List (Str × Addr)) (fp : List Addr), PE (X.blk s H scope (compEnvC scope cl C X.env) fp) kx tk)
    (he : ∀ (s : Shared) (H : Hp) (C : Addr) (cl : List (Str × Addr)) (fp : List Addr), PE (X.blk s H scope (compEnvC scope cl C X.env) fp) vx tv) (hs : ∀ x, foldedSetIterable iter X.env x = pure x := by intro _; rfl) :
    PS X (.Assign [.Name y py] (.DictComp kx vx [⟨tg, iter, ifs, 0⟩] scope pos) spos) (tAsg (tDc wi g tt tk tv (own.map (·.2))) (gName i)) := by
  refine ⟨fun pins s σ H D I h => ?_⟩
  rw [exec_Assign_Name_used _ _ _ _ hsw]
  refine wpAny_bind (wpAny_standAt (wpAny_bind ?_))
  show wpAny _ X.A (do let _ ← comprehension (.DictComp kx vx [⟨tg, iter, ifs, 0⟩] scope pos) scope X.env (firstIterPos [⟨tg, iter, ifs, 0⟩] pos) newDict false (eval iter X.env) (some (assign (.Name y py) X.env))) _ _ s
  have h : tDc wi g tt tk tv (own.map (·.2)) σ H (fun x H1 => gName i x σ H1 D.nx) := h
  refine wpAny_bind (thn (dc_core (Qf := fun _ s' => SP X pins D .next s') hc hN I hi ok hg ht hk he hs h fun L C s' m H' I' q hn f => ?_) fun _ s' hq => wpAny_pure (wpAny_pure hq))
  show wpAny _ _ (assign (.Name y py) X.env (.ref L)) _ _ _
  refine wpAny_assign_Name (store_ok2 (v := V.ref L) I' hN hy (.inl hyl) rfl (fun s2 I2 ⟨a, sb, ha⟩ => ?_) (.inr hyl))
  obtain ⟨f0, f1, f2, f3, f4, f5⟩ := f
  have haC : C ≠ a := by
    rcases ha with z | z
    · rw [z]; exact f1
    · exact fun e => f4 y a z e.symm
  refine ⟨m, hn.sameBut sb haC, fun h3 sb3 => ?_⟩
  exact ⟨_, H', I2.turned (t' := s2.toks) (fun b o hb e => (sb3.2 b hb).trans e) f0 f1 f3 f4 f5, q⟩
theorem sw_trueD {kx vx : Expr} {gs : List Comprehension} {scope : Scope} {pos py : Pos} {y : Str} {l : Nat} {env : Env} (hk : env.scope.kind = .function) (hy : env.scope.names.lookup y = some .local) (hl : (py.line == pos.line) = true)
    (ha : (scope.names.any fun (n, k) => n == y && (k == .local || k == .cell)) = false) : swapsWith (.DictComp kx vx gs scope pos) (some (.Name y py)) l env = pure true := by
  have ky : env.kindOf y = some .local := hy
  have hb : env.blockKind = .function := by unfold Env.blockKind; rw [hk]; rfl
  unfold swapsWith
  simp only [hb, ky, ha, Expr.pos, hl]
  rfl
end
end L2
namespace Wk
open PySem PySem.Spec PyProof.Rows L2 Evl
/-- the same as a statement: it is locked -/
theorem q_dcKeys {kvs : List (L2.Key × V)} {ks : List Int} {d : Addr} {n j i : Nat} {vs : List Nat} {σ : L2.St} {H : Hp} {tt : TT} {tv : TE} {tz : TS} {E : Ends} (f : Int → Bool) (g : Int → V) (hσ : σ[n]? = some (some (.ref d))) (hd : H d = some (.dK kvs)) (hk : kvs.map (·.1) = ks.map Sum.inl) (hn : ks.length ≤ 1000)
    (hw : ∀ x, wipe ((wipe σ vs).set j (some x)) vs = wipe σ vs) (hj : j < σ.length)
    (ht : ∀ k ∈ ks, ∀ H', (∀ b u, H b = some u → Rd H' b u) → (∀ b u, b ≠ d → H b = some u → H' b = some u) → EvT tt ((wipe σ vs).set j (some (.int k))) H' (f k))
    (hv : ∀ k ∈ ks, f k = true → ∀ H', (∀ b u, H b = some u → Rd H' b u) → (∀ b u, b ≠ d → H b = some u → H' b = some u) → Ev tv ((wipe σ vs).set j (some (.int k))) H' (g k))
    (hq : ∀ H' D, Ex H H' → H D = none → H' D = some (.dK (pf g (ks.filter f))) → tz E (σ.set i (some (.ref D))) H') : tSeq (tLock (tAsg (tDc (iKeys (tVar n)) (gName j) tt (tVar j) tv vs) (gName i))) tz E σ H := by
  have z := dc_keys (Q := fun v H' => tz E (σ.set i (some v)) H') f g hσ hd hk hn hw hj ht hv hq
  obtain ⟨d', u, h1, h2, h3⟩ := z
  exact ⟨d', u, h1, h2, fun od => h3 od⟩
end Wk

set_option Elab.async false
set_option linter.all false
set_option maxRecDepth 100000
set_option maxHeartbeats 2000000
namespace Wk
open PySem PySem.Spec PyProof.Rows L2 Evl
/-! what stays grows: by what is new, and by tuples -/
structure Gz (G H G' H' : Hp) : Prop where
  ex : Ex G G'
  hx : Ex H H'
  sub : Ex G' H'
  nw : ∀ b u, G b = none → H b = some u → (∀ xs, u ≠ .tup xs) → G' b = none
theorem Gz.refl {G H : Hp} (h : Ex G H) : Gz G H G H := ⟨Ex.refl _, Ex.refl _, h, fun _ _ h _ _ => h⟩
theorem Gz.trans {G H G1 H1 G2 H2 : Hp} (a : Gz G H G1 H1) (b : Gz G1 H1 G2 H2) : Gz G H G2 H2 :=
  ⟨a.ex.trans b.ex, a.hx.trans b.hx, b.sub, fun c u hc hh ht => b.nw c u (a.nw c u hc hh ht) (a.hx _ _ hh) ht⟩
theorem Gz.ext {G H H' : Hp} (h : Ex G H) (e : Ex H H') : Gz G H G H' := ⟨Ex.refl _, e, h.trans e, fun _ _ h _ _ => h⟩
theorem Gz.new {G H : Hp} {t : Addr} {o : HO} (h : Ex G H) (ht : H t = none) : Gz G H (upd G t o) (upd H t o) := by
  refine ⟨Ex.new (fresh_back h ht), Ex.new ht, fun b u hb => ?_, fun b u hb hh _ => ?_⟩
  · by_cases c : b = t
    · rw [c, upd_same] at hb ⊢; exact hb
    · rw [upd_ne c] at hb ⊢; exact h _ _ hb
  · rw [upd_ne (fun z => by rw [z, ht] at hh; cases hh)]; exact hb
theorem Gz.tup {G H : Hp} {t : Addr} {xs : List V} (h : Ex G H) (ht : H t = some (.tup xs)) : Gz G H (upd G t (.tup xs)) H := by
  refine ⟨fun b u hb => ?_, Ex.refl _, fun b u hb => ?_, fun b u hb hh hn => ?_⟩
  · by_cases c : b = t
    · have := h _ _ hb
      rw [c, ht] at this
      rw [c, upd_same]; exact this
    · rw [upd_ne c]; exact hb
  · by_cases c : b = t
    · rw [c, upd_same] at hb; rw [c, ht]; exact hb
    · rw [upd_ne c] at hb; exact h _ _ hb
  · have c : b ≠ t := fun z => by
      rw [z, ht] at hh
      cases hh
      exact hn _ rfl
    rw [upd_ne c]; exact hb
/-- what is new, laid after more has come -/
theorem Gz.put {G H H' : Hp} {t : Addr} {o : HO} (h : Ex G H) (ht : H t = none) (e : Ex H H') (ho : H' t = some o) : Gz G H (upd G t o) H' := by
  refine ⟨Ex.new (fresh_back h ht), e, fun b u hb => ?_, fun b u hb hh _ => ?_⟩
  · by_cases c : b = t
    · rw [c, upd_same] at hb; rw [c, ho]; exact hb
    · rw [upd_ne c] at hb; exact e _ _ (h _ _ hb)
  · rw [upd_ne (fun z => by rw [z, ht] at hh; cases hh)]; exact hb
/-! books -/
abbrev Ent := Nat × Nat
abbrev Bk := Nat → Option Ent
def entV (e : Ent) : List V := [.int (e.1 : Int), .int (e.2 : Int)]
/-- a dict of a router's entries -/
structure BkD (G : Hp) (kvs : List (L2.Key × V)) (ks : List Int) (n : Nat) (bk : Bk) : Prop where
  nk : NK kvs ks
  rg : ∀ k ∈ ks, 0 ≤ k ∧ k < (n : Int)
  at_ : ∀ k : Nat, (valV kvs (.inl (k : Int)) = none ∧ bk k = none) ∨ ∃ t e, valV kvs (.inl (k : Int)) = some (.ref t) ∧ bk k = some e ∧ G t = some (.tup (entV e))
def BkAt (G : Hp) (a : Addr) (n : Nat) (bk : Bk) : Prop := ∃ kvs ks, G a = some (.dK kvs) ∧ BkD G kvs ks n bk
theorem BkD.mono {G G' : Hp} (e : Ex G G') {kvs : List (L2.Key × V)} {ks : List Int} {n : Nat} {bk : Bk} (h : BkD G kvs ks n bk) : BkD G' kvs ks n bk :=
  ⟨h.nk, h.rg, fun k => (h.at_ k).imp id fun ⟨t, e', a, b, c⟩ => ⟨t, e', a, b, e _ _ c⟩⟩
theorem BkAt.mono {G G' : Hp} (e : Ex G G') {a : Addr} {n : Nat} {bk : Bk} (h : BkAt G a n bk) : BkAt G' a n bk := by
  obtain ⟨kvs, ks, h1, h2⟩ := h
  exact ⟨kvs, ks, e _ _ h1, h2.mono e⟩
theorem NK.mem {kvs : List (L2.Key × V)} {ks : List Int} (h : NK kvs ks) (k : Int) : k ∈ ks ↔ ∃ v, valV kvs (.inl k) = some v := by
  constructor
  · intro hk
    cases hv : valV kvs (.inl k) with
    | some v => exact ⟨v, rfl⟩
    | none => exact absurd (by rw [h.1]; exact List.mem_map.mpr ⟨k, hk, rfl⟩) (valV_not hv)
  · rintro ⟨v, hv⟩
    have := valV_in hv
    rw [h.1] at this
    obtain ⟨x, hx, e⟩ := List.mem_map.mp this
    injection e with e
    rw [← e]; exact hx
theorem BkD.mem {G : Hp} {kvs : List (L2.Key × V)} {ks : List Int} {n : Nat} {bk : Bk} (h : BkD G kvs ks n bk) (k : Nat) : (k : Int) ∈ ks ↔ ∃ e, bk k = some e := by
  rw [h.nk.mem]
  rcases h.at_ k with ⟨a, b⟩ | ⟨t, e, a, b, _⟩
  · rw [a, b]; simp
  · rw [a, b]; simp
theorem BkD.len {G : Hp} {kvs : List (L2.Key × V)} {ks : List Int} {n : Nat} {bk : Bk} (h : BkD G kvs ks n bk) : ks.length ≤ n := by
  have z := nd_le ks ((List.range n).map fun (i : Nat) => (i : Int)) h.nk.2 fun k hk => by
    have := h.rg k hk
    exact List.mem_map.mpr ⟨k.toNat, List.mem_range.mpr (by omega), by omega⟩
  simpa using z
theorem BkD.vlen {G : Hp} {kvs : List (L2.Key × V)} {ks : List Int} {n : Nat} {bk : Bk} (h : BkD G kvs ks n bk) : kvs.length ≤ n := by
  have := congrArg List.length h.nk.1
  rw [List.length_map, List.length_map] at this
  rw [this]; exact h.len
theorem BkD.get {G : Hp} {kvs : List (L2.Key × V)} {ks : List Int} {n : Nat} {bk : Bk} (h : BkD G kvs ks n bk) {k : Nat} {e : Ent} (he : bk k = some e) : ∃ t, valV kvs (.inl (k : Int)) = some (.ref t) ∧ G t = some (.tup (entV e)) := by
  rcases h.at_ k with ⟨a, b⟩ | ⟨t, e', a, b, c⟩
  · rw [b] at he; cases he
  · rw [b] at he; cases he; exact ⟨t, a, c⟩
theorem BkD.no {G : Hp} {kvs : List (L2.Key × V)} {ks : List Int} {n : Nat} {bk : Bk} (h : BkD G kvs ks n bk) {k : Nat} (he : bk k = none) : valV kvs (.inl (k : Int)) = none := by
  rcases h.at_ k with ⟨a, b⟩ | ⟨t, e', a, b, c⟩
  · exact a
  · rw [b] at he; cases he
theorem BkD.lt {G : Hp} {kvs : List (L2.Key × V)} {ks : List Int} {n : Nat} {bk : Bk} (h : BkD G kvs ks n bk) {k : Nat} {e : Ent} (he : bk k = some e) : k < n := by
  have := h.rg _ ((h.mem k).mpr ⟨e, he⟩)
  omega
theorem BkD.nil (G : Hp) (n : Nat) : BkD G [] [] n fun _ => none := ⟨⟨rfl, List.nodup_nil⟩, fun k hk => (by cases hk), fun k => .inl ⟨rfl, rfl⟩⟩
def setB (bk : Bk) (r : Nat) (e : Ent) : Bk := fun k => if k = r then some e else bk k
theorem BkD.put {G : Hp} {kvs : List (L2.Key × V)} {ks : List Int} {n r : Nat} {bk : Bk} {t : Addr} {e : Ent} (h : BkD G kvs ks n bk) (hr : r < n) (ht : G t = some (.tup (entV e))) : BkD G (putK kvs (.inl (r : Int)) (.ref t)) (if (r : Int) ∈ ks then ks else ks ++ [(r : Int)]) n (setB bk r e) := by
  refine ⟨h.nk.put _ _, fun k hk => ?_, fun k => ?_⟩
  · split at hk
    · exact h.rg k hk
    · rcases List.mem_append.mp hk with z | z
      · exact h.rg k z
      · rw [List.mem_singleton.mp z]; omega
  · rw [valV_put]
    unfold setB
    by_cases c : k = r
    · rw [if_pos (by rw [c]), if_pos c]
      exact .inr ⟨t, e, rfl, rfl, ht⟩
    · rw [if_neg (fun z => c (by injection z with z; omega)), if_neg c]
      exact h.at_ k
def gtN (x y : Ent) : Bool := gtE ((x.1 : Int), (x.2 : Int)) ((y.1 : Int), (y.2 : Int))
/-- which of the given entries are greater -/
def newer (own given : Bk) (k : Nat) : Bool :=
  match given k with
  | none => false
  | some g => match own k with
    | none => true
    | some e => gtN g e
def mergeB (own given : Bk) : Bk := fun k => if newer own given k = true then given k else own k
section
variable {σ : L2.St} {H : Hp} {ta tb te : TE}
theorem ev_gt {K : PySem.W.Frag} {a b : Addr} {x y : Ent} (h1 : Ev ta σ H (.ref a)) (h2 : Ev tb σ H (.ref b)) (ha : H a = some (.tup (entV x))) (hb : H b = some (.tup (entV y))) : Ev (tOp (rGtP K) ta tb) σ H (.bl (gtN x y)) := fun H1 e Q q =>
  h1 H1 e _ fun H2 e2 => h2 H2 (e.trans e2) _ fun H3 e3 => ⟨a, b, ((x.1 : Int), (x.2 : Int)), ((y.1 : Int), (y.2 : Int)), rfl, rfl, st_of (((e.trans e2).trans e3) _ _ ha), st_of (((e.trans e2).trans e3) _ _ hb), q H3 (e2.trans e3)⟩
theorem ev_isN {x : V} (h : Ev te σ H x) : EvT (tB (tIsN te)) σ H (decide (x = .non)) := fun H1 e Q q => h H1 e _ fun H2 e2 => ⟨_, rfl, q H2 e2⟩
theorem et_B' {b : Bool} (h : Ev te σ H (.bl b)) : EvT (tB te) σ H b := et_B h
end
theorem set_cut {xs : List V} {i : Nat} {v : V} (h : i < xs.length) : cutV xs none (some (i : Int)) ++ [v] ++ cutV xs (some ((i : Int) + 1)) none = xs.set i v := by
  rw [cut_to xs i (by omega), show ((i : Int) + 1) = ((i + 1 : Nat) : Int) by omega, cut_from xs (i + 1) (by omega), List.set_eq_take_append_cons_drop, if_pos h, List.append_assoc]
  rfl
section
variable {P : Program} {w : World} {K : PySem.W.Frag} {mg : Str → Option Value} {base : Heap} {f : Addr} {fd : FuncData}
/-! replaced -/
def spRepl : Sp := fun vs H Q _ => ∃ (a : Addr) (i : Nat) (v : V) (xs : List V), vs = [.ref a, .int (i : Int), v] ∧ H a = some (.tup xs) ∧ i < xs.length ∧ xs.length ≤ 1000 ∧ ∀ H' t, Ex H H' → H' t = some (.tup (xs.set i v)) → Q (.ref t) H'
abbrev sRepl : Stmt := top 17
abbrev nRepl : List Str := ["row", "place", "item"]
theorem scRepl : FnScope nRepl nRepl (defScope sRepl) := ⟨rfl, rfl, rfl, by decide +kernel, rfl, by decide +kernel, by decide +kernel⟩
theorem ok_repl (F : FnP K "replaced" sRepl f fd) : FnOk P w K mg base CX0 1 f fd nRepl spRepl := by
  refine F.ok scRepl (fun vs H Q E h => ?_) (fun cdv A outer s H vs Q E hr h => ?_)
  · obtain ⟨a, i, v, xs, rfl, _⟩ := h
    rfl
  · obtain ⟨a, i, v, xs, rfl, ha, hi, hx, k⟩ := h
    refine ⟨_, pss_one (ps_ret (pe_op op_catA (pe_op op_catA (pe_slice sl_tupA (pv 0) po_none (po_some (pv 1))) (pe_tup (pa_cons (pv 2) pa_nil))) (pe_slice sl_tupA (pv 0) (po_some (pe_op op_add (pv 1) pe_int)) po_none))), ?_⟩
    have l1 : (cutV xs none (some (i : Int))).length ≤ 1000 := by rw [cut_to xs i (by omega), List.length_take]; omega
    have l2 : (cutV xs (some ((i : Int) + 1)) none).length ≤ 1000 := by rw [show ((i : Int) + 1) = ((i + 1 : Nat) : Int) by omega, cut_from xs (i + 1) (by omega), List.length_drop]; omega
    have v0 : Ev (tVar 0) (start nRepl [V.ref a, V.int (i : Int), v]) H (.ref a) := ev_var rfl
    have ad : Ev (tOp (rI0 fun i j => .int (i + j)) (tVar 1) (tC (.int 1))) (start nRepl [V.ref a, V.int (i : Int), v]) H (.int ((i : Int) + 1)) := ev_op (ev_var rfl) ev_c rv_I0
    have e1 := es_cat (K := K) (es_cat (K := K) (es_sl (K := K) (lo := none) (hi := some (i : Int)) v0 eo_none (eo_some (te := tVar 1) (ev_var rfl)) ha) (es_tup (xs := [v]) (ea_cons (ta := tVar 2) (ev_var rfl) ea_nil) (by show 1 ≤ 100000; decide)) (by show _ + 1 ≤ _; omega))
      (es_sl (K := K) (lo := some ((i : Int) + 1)) (hi := none) v0 (eo_some ad) eo_none ha) (by rw [List.length_append]; show _ + 1 + _ ≤ _; omega)
    rw [set_cut hi] at e1
    exact e1 H (Ex.refl _) _ fun t H' e h => k H' t e h
/-! number_after -/
abbrev spNum : Sp := spP fun H vs z => ∃ v, vs = [v] ∧ ((v = .non ∧ z = .int 1) ∨ ∃ t e, v = .ref t ∧ H t = some (.tup (entV e)) ∧ z = .int ((e.1 : Int) + 1))
abbrev sNum : Stmt := top 26
theorem scNum : FnScope ["entry"] ["entry"] (defScope sNum) := ⟨rfl, rfl, rfl, by decide +kernel, rfl, by decide +kernel, by decide +kernel⟩
theorem ok_num (F : FnP K "number_after" sNum f fd) : FnOk P w K mg base CX0 1 f fd ["entry"] spNum := by
  refine F.ok scNum (fun vs H Q E h => ?_) (fun cdv A outer s H vs Q E hr h => ?_)
  · obtain ⟨z, ⟨v, rfl, _⟩, _⟩ := h
    rfl
  · obtain ⟨z, ⟨v, rfl, hz⟩, k⟩ := h
    refine ⟨_, pss_one (ps_ret (pe_ifExp (pt_cmp (pc_isN (pv 0))) pe_int (pe_op op_add (pe_ix ix_tup (pv 0) pe_int (fun _ _ => rfl)) pe_int))), ?_⟩
    refine s_ret (v := z) (ev_if (ev_isN (ev_var rfl)) (fun h => ?_) (fun h => ?_)) k
    · have h := of_decide_eq_true h
      rcases hz with ⟨_, rfl⟩ | ⟨t, e, rfl, _⟩
      · exact ev_c
      · cases h
    · have h := of_decide_eq_false h
      rcases hz with ⟨rfl, _⟩ | ⟨t, e, rfl, ht, rfl⟩
      · exact absurd rfl h
      · exact ev_op (ev_op (ev_var rfl) ev_c (rv_ixT (i := 0) (st_of ht) rfl)) ev_c rv_I0
/-! with_entry -/
def spWE : Sp := fun vs H Q _ => ∃ (G : Hp) (a t : Addr) (n r : Nat) (bk : Bk) (e : Ent), vs = [.ref a, .int (r : Int), .ref t] ∧ Ex G H ∧ BkAt G a n bk ∧ r < n ∧ n ≤ 8 ∧ H t = some (.tup (entV e)) ∧
  ∀ G' H' b, Gz G H G' H' → BkAt G' b n (setB bk r e) → Q (.ref b) H'
abbrev sWE : Stmt := top 27
abbrev nWE : List Str := ["book", "router", "entry", "changed", "key"]
theorem scWE : FnScope nWE ["book", "router", "entry"] (defScope sWE) := ⟨rfl, rfl, rfl, by decide +kernel, rfl, by decide +kernel, by decide +kernel⟩
theorem pf_self {G : Hp} {kvs : List (L2.Key × V)} {ks : List Int} {n : Nat} {bk : Bk} (h : BkD G kvs ks n bk) : ∃ js, BkD G (pf (fun k => (valV kvs (.inl k)).getD .non) (ks.filter fun _ => true)) js n bk := by
  have ef : ks.filter (fun _ => true) = ks := List.filter_eq_self.mpr fun _ _ => rfl
  rw [ef]
  obtain ⟨js, h1, h2, _⟩ := nk_pf (fun k => (valV kvs (.inl k)).getD .non) _ ks rfl
  refine ⟨js, h1, fun k hk => h.rg k ((h2 k).mp hk), fun k => ?_⟩
  rw [valV_pf _ _ _ ks rfl]
  by_cases c : (k : Int) ∈ ks
  · rw [if_pos c]
    obtain ⟨e, he⟩ := (h.mem k).mp c
    obtain ⟨t, h3, h4⟩ := h.get he
    rw [h3]
    exact .inr ⟨t, e, rfl, he, h4⟩
  · rw [if_neg c]
    refine .inl ⟨rfl, ?_⟩
    cases hb : bk k with
    | none => rfl
    | some e => exact absurd ((h.mem k).mpr ⟨e, hb⟩) c
theorem ok_we (F : FnP K "with_entry" sWE f fd) : FnOk P w K mg base CX0 1 f fd ["book", "router", "entry"] spWE := by
  refine F.ok scWE (fun vs H Q E h => ?_) (fun cdv A outer s H vs Q E hr h => ?_)
  · obtain ⟨G, a, t, n, r, bk, e, rfl, _⟩ := h
    rfl
  · obtain ⟨G, a, t, n, r, bk, e, rfl, eG, ⟨kvs, ks, ha, hb⟩, hr', hn, ht, k⟩ := h
    have hu : (A.deeper (envOfC "with_entry" (defScope sWE) s.heap.objs.size f cdv)).units + 1 < cLine := by have := hr.un; omega
    refine ⟨_, pss_cons (ps_lock (ps_setDc (i := 3) (own := [("key", 4)]) (g := gName 4) (tt := tYes) (tk := tVar 4) (tv := tDGet (tVar 0) (tVar 4)) rfl scWE.nd rfl rfl (sw_trueD rfl rfl rfl (by decide +kernel)) (pi_keys (pv 0)) (blkOk_by (N := nWE) (sc := defScope sWE) (by decide +kernel))
        (fun _ _ _ _ _ => pg_name (i := 4) scWE.nd rfl (Or.inl rfl)) (fun _ _ _ _ _ => pts_nil) (fun _ _ _ _ _ => pv 4) (fun _ _ _ _ _ => pe_dget hu (pv 0) (pv 4) (fun _ _ => rfl))))
      (pss_cons (ps_asg (pv 2) (pg_sub (pv 3) (pv 1) (set_dict hu)))
      (pss_one (ps_ret (pv 3)))), ?_⟩
    have hHa := eG _ _ ha
    have hl := hb.len
    refine q_dcKeys (ks := ks) (d := a) (n := 0) (fun _ => true) (fun k => (valV kvs (.inl k)).getD .non) rfl hHa hb.nk.1 (by omega) (fun x => rfl) (by show 4 < 5; decide) (fun k _ H' _ _ => et_yes) (fun k hk _ H' h1 _ => ?_) fun H1 D e1 nD hD => ?_
    · obtain ⟨v, hv⟩ := (hb.nk.mem k).mp hk
      rw [hv]
      exact ev_dget (kvs := kvs) (ev_var rfl) (ev_var rfl) (h1 _ _ hHa) hv
    · obtain ⟨js, hd⟩ := pf_self hb
      generalize pf (fun k => (valV kvs (.inl k)).getD .non) (ks.filter fun _ => true) = kv2 at *
      refine g_name ?_
      dsimp only
      refine ⟨.ref t, rfl, .ref D, rfl, .int (r : Int), rfl, D, _, rfl, .inl ⟨kv2, .inl (r : Int), hD, rfl, ?_, rfl⟩, .ref D, rfl, ?_⟩
      · have := hd.vlen
        rw [sizeLine_eq]; omega
      · have ht1 := e1 _ _ ht
        have gz1 := Gz.tup eG ht
        have nDt : D ≠ t := fun z => by rw [z, ht] at nD; cases nD
        have gz2 := Gz.put (o := .dK (putK kv2 (.inl (r : Int)) (.ref t))) gz1.sub nD (H' := upd H1 D (.dK (putK kv2 (.inl (r : Int)) (.ref t)))) (fun b u hb' => by
          rw [upd_ne (fun z => by rw [z, nD] at hb'; cases hb')]; exact e1 _ _ hb') upd_same
        have z := ((hd.mono gz1.ex).mono gz2.ex).put hr' (gz2.ex _ _ upd_same)
        exact k _ _ D (gz1.trans gz2) ⟨_, _, upd_same, z⟩
end
end Wk

set_option Elab.async false
set_option linter.all false
set_option maxRecDepth 100000
set_option maxHeartbeats 2000000
namespace Wk
open PySem PySem.Spec PyProof.Rows L2 Evl
theorem Gz.set {G H G1 H1 : Hp} {t : Addr} {o : HO} (a : Gz G H G1 H1) (ht : H t = none) (g : G1 t = none) : Gz G H (upd G1 t o) (upd H1 t o) := by
  refine ⟨a.ex.trans (Ex.new g), Ex.mut a.hx ht, fun b u hb => ?_, fun b u h1 h2 h3 => ?_⟩
  · by_cases c : b = t
    · rw [c, upd_same] at hb ⊢; exact hb
    · rw [upd_ne c] at hb ⊢; exact a.sub _ _ hb
  · rw [upd_ne (fun z => by rw [z, ht] at h2; cases h2)]
    exact a.nw b u h1 h2 h3
theorem keysV {kvs : List (L2.Key × V)} {ks : List Int} (h : NK kvs ks) : (kvs.map fun kv => kV kv.1) = ks.map V.int := by
  have e : (kvs.map fun kv => kV kv.1) = (kvs.map (·.1)).map kV := by rw [List.map_map]; rfl
  rw [e, h.1, List.map_map]
  rfl
theorem filter_yes {ks : List Int} : ks.filter (fun _ => true) = ks := List.filter_eq_self.mpr fun _ _ => rfl
def greaterB (own given : Bk) : Bk := fun k => if newer own given k = true then given k else none
def bumpB (g : Bk) (r : Nat) (co : Option Nat) : Bk := match g r, co with
  | some e, some c => setB g r (e.1 + 1, c)
  | _, _ => g
/-- the own entries, and over them the greater ones that came; the router's own comes back greater by one -/
def mergeX (own given : Bk) (r : Nat) (co : Option Nat) : Bk := fun k => match bumpB (greaterB own given) r co k with
  | some e => some e
  | none => own k
def oV : Option Nat → V
  | none => .non
  | some c => .int (c : Int)
theorem greater_bkd {G : Hp} {kvg : List (L2.Key × V)} {ksg : List Int} {n : Nat} {own given : Bk} (hg : BkD G kvg ksg n given) :
    ∃ js, BkD G (pf (fun k => (valV kvg (.inl k)).getD .non) (ksg.filter fun k => newer own given k.toNat)) js n (greaterB own given) := by
  obtain ⟨js, n1, n2, _⟩ := nk_pf (fun k => (valV kvg (.inl k)).getD .non) _ (ksg.filter fun k => newer own given k.toNat) rfl
  refine ⟨js, n1, fun k hk => hg.rg k (List.mem_filter.mp ((n2 k).mp hk)).1, fun k => ?_⟩
  rw [valV_pf _ _ _ (ksg.filter fun k => newer own given k.toNat) rfl]
  unfold greaterB
  by_cases hn : newer own given k = true
  · rw [if_pos hn]
    have hgk : ∃ g, given k = some g := by
      unfold newer at hn
      cases hgk : given k with
      | none => rw [hgk] at hn; cases hn
      | some g => exact ⟨g, rfl⟩
    obtain ⟨g, hgk⟩ := hgk
    rw [if_pos (List.mem_filter.mpr ⟨(hg.mem k).mpr ⟨g, hgk⟩, by rw [Int.toNat_natCast]; exact hn⟩)]
    obtain ⟨t, h4, h5⟩ := hg.get hgk
    rw [h4]
    exact .inr ⟨t, g, rfl, hgk, h5⟩
  · rw [if_neg hn, if_neg]
    · exact .inl ⟨rfl, rfl⟩
    · intro z
      have := (List.mem_filter.mp z).2
      rw [Int.toNat_natCast] at this
      exact hn this
theorem over_bkd {G : Hp} {kvo kv3 : List (L2.Key × V)} {kso js3 : List Int} {n : Nat} {own b3 : Bk} (ho : BkD G kvo kso n own) (h3 : BkD G kv3 js3 n b3) :
    ∃ js, BkD G (pf (fun k => (valV kv3 (.inl k)).getD ((valV kvo (.inl k)).getD .non)) ((kso ++ js3).filter fun _ => true)) js n (fun k => match b3 k with | some e => some e | none => own k) := by
  rw [filter_yes]
  obtain ⟨js, n1, n2, _⟩ := nk_pf (fun k => (valV kv3 (.inl k)).getD ((valV kvo (.inl k)).getD .non)) _ (kso ++ js3) rfl
  refine ⟨js, n1, fun k hk => ?_, fun k => ?_⟩
  · rcases List.mem_append.mp ((n2 k).mp hk) with z | z
    · exact ho.rg k z
    · exact h3.rg k z
  · rw [valV_pf _ _ _ (kso ++ js3) rfl]
    cases hb : b3 k with
    | some e =>
      obtain ⟨t, a1, a2⟩ := h3.get hb
      rw [if_pos (List.mem_append_right _ ((h3.mem k).mpr ⟨e, hb⟩)), a1]
      exact .inr ⟨t, e, rfl, rfl, a2⟩
    | none =>
      have a1 := h3.no hb
      rw [a1]
      cases hok : own k with
      | none =>
        rw [if_neg]
        · exact .inl ⟨rfl, rfl⟩
        · intro z
          rcases List.mem_append.mp z with z | z
          · obtain ⟨e, he⟩ := (ho.mem k).mp z
            rw [hok] at he; cases he
          · obtain ⟨e, he⟩ := (h3.mem k).mp z
            rw [hb] at he; cases he
      | some e =>
        rw [if_pos (List.mem_append_left _ ((ho.mem k).mpr ⟨e, hok⟩))]
        obtain ⟨t, h4, h5⟩ := ho.get hok
        rw [h4]
        exact .inr ⟨t, e, rfl, rfl, h5⟩
section
variable {P : Program} {w : World} {K : PySem.W.Frag} {mg : Str → Option Value} {base : Heap} {f : Addr} {fd : FuncData}
/-! with_greater -/
def spWG : Sp := fun vs H Q _ => ∃ (G : Hp) (a b : Addr) (n r : Nat) (own given : Bk) (co : Option Nat), vs = [.ref a, .ref b, .int (r : Int), oV co] ∧ Ex G H ∧ BkAt G a n own ∧ BkAt G b n given ∧ n ≤ 8 ∧ r < n ∧ (newer own given r = true → ∃ c, co = some c) ∧
  ∀ G' H' b, Gz G H G' H' → BkAt G' b n (mergeX own given r co) → Q (.ref b) H'
abbrev sWG : Stmt := top 28
abbrev nWG : List Str := ["own", "given", "router", "content", "greater", "key"]
theorem scWG : FnScope nWG ["own", "given", "router", "content"] (defScope sWG) := ⟨rfl, rfl, rfl, by decide +kernel, rfl, by decide +kernel, by decide +kernel⟩
theorem ok_wg (B : Bl mg) (CN : Cal P w K mg base "number_after" ["entry"] 1 spNum) (F : FnP K "with_greater" sWG f fd) : FnOk P w K mg base CX0 2 f fd ["own", "given", "router", "content"] spWG := by
  refine F.ok scWG (fun vs H Q E h => ?_) (fun cdv A outer s H vs Q E hr h => ?_)
  · obtain ⟨G, a, b, n, r, own, given, co, rfl, _⟩ := h
    rfl
  · obtain ⟨G, a, b, n, r, own, given, co, rfl, eG, ⟨kvo, kso, ha, ho⟩, ⟨kvg, ksg, hb, hg⟩, hn, hrn, hnw, k⟩ := h
    have hu : (A.deeper (envOfC "with_greater" (defScope sWG) s.heap.objs.size f cdv)).units + 1 < cLine := by have := hr.un; omega
    have hu0 : (A.deeper (envOfC "with_greater" (defScope sWG) s.heap.objs.size f cdv)).units < cLine := by omega
    refine ⟨_, pss_cons (ps_set (i := 4) scWG.nd rfl (Or.inr rfl) (pe_lock (pe_dc (own := [("key", 5)]) (g := gName 5) (tt := tOr (tB (tDNotIn (tVar 5) (tVar 0))) (tTest (tOp (rGtP K) (tDGet (tVar 1) (tVar 5)) (tDGet (tVar 0) (tVar 5))))) (tk := tVar 5) (tv := tDGet (tVar 1) (tVar 5)) rfl scWG.nd (pi_keys (pv 1)) (blkOk_by (N := nWG) (sc := defScope sWG) (by decide +kernel))
        (fun _ _ _ _ _ => pg_name (i := 5) scWG.nd rfl (Or.inl rfl)) (fun _ _ _ _ _ => pts_one (PW.pt (pw_or (pt_cmp (pc_dnotin hu (pv 5) (pv 0))) (pw_or1 (pt_cmpR (op_gtP (K := K) rfl hu0) (pe_dget hu (pv 1) (pv 5) (fun _ _ => rfl)) (pe_dget hu (pv 0) (pv 5) (fun _ _ => rfl)) rfl))))) (fun _ _ _ _ _ => pv 5) (fun _ _ _ _ _ => pe_dget hu (pv 1) (pv 5) (fun _ _ => rfl)))))
      (pss_cut (ps_if (pt_cmp (pc_din hu (pv 2) (pv 4))) (pss_one (ps_asg (pe_tup (pa_cons (pe_cal CN hr (by rfl) (pa_cons (pe_dget hu (pv 4) (pv 2) (fun _ _ => rfl)) pa_nil)) (pa_cons (pv 3) pa_nil))) (pg_sub (pv 4) (pv 2) (set_dict hu)))) pss_nil)
      (pss_one (ps_ret (pe_dc (own := [("key", 5)]) (g := gName 5) (tt := tYes) (tk := tVar 5) (tv := tDGet2 (tVar 4) (tVar 5) (tDGet1 (tVar 0) (tVar 5))) rfl scWG.nd (pi_list (pe_op op_cat (pe_callTy (call_listD rfl) (by rfl) B.list PyProof.Rows.boot_list (pa_cons (pv 0) pa_nil)) (pe_callTy (call_listD rfl) (by rfl) B.list PyProof.Rows.boot_list (pa_cons (pv 4) pa_nil)))) (blkOk_by (N := nWG) (sc := defScope sWG) (by decide +kernel))
        (fun _ _ _ _ _ => pg_name (i := 5) scWG.nd rfl (Or.inl rfl)) (fun _ _ _ _ _ => pts_nil) (fun _ _ _ _ _ => pv 5) (fun _ _ _ _ _ => pe_dget2 hu (pv 4) (pv 5) (pe_dget1 hu (pv 0) (pv 5) ⟨rfl, rfl, rfl, rfl⟩) ⟨rfl, rfl, rfl, rfl⟩))))), ?_⟩
    have hHa := eG _ _ ha
    have hHb := eG _ _ hb
    have hlo := ho.len
    have hlg := hg.len
    have ent : ∀ {k : Int} {ks : List Int} {kvs : List (L2.Key × V)} {bk : Bk}, BkD G kvs ks n bk → k ∈ ks → ∃ m : Nat, k = (m : Int) ∧ ∃ e t, bk m = some e ∧ valV kvs (.inl k) = some (.ref t) ∧ G t = some (.tup (entV e)) := fun {k ks kvs bk} hd hk => by
      have := hd.rg k hk
      obtain ⟨m, rfl⟩ : ∃ m : Nat, k = (m : Int) := ⟨k.toNat, by omega⟩
      obtain ⟨e, he⟩ := (hd.mem m).mp hk
      obtain ⟨t, h1, h2⟩ := hd.get he
      exact ⟨m, rfl, e, t, he, h1, h2⟩
    refine dc_keys (ks := ksg) (d := b) (n := 1) (fun k => newer own given k.toNat) (fun k => (valV kvg (.inl k)).getD .non) rfl hHb hg.nk.1 (by omega) (fun x => rfl) (by show 5 < 6; decide) (fun k hk H' h1 h2 => ?_) (fun k hk _ H' h1 _ => ?_) fun H1 D e1 nD hD => ?_
    · obtain ⟨m, rfl, g, tg, e1, e2, e3⟩ := ent hg hk
      have q1 := et_B' (ev_dnot (σ := (wipe (start nWG [V.ref a, V.ref b, V.int (r : Int), oV co]) [5]).set 5 (some (.int (m : Int)))) (H := H') (ta := tVar 0) (tb := tVar 5) (k := (m : Int)) (ev_var rfl) (ev_var rfl) (h1 _ _ hHa))
      rw [Int.toNat_natCast]
      unfold newer
      rw [e1]
      rcases ho.at_ m with ⟨a1, a2⟩ | ⟨t, e, a1, a2, a3⟩
      · rw [a1] at q1
        have z := et_or (b := true) q1 (u := tTest (tOp (rGtP K) (tDGet (tVar 1) (tVar 5)) (tDGet (tVar 0) (tVar 5)))) (fun z => by cases z)
        rw [a2]
        exact z
      · rw [a1] at q1
        have nt : ∀ {t e}, G t = some (.tup (entV e)) → H' t = some (.tup (entV e)) := fun {t e} ht => h2 _ _ (fun z => by have := eG _ _ ht; rw [z, hHb] at this; cases this) (eG _ _ ht)
        have z := et_or q1 (u := tTest (tOp (rGtP K) (tDGet (tVar 1) (tVar 5)) (tDGet (tVar 0) (tVar 5)))) (fun _ => et_test (ev_gt (ev_dget (ev_var rfl) (ev_var rfl) (h1 _ _ hHb) e2) (ev_dget (ev_var rfl) (ev_var rfl) (h1 _ _ hHa) a1) (nt e3) (nt a3)))
        rw [a2]
        exact z
    · obtain ⟨m, rfl, g, tg, e1, e2, e3⟩ := ent hg hk
      rw [e2]
      exact ev_dget (kvs := kvg) (ev_var rfl) (ev_var rfl) (h1 _ _ hHb) e2
    · obtain ⟨js3, h3⟩ := greater_bkd (own := own) hg
      generalize pf (fun k => (valV kvg (.inl k)).getD .non) (ksg.filter fun k => newer own given k.toNat) = kv3 at *
      refine g_name ?_
      dsimp only
      change tCut _ _ _ [some (.ref a), some (.ref b), some (.int (r : Int)), some (oV co), some (.ref D), none] H1
      have q1 := et_B' (ev_din (σ := [some (.ref a), some (.ref b), some (.int (r : Int)), some (oV co), some (.ref D), none]) (H := H1) (ta := tVar 4) (tb := tVar 2) (k := (r : Int)) (ev_var rfl) (ev_var rfl) (.inl hD))
      have nDG := fresh_back eG nD
      refine q_cut (M := fun σ' H' => σ' = [some (.ref a), some (.ref b), some (.int (r : Int)), some (oV co), some (.ref D), none] ∧ ∃ G3 kv3 js3, Gz G H G3 H' ∧ H' D = some (.dK kv3) ∧ BkD G3 kv3 js3 n (bumpB (greaterB own given) r co)) ?_ ?_
      · refine s_when q1 (fun hb2 H2 e2 => ?_) (fun hb2 H2 e2 => ?_)
        · have hge : ∃ g, greaterB own given r = some g := by
            rcases h3.at_ r with ⟨a1, _⟩ | ⟨t, e, _, a2, _⟩
            · rw [a1] at hb2; cases hb2
            · exact ⟨e, a2⟩
          obtain ⟨g, hg2⟩ := hge
          have hnr : newer own given r = true := by
            unfold greaterB at hg2
            split at hg2
            · assumption
            · cases hg2
          obtain ⟨c, rfl⟩ := hnw hnr
          obtain ⟨t, h4, h5⟩ := h3.get hg2
          have e02 := e1.trans e2
          have vn : Ev (tCall spNum [] E0 (tCons (tDGet (tVar 4) (tVar 2)) tNil)) [some (.ref a), some (.ref b), some (.int (r : Int)), some (oV (some c)), some (.ref D), none] H2 (.int ((g.1 + 1 : Nat) : Int)) :=
            ev_call (ea_cons (ev_dget (kvs := kv3) (ev_var rfl) (ev_var rfl) (.inl (e2 _ _ hD)) h4) ea_nil) (spP_v fun H3 e3 => ⟨_, rfl, .inr ⟨t, g, rfl, (e02.trans e3) _ _ (eG _ _ h5), by show V.int ((g.1 + 1 : Nat) : Int) = _; congr 1⟩⟩)
          refine (es_tup (xs := entV (g.1 + 1, c)) (ea_cons vn (ea_cons (ev_var (i := 3) rfl) ea_nil)) (by show 2 ≤ 100000; decide)) H2 (Ex.refl _) _ fun te H3 e3 hte => ?_
          have hD3 := e3 _ _ (e2 _ _ hD)
          have hl3 := h3.vlen
          refine ⟨.ref D, rfl, .int (r : Int), rfl, D, _, rfl, .inl ⟨kv3, .inl (r : Int), hD3, rfl, by rw [sizeLine_eq]; omega, rfl⟩, rfl, ?_⟩
          have gz := (Gz.ext eG (e02.trans e3)).trans (Gz.tup (eG.trans (e02.trans e3)) hte)
          have nDt : D ≠ te := fun z => by rw [z, hte] at hD3; cases hD3
          have z := (h3.mono gz.ex).put hrn upd_same
          have e : bumpB (greaterB own given) r (some c) = setB (greaterB own given) r (g.1 + 1, c) := by
            unfold bumpB
            rw [hg2]
          rw [← e] at z
          exact ⟨_, putK kv3 (.inl (r : Int)) (.ref te), _, ⟨gz.ex, Ex.mut gz.hx nD, Ex.mut gz.sub (by rw [upd_ne nDt]; exact nDG), gz.nw⟩, upd_same, z⟩
        · have hno : greaterB own given r = none := by
            rcases h3.at_ r with ⟨_, a1⟩ | ⟨t, e, a2, _, _⟩
            · exact a1
            · rw [a2] at hb2; cases hb2
          refine ⟨rfl, G, kv3, js3, Gz.ext eG (e1.trans e2), e2 _ _ hD, ?_⟩
          have e : bumpB (greaterB own given) r co = greaterB own given := by
            unfold bumpB
            rw [hno]
          rw [e]
          exact h3
      rintro σ' H2 ⟨rfl, G3, kv3, js3, gz3, hD2, h3⟩
      obtain ⟨js, hm⟩ := over_bkd (ho.mono gz3.ex) h3
      have n1 := h3.nk
      have n3 := h3.len
      have hlo := ho.len
      have hHa2 := gz3.hx _ _ hHa
      refine ⟨.ref a, rfl, a, kvo, rfl, .inl hHa2, fun l1 hl1 => ?_⟩
      have ex1 := Ex.new (o := .lst (kvo.map fun kv => kV kv.1)) hl1
      refine ⟨.ref D, rfl, D, kv3, rfl, .inl (ex1 _ _ hD2), fun l2 hl2 => ?_⟩
      have ex2 := Ex.new (o := .lst (kv3.map fun kv => kV kv.1)) hl2
      refine ⟨l1, l2, _, _, rfl, rfl, ex2 _ _ upd_same, upd_same, ?_, fun L hL => ?_⟩
      · rw [keysV ho.nk, keysV n1, List.length_map, List.length_map, sizeLine_eq]
        omega
      have ex3 := Ex.new (o := .lst ((kvo.map fun kv => kV kv.1) ++ kv3.map fun kv => kV kv.1)) hL
      have hLL : (upd (upd (upd H2 l1 (.lst (kvo.map fun kv => kV kv.1))) l2 (.lst (kv3.map fun kv => kV kv.1))) L (.lst ((kvo.map fun kv => kV kv.1) ++ kv3.map fun kv => kV kv.1))) L = some (.lst ((kso ++ js3).map V.int)) := by
        rw [upd_same, keysV ho.nk, keysV n1, List.map_append]
      have e23 := (ex1.trans ex2).trans ex3
      generalize upd (upd (upd H2 l1 (.lst (kvo.map fun kv => kV kv.1))) l2 (.lst (kv3.map fun kv => kV kv.1))) L (.lst ((kvo.map fun kv => kV kv.1) ++ kv3.map fun kv => kV kv.1)) = H3 at *
      refine ⟨L, rfl, ⟨_, sq_of hLL⟩, fun D4 hD4 => ?_⟩
      refine dc_it (H := H3) (ks := kso ++ js3) (fun _ => true) (fun k => (valV kv3 (.inl k)).getD ((valV kvo (.inl k)).getD .non)) walk_ints hD4 (by rw [List.length_append]; omega) (fun H' e => sq_of (e _ _ hLL)) (fun x => rfl) (by show 5 < 6; decide) (fun k hk H' e => et_yes) (fun k hk _ H' e => ?_) fun H' e hD5 => ?_
      · exact ev_dget2 (kvs := kv3) (ev_var rfl) (ev_var rfl) (ev_dget1 (kvs := kvo) (ev_var rfl) (ev_var rfl) (.inl (e _ _ (e23 _ _ hHa2))) rfl) (.inl (e _ _ (e23 _ _ hD2))) rfl
      · have gz := Gz.put gz3.sub (fresh_back e23 hD4) (e23.trans e) hD5
        exact k _ _ D4 (gz3.trans gz) ⟨_, _, upd_same, hm.mono gz.ex⟩
/-! first_book -/
def firstB (r : Nat) (co : Option Nat) : Bk := fun k => if k = r then co.map fun c => (1, c) else none
def spFB : Sp := fun vs H Q _ => ∃ (G : Hp) (n r : Nat) (co : Option Nat), vs = [.int (r : Int), oV co] ∧ Ex G H ∧ r < n ∧ ∀ G' H' b, Gz G H G' H' → BkAt G' b n (firstB r co) → Q (.ref b) H'
abbrev sFB : Stmt := top 29
theorem scFB : FnScope ["router", "content"] ["router", "content"] (defScope sFB) := ⟨rfl, rfl, rfl, by decide +kernel, rfl, by decide +kernel, by decide +kernel⟩
theorem ok_fb (CN : Cal P w K mg base "number_after" ["entry"] 1 spNum) (F : FnP K "first_book" sFB f fd) : FnOk P w K mg base CX0 2 f fd ["router", "content"] spFB := by
  refine F.ok scFB (fun vs H Q E h => ?_) (fun cdv A outer s H vs Q E hr h => ?_)
  · obtain ⟨G, n, r, co, rfl, _⟩ := h
    rfl
  · obtain ⟨G, n, r, co, rfl, eG, hrn, k⟩ := h
    refine ⟨_, pss_one (ps_ret (pe_ifExp (pt_cmp (pc_isN (pv 1))) pe_dnewK (pe_disp (pps_cons (pv 0) (pe_tup (pa_cons (pe_cal CN hr (by rfl) (pa_cons pe_non pa_nil)) (pa_cons (pv 1) pa_nil))) pps_nil) rfl rfl (by simp) (by decide)))), ?_⟩
    unfold tRet tIf
    dsimp only
    refine (ev_isN (te := tVar 1) (σ := [some (.int (r : Int)), some (oV co)]) (x := oV co) (ev_var rfl)) H (Ex.refl _) _ fun H1 e1 => ?_
    have eG1 := eG.trans e1
    cases co with
    | none =>
      rw [decide_eq_true (show oV none = V.non from rfl)]
      simp only [if_true]
      intro D hD
      have gz := (Gz.ext eG e1).trans (Gz.new (o := .dK []) eG1 hD)
      refine k _ _ D gz ⟨[], [], upd_same, ?_⟩
      have z := BkD.nil (upd G D (.dK [])) n
      have e : firstB r none = fun _ => none := by
        funext k
        unfold firstB
        split <;> rfl
      rw [e]
      exact z
    | some c =>
      rw [decide_eq_false (show ¬ oV (some c) = V.non from fun z => by cases z)]
      simp only [Bool.false_eq_true, if_false]
      intro D hD
      have gD := fresh_back eG1 hD
      refine ⟨.int (r : Int), rfl, ?_⟩
      have vn : Ev (tCall spNum [] E0 (tCons (tC .non) tNil)) [some (.int (r : Int)), some (oV (some c))] (upd H1 D (.dK [])) (.int ((1 : Nat) : Int)) := ev_call (ea_cons ev_c ea_nil) (spP_v fun H3 e3 => ⟨_, rfl, .inl ⟨rfl, rfl⟩⟩)
      have eN := Ex.new (o := .dK []) hD
      refine (es_tup (xs := entV (1, c)) (ea_cons vn (ea_cons (ev_var (i := 1) rfl) ea_nil)) (by show 2 ≤ 100000; decide)) _ (Ex.refl _) _ fun te H3 e3 hte => ?_
      have hD3 : H3 D = some (.dK []) := e3 _ _ upd_same
      refine ⟨hD3, [(.inl (r : Int), .ref te)], rfl, by show 1 ≤ 15; decide, ?_⟩
      have nDt : D ≠ te := fun z => by rw [z, hte] at hD3; cases hD3
      have gz1 := (Gz.ext eG (e1.trans (eN.trans e3))).trans (Gz.tup (eG.trans (e1.trans (eN.trans e3))) hte)
      have gD1 : (upd G te (.tup (entV (1, c)))) D = none := by rw [upd_ne nDt]; exact fresh_back eG (fresh_back e1 hD)
      have gz2 := gz1.set (o := .dK (mergeK [] [(.inl (r : Int), .ref te)])) (fresh_back e1 hD) gD1
      have z := (BkD.nil (upd (upd G te (.tup (entV (1, c)))) D (.dK (mergeK [] [(.inl (r : Int), .ref te)]))) n).put hrn (t := te) (e := (1, c)) (by rw [upd_ne (Ne.symm nDt)]; exact upd_same)
      have e : firstB r (some c) = setB (fun _ => none) r (1, c) := by
        funext k
        unfold firstB setB
        split <;> rfl
      rw [← e] at z
      exact k _ _ D gz2 ⟨_, _, upd_same, z⟩
end
end Wk

set_option Elab.async false
set_option linter.all false
set_option maxRecDepth 100000
set_option maxHeartbeats 2000000
namespace Wk
open PySem PySem.Spec PyProof.Rows L2 Evl
def Deed.word : Deed → Str
  | .pas _ _ => "pass"
  | .los _ _ => "lose"
  | .rst _ => "restart"
  | .wri _ _ => "write"
def Deed.one : Deed → Nat
  | .pas a _ => a
  | .los a _ => a
  | .rst r => r
  | .wri r _ => r
theorem Deed.at0 (x : Deed) : atI x.vs 0 = some (.str x.word) := by cases x <;> exact atI_nat (j := 0) rfl
theorem Deed.at1 (x : Deed) : atI x.vs 1 = some (.int (x.one : Int)) := by cases x <;> exact atI_nat (j := 1) rfl
def isWri : Deed → Bool
  | .wri _ _ => true
  | _ => false
def isPas : Deed → Bool
  | .pas _ _ => true
  | _ => false
theorem word_wri (x : Deed) : decide (V.str x.word = V.str "write") = isWri x := by
  cases x with
  | pas a b => exact show decide (V.str "pass" = V.str "write") = false by decide +kernel
  | los a b => exact show decide (V.str "lose" = V.str "write") = false by decide +kernel
  | rst r => exact show decide (V.str "restart" = V.str "write") = false by decide +kernel
  | wri r c => exact show decide (V.str "write" = V.str "write") = true by decide +kernel
theorem word_pas (x : Deed) : decide (V.str x.word = V.str "pass") = isPas x := by
  cases x with
  | pas a b => exact show decide (V.str "pass" = V.str "pass") = true by decide +kernel
  | los a b => exact show decide (V.str "lose" = V.str "pass") = false by decide +kernel
  | rst r => exact show decide (V.str "restart" = V.str "pass") = false by decide +kernel
  | wri r c => exact show decide (V.str "write" = V.str "pass") = false by decide +kernel

theorem g_two {i j : Nat} {x y : V} {σ : L2.St} {H : Hp} {k : L2.St → Hp → Prop} (h : k ((σ.set i (some x)).set j (some y)) H) : gCons (gName i) (gCons (gName j) gNil) [x, y] σ H k := ⟨_, _, rfl, ⟨_, _, rfl, ⟨rfl, h⟩⟩⟩
/-- two targets -/
theorem grow_lc2 {K : PySem.W.Frag} {J : It} {n : Nat} {Gd : Hp → Prop} {Y : Nat → V → Hp → Prop} {j1 j2 : Nat} {vs : List Nat} {σ : L2.St} {H : Hp} {D : Addr} {Qd : Hp → Prop} {te : TE} (u v : Nat → V)
    (w : Walk J n Gd (fun i H' x H'' => H'' = H' ∧ ∃ a, x = .ref a ∧ H a = some (.tup [u i, v i]))) (hY : GoodY Y) (hD : H D = none) (hn : n ≤ 40000) (hG : ∀ H', Ex H H' → Gd H') (hw : ∀ x y, wipe (((wipe σ vs).set j1 (some x)).set j2 (some y)) vs = wipe σ vs)
    (he : ∀ i H', Ex H H' → i < n → EvY te (((wipe σ vs).set j1 (some (u i))).set j2 (some (v i))) H' (Y i))
    (hq : ∀ us H', Ex H H' → H' D = some (.lst us) → Grown Y H' (upTo (fun _ => true) n) us → Qd H') :
    ∃ W : Nat → Nat → Hp → Prop, (∃ m, W 0 m (upd H D (.lst []))) ∧ ∀ i m H, W i m H →
      (J.stop i H ∧ Qd H) ∨ (J.go i H ∧ ∃ Nx : Hp → Prop, (∀ H', Nx H' → ∃ m', m' < m ∧ W (i + 1) m' H') ∧ ∀ x H', J.yld i H x H' → gTup K 2 (gCons (gName j1) (gCons (gName j2) gNil)) x (wipe σ vs) H' fun σ2 H2 => wipe σ2 vs = wipe σ vs ∧ tYes σ2 H2 fun b H3 =>
        if b = true then te σ2 H3 fun y H4 => ∃ acc, H4 D = some (.lst acc) ∧ acc.length < sizeLine ∧ Nx (upd H4 D (.lst (acc ++ [y]))) else Nx H3) := by
  refine lc_it w (Gw Y H (fun _ => true) D) ⟨hD, Ex.new hD, [], upd_same, rfl⟩ (fun i H' _ p => hG H' p.2.1) (fun i x H' H2 hi p y => ?_) (fun H' p => ?_)
  · obtain ⟨rfl, a, rfl, ha⟩ := y
    exact ⟨a, _, rfl, st_of (p.2.1 _ _ ha), rfl, g_two ⟨hw _ _, gw_turn hY p (by omega) et_yes (fun _ => he i _ p.2.1 hi)⟩⟩
  · obtain ⟨_, e, us, d, g⟩ := p
    exact hq us H' e d (g.up hY.up (off_in D H'))
section
variable {K : PySem.W.Frag} {σ : L2.St} {H : Hp} {t : TT} {te tl ta tb : TE}
theorem el_lcS {xs : List V} {j : Nat} {vs : List Nat} (f : Nat → Bool) (v : Nat → V) (h : EvS tl σ H xs) (hz : xs.length ≤ 40000) (hw : ∀ x, wipe ((wipe σ vs).set j (some x)) vs = wipe σ vs)
    (ht : ∀ (i : Nat) (x : V) H1, Ex H H1 → xs[i]? = some x → EvT t ((wipe σ vs).set j (some x)) H1 (f i)) (he : ∀ (i : Nat) (x : V) H1, Ex H H1 → xs[i]? = some x → f i = true → Ev te ((wipe σ vs).set j (some x)) H1 (v i)) :
    EvL (tLc (iTup K tl) (gName j) t te vs) σ H (given xs.length f v) := fun H0 e Q q => h H0 e _ fun p H1 e1 hp => by
  have z := el_lcT (K := K) (σ := σ) (H := H1) (t := t) (te := te) (j := j) (vs := vs) (tl := tC (.ref p)) f v ev_c (st_of hp) hz hw (fun i x H2 e2 hx => ht i x H2 ((e.trans e1).trans e2) hx) (fun i x H2 e2 hx hf => he i x H2 ((e.trans e1).trans e2) hx hf)
  exact z H1 (Ex.refl _) Q fun l H2 hl e2 h2 => q l H2 (fresh_back e1 hl) (e1.trans e2) h2
theorem ev_all_yes {n : Nat} {tl : TE} (h : EvL tl σ H (given n (fun _ => true) fun _ => .bl true)) : Ev (tCB (rAll K) (tCons tl tNil)) σ H (.bl true) := by
  have e : given n (fun _ => true) (fun _ => V.bl true) = (List.replicate n true).map V.bl := by
    rw [given_all]
    apply List.ext_getElem
    · simp
    · intro i h1 h2
      simp
  rw [e] at h
  have z := ev_allL (K := K) h
  rw [show (List.replicate n true).all id = true by simp] at z
  exact z
theorem ev_isi2 {v : V} {d : PyData} {n m : String} {b c : Bool} (h : Ev ta σ H v) (hd : Dq H v d) (h1 : kitB (tyN d) n = some b) (h2 : kitB (tyN d) m = some c) :
    Ev (tCB (rIsiT K) (tCons ta (tCons (tTup (tCons (tC (.ty n)) (tCons (tC (.ty m)) tNil))) tNil))) σ H (.bl (b || c)) := fun H1 e Q q =>
  h H1 e _ fun H2 e2 => ⟨by show 2 ≤ sizeLine; decide, fun p hp => ⟨v, p, [.ty n, .ty m], .type (tyN d), [.type n, .type m], b || c, rfl, upd_same, .cons (.ty n) (.cons (.ty m) .nil), (hd.mono ((e.trans e2).trans (Ex.new hp))).ty,
    kitAny_cons (kit_ty h1) (fun hb => kitAny_cons (kit_ty h2) (fun hc => by rw [hb, hc]; exact kitAny_nil) (fun hc => by rw [hc]; simp)) (fun hb => by rw [hb]; rfl), q _ (e2.trans (Ex.new hp))⟩⟩
theorem ev_inDw {x : Wy} {a : Addr} {us : List V} {ws : List Wy} (ha : EvS ta σ H (x.map V.int)) (hb : Ev tb σ H (.ref a)) (hl : H a = some (.lst us)) (hus : DqA H us (ws.map wd)) : Ev (tOp (rInD K) ta tb) σ H (.bl (decide (x ∈ ws))) := fun H1 e Q q =>
  ha H1 e _ fun p H2 e2 hp => hb H2 (e.trans e2) _ fun H3 e3 => by
    have e03 := (e.trans e2).trans e3
    refine ⟨wd x, ws.map wd, Dq.dp ?_ (wd_of (e3 _ _ hp)), Dq.dp ?_ (.lst (e03 _ _ hl) (hus.mono e03)), shaped_ints x, shaped_wds ws, ?_⟩
    · simp [wd, PyData.canLay0, lay_ints]
    · simp [PyData.canLay0, lay_wds]
    · rw [any_wd]
      exact q H3 (e2.trans e3)
end
theorem k_ll : kitB "list" "list" = some true := by decide +kernel
theorem k_lt : kitB "list" "tuple" = some false := by decide +kernel
theorem k_ss : kitB "str" "str" = some true := by decide +kernel
section
variable {P : Program} {w : World} {K : PySem.W.Frag} {mg : Str → Option Value} {base : Heap} {f : Addr} {fd : FuncData}
/-! is_row of a list -/
abbrev spIsRow : Sp := spP fun H vs z => ∃ (v : V) (ds : List PyData), vs = [v] ∧ Dq H v (.list ds) ∧ z = .bl true
abbrev sIsRow : Stmt := top 10
theorem scIsRow : FnScope ["thing"] ["thing"] (defScope sIsRow) := ⟨rfl, rfl, rfl, by decide +kernel, rfl, by decide +kernel, by decide +kernel⟩
theorem ok_isRow (B : Bl mg) (F : FnP K "is_row" sIsRow f fd) : FnOk P w K mg base CX0 1 f fd ["thing"] spIsRow := by
  refine F.ok scIsRow (fun vs H Q E h => ?_) (fun cdv A outer s H vs Q E hr h => ?_)
  · obtain ⟨z, ⟨v, d, rfl, _⟩, _⟩ := h
    rfl
  · obtain ⟨z, ⟨v, d, rfl, hv, rfl⟩, k⟩ := h
    exact ⟨_, pss_one (ps_ret (pe_callB call_isiT (by rfl) B.isi boot_isinstance (pa_cons (pv 0) (pa_cons (pe_tup (pa_cons (pe_bltn (v := .ty "list") (by rfl) B.list PyProof.Rows.boot_list rfl) (pa_cons (pe_bltn (v := .ty "tuple") (by rfl) B.tuple PyProof.Rows.boot_tuple rfl) pa_nil))) pa_nil)))),
      s_ret (ev_isi2 (ev_var rfl) hv k_ll k_lt) k⟩
/-! is_tuple_of -/
abbrev spTupOf : Sp := spP fun H vs z => ∃ (m : Int) (a : Addr) (ds : List PyData), vs = [.int m, .ref a] ∧ Dq H (.ref a) (.tuple ds) ∧ z = .bl (decide (V.int (ds.length : Int) = V.int m))
abbrev sTupOf : Stmt := top 11
theorem scTupOf : FnScope ["many", "thing"] ["many", "thing"] (defScope sTupOf) := ⟨rfl, rfl, rfl, by decide +kernel, rfl, by decide +kernel, by decide +kernel⟩
theorem ok_tupOf (B : Bl mg) (F : FnP K "is_tuple_of" sTupOf f fd) : FnOk P w K mg base CX0 1 f fd ["many", "thing"] spTupOf := by
  refine F.ok scTupOf (fun vs H Q E h => ?_) (fun cdv A outer s H vs Q E hr h => ?_)
  · obtain ⟨z, ⟨m, v, ds, rfl, _⟩, _⟩ := h
    rfl
  · obtain ⟨z, ⟨m, a, ds, rfl, hv, rfl⟩, k⟩ := h
    refine ⟨_, pss_one (ps_ret (pe_and (pe_callB call_isi (by rfl) B.isi boot_isinstance (pa_cons (pv 1) (pa_cons (pe_bltn (v := .ty "tuple") (by rfl) B.tuple PyProof.Rows.boot_tuple rfl) pa_nil)))
      (pe_one (pe_cmpR op_eq (pe_callB call_len_seq (by rfl) B.len PySem.boot_len (pa_cons (pv 1) pa_nil)) (pv 0) (nomark _))))), ?_⟩
    have v1 : Ev (tVar 1) (start ["many", "thing"] [.int m, .ref a]) H (.ref a) := ev_var rfl
    have v0 : Ev (tVar 0) (start ["many", "thing"] [.int m, .ref a]) H (.int m) := ev_var rfl
    cases hv with
    | @tup _ xs _ h1 h2 =>
      rw [← h2.length] at k
      have z := ev_andV (a := true) (ev_isi (K := K) v1 (.tup h1 h2) (show kitB "tuple" "tuple" = some true by decide +kernel)) fun _ => ev_op (r := rEq) (ev_lenT (K := K) v1 (st_of h1)) v0 (rv_eq rfl)
      exact s_ret z k
/-! is_router_pair -/
abbrev spRPair : Sp := spP fun H vs z => ∃ (n : Nat) (a : Addr) (p : Wy), vs = [.int (n : Int), .ref a] ∧ H a = some (.tup (p.map V.int)) ∧ PrOk n p ∧ z = .bl true
abbrev sRPair : Stmt := top 15
theorem scRPair : FnScope ["size", "thing"] ["size", "thing"] (defScope sRPair) := ⟨rfl, rfl, rfl, by decide +kernel, rfl, by decide +kernel, by decide +kernel⟩
theorem isR_yes {n : Nat} {u : Nat} (h : u < n) : isR (n : Int) (.int (u : Int)) = true := by
  unfold isR isI valI
  rw [decide_eq_true (show (0 : Int) ≤ u by omega), decide_eq_true (show (u : Int) ≤ (n : Int) - 1 by omega)]
  rfl
theorem ok_rPair (CT : Cal P w K mg base "is_tuple_of" ["many", "thing"] 1 spTupOf) (CR : Cal P w K mg base "is_router" ["size", "thing"] 3 spRouter) (F : FnP K "is_router_pair" sRPair f fd) : FnOk P w K mg base CX0 4 f fd ["size", "thing"] spRPair := by
  refine F.ok scRPair (fun vs H Q E h => ?_) (fun cdv A outer s H vs Q E hr h => ?_)
  · obtain ⟨z, ⟨n, v, ds, rfl, _⟩, _⟩ := h
    rfl
  · obtain ⟨z, ⟨n, a, p, rfl, ha, ⟨u, v, rfl, hu, hv, _⟩, rfl⟩, k⟩ := h
    refine ⟨_, pss_one (ps_ret (pe_and (pe_cal CT hr (by rfl) (pa_cons pe_int (pa_cons (pv 1) pa_nil))) (pe_and (pe_cal CR hr (by rfl) (pa_cons (pv 0) (pa_cons (pe_ix ix_tup (pv 1) pe_int (fun _ _ => rfl)) pa_nil)))
      (pe_one (pe_cal CR hr (by rfl) (pa_cons (pv 0) (pa_cons (pe_ix ix_tup (pv 1) pe_int (fun _ _ => rfl)) pa_nil))))))), ?_⟩
    have v1 : Ev (tVar 1) (start ["size", "thing"] [.int (n : Int), .ref a]) H (.ref a) := ev_var rfl
    have v0 : Ev (tVar 0) (start ["size", "thing"] [.int (n : Int), .ref a]) H (.int (n : Int)) := ev_var rfl
    have c1 : Ev (tCall spTupOf [] E0 (tCons (tC (.int 2)) (tCons (tVar 1) tNil))) (start ["size", "thing"] [.int (n : Int), .ref a]) H (.bl true) := ev_call (ea_cons ev_c (ea_cons v1 ea_nil)) (spP_v fun H1 e => ⟨2, a, [.int (u : Int), .int (v : Int)], rfl, .tup (e _ _ ha) (DqA.ints [(u : Int), (v : Int)]), rfl⟩)
    have c2 : Ev (tCall spRouter [] E0 (tCons (tVar 0) (tCons (tOp (rIxT K) (tVar 1) (tC (.int 0))) tNil))) (start ["size", "thing"] [.int (n : Int), .ref a]) H (.bl true) := ev_call (ea_cons v0 (ea_cons (ev_op v1 ev_c (rv_ixT (i := 0) (st_of ha) rfl)) ea_nil)) (spP_v fun H1 e => ⟨(n : Int), _, .int (u : Int), rfl, .int _, by rw [isR_yes hu]⟩)
    have c3 : Ev (tCall spRouter [] E0 (tCons (tVar 0) (tCons (tOp (rIxT K) (tVar 1) (tC (.int 1))) tNil))) (start ["size", "thing"] [.int (n : Int), .ref a]) H (.bl true) := ev_call (ea_cons v0 (ea_cons (ev_op v1 ev_c (rv_ixT (i := 1) (st_of ha) rfl)) ea_nil)) (spP_v fun H1 e => ⟨(n : Int), _, .int (v : Int), rfl, .int _, by rw [isR_yes hv]⟩)
    exact s_ret (ev_andV c1 fun _ => ev_andV c2 fun _ => c3) k
/-! is_row_of_unlike_pairs -/
abbrev spUnl : Sp := spP fun H vs z => ∃ (n : Nat) (l : Addr) (us : List V) (prs : List Wy), vs = [.int (n : Int), .ref l] ∧ H l = some (.lst us) ∧ DqA H us (prs.map wd) ∧ (∀ p ∈ prs, PrOk n p) ∧ prs.length ≤ 1000 ∧ z = .bl true
abbrev sUnl : Stmt := top 16
abbrev nUnl : List Str := ["size", "thing", "pair"]
theorem scUnl : FnScope nUnl ["size", "thing"] (defScope sUnl) := ⟨rfl, rfl, rfl, by decide +kernel, rfl, by decide +kernel, by decide +kernel⟩
theorem ok_unl (B : Bl mg) (CI : Cal P w K mg base "is_row" ["thing"] 1 spIsRow) (CP : Cal P w K mg base "is_router_pair" ["size", "thing"] 4 spRPair) (F : FnP K "is_row_of_unlike_pairs" sUnl f fd) : FnOk P w K mg base CX0 5 f fd ["size", "thing"] spUnl := by
  refine F.ok scUnl (fun vs H Q E h => ?_) (fun cdv A outer s H vs Q E hr h => ?_)
  · obtain ⟨z, ⟨n, v, ds, us, rfl, _⟩, _⟩ := h
    rfl
  · obtain ⟨z, ⟨n, l, us, prs, rfl, hl, hus, hok, hpl, rfl⟩, k⟩ := h
    refine ⟨_, pss_one (ps_ret (pe_and (pe_cal CI hr (by rfl) (pa_cons (pv 1) pa_nil)) (pe_one (pe_callB (cr_all rfl) (by rfl) B.all boot_all (pa_cons
      (pe_lc (own := [("pair", 2)]) (g := gName 2) (tt := tYes) (te := tAndV (tCall spRPair [] E0 (tCons (tVar 0) (tCons (tVar 2) tNil))) (tOp rNe (tOp (rIxT K) (tVar 2) (tC (.int 0))) (tOp (rIxT K) (tVar 2) (tC (.int 1))))) rfl scUnl.nd (pi_list (pv 1)) (blkOk_by (N := nUnl) (sc := defScope sUnl) (by decide +kernel))
        (fun _ _ _ _ _ => pg_name (i := 2) scUnl.nd rfl (Or.inl rfl)) (fun _ _ _ _ _ => pts_nil) (fun _ _ _ _ _ => pe_and (pe_cal CP hr (by rfl) (pa_cons (pv 0) (pa_cons (pv 2) pa_nil))) (pe_one (pe_cmpR op_ne (pe_ix ix_tup (pv 2) pe_int (fun _ _ => rfl)) (pe_ix ix_tup (pv 2) pe_int (fun _ _ => rfl)) rfl)))) pa_nil))))), ?_⟩
    have hul := hus.length
    rw [List.length_map] at hul
    have c1 : Ev (tCall spIsRow [] E0 (tCons (tVar 1) tNil)) (start nUnl [.int (n : Int), .ref l]) H (.bl true) := ev_call (ea_cons (ev_var rfl) ea_nil) (spP_v fun H1 e => ⟨_, prs.map wd, rfl, .lst (e _ _ hl) (hus.mono e), rfl⟩)
    refine s_ret (ev_andV c1 fun _ => ev_all_yes (n := us.length) (el_lcL (K := K) (fun _ => true) (fun _ => .bl true) (ev_var rfl) (sq_of hl) (by omega) (fun x => rfl) (fun _ _ _ _ _ => et_yes) fun i x H1 e hx _ => ?_)) k
    obtain ⟨p, h1, h2⟩ := DqA.wds_inv hus hx
    obtain ⟨a, rfl, ha⟩ := wd_ref h2
    have hp := hok p (List.mem_of_getElem? h1)
    have hp2 := hp
    obtain ⟨u, v, rfl, hu, hv, hne⟩ := hp
    have ha1 := e _ _ ha
    have q2 : Ev (tVar 2) ((wipe (start nUnl [.int (n : Int), .ref l]) [2]).set 2 (some (.ref a))) H1 (.ref a) := ev_var rfl
    have z1 : Ev (tCall spRPair [] E0 (tCons (tVar 0) (tCons (tVar 2) tNil))) ((wipe (start nUnl [.int (n : Int), .ref l]) [2]).set 2 (some (.ref a))) H1 (.bl true) := ev_call (ea_cons (ev_var rfl) (ea_cons q2 ea_nil)) (spP_v fun H2 e2 => ⟨n, a, _, rfl, e2 _ _ ha1, hp2, rfl⟩)
    have z2 := ev_op (r := rNe) (ev_op q2 ev_c (rv_ixT (K := K) (i := 0) (v := .int (u : Int)) (st_of ha1) rfl)) (ev_op q2 ev_c (rv_ixT (K := K) (i := 1) (v := .int (v : Int)) (st_of ha1) rfl)) (rv_ne rfl)
    have hd : (!decide (V.int (u : Int) = V.int (v : Int))) = true := by
      rw [decide_eq_false]
      · rfl
      · intro z
        injection z with z
        omega
    rw [hd] at z2
    exact ev_andV z1 fun _ => z2
/-! is_size, refuse_wrong_flood -/
abbrev spSize : Sp := spP fun H vs z => ∃ (a : Int) (v : V) (d : PyData), vs = [.int a, v] ∧ Dq H v d ∧ z = .bl (isI d && (decide (a ≤ valI d) && decide (valI d ≤ 8)))
abbrev sSize : Stmt := top 14
theorem scSize : FnScope ["least", "thing"] ["least", "thing"] (defScope sSize) := ⟨rfl, rfl, rfl, by decide +kernel, rfl, by decide +kernel, by decide +kernel⟩
theorem ok_size {t8 : Tok} (hM : mg "MOST_ROUTERS" = some (.int 8 t8)) (C : Cal P w K mg base "is_between" ["least", "most", "thing"] 2 spBetween) (F : FnP K "is_size" sSize f fd) : FnOk P w K mg base CX0 3 f fd ["least", "thing"] spSize := by
  refine F.ok scSize (fun vs H Q E h => ?_) (fun cdv A outer s H vs Q E hr h => ?_)
  · obtain ⟨z, ⟨n, v, d, rfl, _⟩, _⟩ := h
    rfl
  · obtain ⟨z, ⟨n, v, d, rfl, hd, rfl⟩, k⟩ := h
    refine ⟨_, pss_one (ps_ret (pe_cal C hr (by rfl) (pa_cons (pv 0) (pa_cons (pe_glob (v := .int 8) (by rfl) hM ⟨_, rfl⟩) (pa_cons (pv 1) pa_nil))))), ?_⟩
    exact s_ret (ev_call (ea_cons (ev_var rfl) (ea_cons ev_c (ea_cons (ev_var rfl) ea_nil))) (spP_v fun H1 e => ⟨n, 8, v, d, rfl, hd.mono e, rfl⟩)) k
abbrev spRWF : Sp := spP fun H vs z => ∃ (n : Nat) (l : Addr) (us : List V) (prs : List Wy), vs = [.int (n : Int), .ref l] ∧ 1 ≤ n ∧ n ≤ 8 ∧ H l = some (.lst us) ∧ DqA H us (prs.map wd) ∧ (∀ p ∈ prs, PrOk n p) ∧ prs.length ≤ 1000 ∧ z = .non
abbrev sRWF : Stmt := top 22
theorem scRWF : FnScope ["size", "links"] ["size", "links"] (defScope sRWF) := ⟨rfl, rfl, rfl, by decide +kernel, rfl, by decide +kernel, by decide +kernel⟩
theorem ok_rwf {t1 : Tok} (hM : mg "LEAST_SIZE" = some (.int 1 t1)) (CS : Cal P w K mg base "is_size" ["least", "thing"] 3 spSize) (CU : Cal P w K mg base "is_row_of_unlike_pairs" ["size", "thing"] 5 spUnl) (F : FnP K "refuse_wrong_flood" sRWF f fd) : FnOk P w K mg base CX0 6 f fd ["size", "links"] spRWF := by
  refine F.ok scRWF (fun vs H Q E h => ?_) (fun cdv A outer s H vs Q E hr h => ?_)
  · obtain ⟨z, ⟨n, v, ds, us, rfl, _⟩, _⟩ := h
    rfl
  · obtain ⟨z, ⟨n, l, us, prs, rfl, hn1, hn8, hl, hus, hok, hpl, rfl⟩, k⟩ := h
    refine ⟨_, pss_cons (ps_if (pt_not (pt_val (pe_cal CS hr (by rfl) (pa_cons (pe_glob (v := .int 1) (by rfl) hM ⟨_, rfl⟩) (pa_cons (pv 0) pa_nil))))) (pss_one ps_never) pss_nil)
      (pss_one (ps_if (pt_not (pt_val (pe_cal CU hr (by rfl) (pa_cons (pv 0) (pa_cons (pv 1) pa_nil))))) (pss_one ps_never) pss_nil)), ?_⟩
    have b1 : (isI (.int (n : Int)) && (decide ((1 : Int) ≤ valI (.int (n : Int))) && decide (valI (.int (n : Int)) ≤ 8))) = true := by
      show (true && (decide ((1 : Int) ≤ (n : Int)) && decide ((n : Int) ≤ 8))) = true
      rw [decide_eq_true (show (1 : Int) ≤ n by omega), decide_eq_true (show (n : Int) ≤ 8 by omega)]
      rfl
    have c1 : Ev (tCall spSize [] E0 (tCons (tC (.int 1)) (tCons (tVar 0) tNil))) (start ["size", "links"] [.int (n : Int), .ref l]) H (.bl true) := ev_call (ea_cons ev_c (ea_cons (ev_var rfl) ea_nil)) (spP_v fun H1 e => ⟨1, _, .int (n : Int), rfl, .int _, by rw [b1]⟩)
    refine q_when (b := !true) (et_not (et_B c1)) (fun z => by cases z) fun _ H1 e1 => ?_
    have c2 : Ev (tCall spUnl [] E0 (tCons (tVar 0) (tCons (tVar 1) tNil))) (start ["size", "links"] [.int (n : Int), .ref l]) H1 (.bl true) := ev_call (ea_cons (ev_var rfl) (ea_cons (ev_var rfl) ea_nil)) (spP_v fun H2 e => ⟨n, l, us, prs, rfl, (e1.trans e) _ _ hl, hus.mono (e1.trans e), hok, hpl, rfl⟩)
    refine s_when (b := !true) (et_not (et_B c2)) (fun z => by cases z) fun _ H2 e2 => k H2 (e1.trans e2)
/-! both_ways -/
abbrev sBoth : Stmt := top 23
abbrev nBoth : List Str := ["links", "a", "b"]
theorem scBoth : FnScope nBoth ["links"] (defScope sBoth) := ⟨rfl, rfl, rfl, by decide +kernel, rfl, by decide +kernel, by decide +kernel⟩
theorem ok_both (B : Bl mg) (hs : mg "sorted" = none) (F : FnP K "both_ways" sBoth f fd) : FnOk P w K mg base CX0 1 f fd ["links"] spPairs := by
  refine F.ok scBoth (fun vs H Q E h => ?_) (fun cdv A outer s H vs Q E hr h => ?_)
  · obtain ⟨l, us, prs, rfl, _⟩ := h
    rfl
  · obtain ⟨l, us, prs, rfl, hl, hus, hok, hpl, k⟩ := h
    have hu : (A.deeper (envOfC "both_ways" (defScope sBoth) s.heap.objs.size f cdv)).units + 64 < cLine := by have := hr.un; omega
    refine ⟨_, pss_one (ps_ret (pe_callB (cr_sortedT rfl) (by rfl) hs boot_sorted (pa_cons (pe_callTy (cr_setOfT rfl hu) (by rfl) B.set PyProof.Rows.boot_set (pa_cons (pe_op op_cat (pe_callTy (call_listK2 (K := K) rfl) (by rfl) B.list PyProof.Rows.boot_list (pa_cons (pv 0) pa_nil))
      (pe_lc (own := [("a", 1), ("b", 2)]) (g := gTup K 2 (gCons (gName 1) (gCons (gName 2) gNil))) (tt := tYes) (te := tTup (tCons (tVar 2) (tCons (tVar 1) tNil))) rfl scBoth.nd
        (pi_list (pv 0)) (blkOk_by (N := nBoth) (sc := defScope sBoth) (by decide +kernel)) (fun _ _ _ _ _ => pg_tup rfl (pgs_cons (pg_name (i := 1) scBoth.nd rfl (Or.inl rfl)) (pgs_cons (pg_name (i := 2) scBoth.nd rfl (Or.inl rfl)) pgs_nil)))
        (fun _ _ _ _ _ => pts_nil)
        (fun _ _ _ _ _ => pe_tup (pa_cons (pv 2) (pa_cons (pv 1) pa_nil))))) pa_nil)) pa_nil))), ?_⟩
    have hul := hus.length
    rw [List.length_map] at hul
    have hbd := PrOk.bd (n := 8) (by omega) (both_ok hok)
    refine ret_cb (cb1 ?_)
    refine ⟨.ref l, rfl, l, us, rfl, .inl (sq_of hl), fun l1 hl1 => ?_⟩
    have ex1 := Ex.new (o := .lst us) hl1
    have h11 : (upd H l1 (.lst us)) l1 = some (.lst us) := upd_same
    generalize upd H l1 (.lst us) = H1 at *
    have two : ∀ {i : Nat} {x : V}, us[i]? = some x → ∃ a, x = .ref a ∧ H1 a = some (.tup [.int ((prs.getD i []).getD 0 0), .int ((prs.getD i []).getD 1 0)]) := by
      intro i x hx
      obtain ⟨w, h1, h2⟩ := DqA.wds_inv hus hx
      obtain ⟨a, rfl, ha⟩ := wd_ref h2
      obtain ⟨u, v, rfl, _⟩ := hok w (List.mem_of_getElem? h1)
      refine ⟨a, rfl, ?_⟩
      rw [List.getD_eq_getElem?_getD (l := prs), h1]
      exact ex1 _ _ ha
    refine ⟨.ref l, rfl, l, rfl, ⟨us, sq_of (ex1 _ _ hl)⟩, fun D hD => ?_⟩
    refine grow_lc2 (K := K) (fun i => .int ((prs.getD i []).getD 0 0)) (fun i => .int ((prs.getD i []).getD 1 0)) ((walk_list (K := K) (a := l) (xs := us)).mono (fun H h => h) fun i H' x H'' hi _ y => ⟨y.1, two y.2⟩) (tupY_good fun i => (swW (prs.getD i [])).map V.int) hD (by omega)
      (fun H' e => sq_of (e _ _ (ex1 _ _ hl))) (fun x y => rfl) (fun i H' e hi => ?_) (fun us2 H2 e2 hd g => ?_)
    · intro H3 e3 Q3 q
      exact ⟨_, rfl, _, rfl, by show 2 ≤ sizeLine; decide, fun p hp => q _ _ (Ex.new hp) ⟨p, rfl, upd_same⟩⟩
    · obtain ⟨ks2, k1, k2, k3⟩ := grown_ks g
      subst k1
      rw [upTo_all, hul, range_sw] at k2
      have e2' := ex1.trans e2
      obtain ⟨ks1, j1, j2, j3⟩ := wds_ks (hus.mono e2')
      have l1' : ks1.length = prs.length := by rw [← j2, List.length_map]
      have l2 : ks2.length = prs.length := by
        have := congrArg List.length k2
        simpa using this
      refine ⟨l1, D, us, _, rfl, rfl, e2 _ _ h11, hd, by rw [List.length_map, sizeLine_eq]; omega, fun t ht => ?_⟩
      have et := Ex.new (o := .lst (us ++ ks2.map fun p => V.ref p.1)) ht
      have htt : (upd H2 t (.lst (us ++ ks2.map fun p => V.ref p.1))) t = some (.lst ((ks1 ++ ks2).map fun p => V.ref p.1)) := by
        rw [upd_same, List.map_append, ← j1]
      generalize upd H2 t (.lst (us ++ ks2.map fun p => V.ref p.1)) = H3 at *
      have hm3 : ∀ p ∈ ks1 ++ ks2, H3 p.1 = some (.tup (p.2.map V.int)) := fun p hp => by
        rcases List.mem_append.mp hp with z | z
        · exact et _ _ (j3 p z)
        · exact et _ _ (k3 p z)
      have hmem : ∀ p, p ∈ (ks1 ++ ks2).map (·.2) ↔ p ∈ prs ++ prs.map swW := by
        intro p
        rw [List.map_append, j2, k2]
      refine ⟨t, ks1 ++ ks2, rfl, sq_of htt, fun p hp => st_of (hm3 p hp), by rw [List.length_append]; omega, fun a L ha h1 h2 => ?_⟩
      have ea := Ex.new (o := SetTO P w a L) ha
      refine ⟨a, L, 2, 64, rfl, upd_same, fun p hp => st_of (ea _ _ (hm3 p (h1 p hp))), by decide, fun p hp => ?_, fun L' p pm nd l64 pw hp => ?_⟩
      · obtain ⟨u, v', hu', hv', ep⟩ := hbd p.2 ((hmem _).mp (List.mem_map.mpr ⟨p, h1 p hp, rfl⟩))
        rw [ep]
        refine ⟨rfl, fun m hm => ?_⟩
        rcases List.mem_cons.mp hm with z | z
        · omega
        · rcases List.mem_cons.mp z with z | z
          · omega
          · cases z
      · have eM : L'.map (·.2) = joinW prs := by
          refine asc_unique hbd (fun q => ?_) nd (List.pairwise_map.mpr pw)
          rw [← hmem]
          constructor
          · intro hq
            obtain ⟨r, hr', rfl⟩ := List.mem_map.mp hq
            exact List.mem_map.mpr ⟨r, h1 r (pm.mem_iff.mp hr'), rfl⟩
          · intro hq
            obtain ⟨r, hr', rfl⟩ := List.mem_map.mp hq
            obtain ⟨r2, hr2, e⟩ := List.mem_map.mp (h2 r hr')
            exact List.mem_map.mpr ⟨r2, pm.mem_iff.mpr hr2, e⟩
        have ep := Ex.new (o := .lst (L'.map fun q => V.ref q.1)) hp
        refine k _ p _ ((e2'.trans et).trans (ea.trans ep)) (fresh_back ((e2'.trans et).trans ea) hp) upd_same ?_
        rw [← eM]
        exact ks_wds fun q hq => ep _ _ (ea _ _ (hm3 q (h1 q (pm.mem_iff.mp hq))))
/-! is_flood_deed -/
abbrev spFD : Sp := spP fun H vs z => ∃ (n : Nat) (la t : Addr) (us : List V) (js : List Wy) (x : Deed) (rs : Bool), vs = [.int (n : Int), .ref la, .ref t] ∧ H la = some (.lst us) ∧ DqA H us (js.map wd) ∧ H t = some (.tup x.vs) ∧ x.ok n js rs ∧ z = .bl true
abbrev sFD : Stmt := top 24
abbrev nFD : List Str := ["size", "arrows", "thing", "item"]
theorem scFD : FnScope nFD ["size", "arrows", "thing"] (defScope sFD) := ⟨rfl, rfl, rfl, by decide +kernel, rfl, by decide +kernel, by decide +kernel⟩
theorem Deed.len (x : Deed) : (x.vs.length = 3 ∨ x.vs.length = 2) ∧ x.vs.length ≠ 0 := by cases x <;> simp [Deed.vs]
theorem Deed.ints (x : Deed) {i : Nat} {v : V} (h : (x.vs.drop 1)[i]? = some v) : ∃ n : Int, v = .int n := by
  cases x with
  | rst r =>
    match i, h with
    | 0, h => exact ⟨_, (Option.some.inj h).symm⟩
  | pas a b =>
    match i, h with
    | 0, h => exact ⟨_, (Option.some.inj h).symm⟩
    | 1, h => exact ⟨_, (Option.some.inj h).symm⟩
  | los a b =>
    match i, h with
    | 0, h => exact ⟨_, (Option.some.inj h).symm⟩
    | 1, h => exact ⟨_, (Option.some.inj h).symm⟩
  | wri a b =>
    match i, h with
    | 0, h => exact ⟨_, (Option.some.inj h).symm⟩
    | 1, h => exact ⟨_, (Option.some.inj h).symm⟩
def isRst : Deed → Bool
  | .rst _ => true
  | _ => false
theorem word_rst (x : Deed) : decide (V.str x.word = V.str "restart") = isRst x := by
  cases x with
  | pas a b => exact show decide (V.str "pass" = V.str "restart") = false by decide +kernel
  | los a b => exact show decide (V.str "lose" = V.str "restart") = false by decide +kernel
  | rst r => exact show decide (V.str "restart" = V.str "restart") = true by decide +kernel
  | wri r c => exact show decide (V.str "write" = V.str "restart") = false by decide +kernel
theorem ok_fd (B : Bl mg) {t99 : Tok} (hM : mg "MOST_CONTENT" = some (.int 99 t99)) (CI : Cal P w K mg base "is_integer" ["thing"] 1 spIsInt) (CB : Cal P w K mg base "is_between" ["least", "most", "thing"] 2 spBetween) (CR : Cal P w K mg base "is_router" ["size", "thing"] 3 spRouter) (F : FnP K "is_flood_deed" sFD f fd) : FnOk P w K mg base CX0 4 f fd ["size", "arrows", "thing"] spFD := by
  refine F.ok scFD (fun vs H Q E h => ?_) (fun cdv A outer s H vs Q E hr h => ?_)
  · obtain ⟨z, ⟨n, la, t, us, js, x, rs, rfl, _⟩, _⟩ := h
    rfl
  · obtain ⟨z, ⟨n, la, t, us, js, x, rs, rfl, hla, hus, ht, hok, rfl⟩, k⟩ := h
    have hu : (A.deeper (envOfC "is_flood_deed" (defScope sFD) s.heap.objs.size f cdv)).units + 65 < cLine := by have := hr.un; omega
    refine ⟨_, pss_cons (ps_if (PW.pt (pw_or (pt_not (pt_val (pe_callB call_isi (by rfl) B.isi boot_isinstance (pa_cons (pv 2) (pa_cons (pe_bltn (v := .ty "tuple") (by rfl) B.tuple PyProof.Rows.boot_tuple rfl) pa_nil)))))
        (pw_or (pt_cmpR op_eq (pe_callB call_len_seq (by rfl) B.len PySem.boot_len (pa_cons (pv 2) pa_nil)) pe_int (nomark _)) (pw_or1 (pt_not (pt_val (pe_callB call_isi (by rfl) B.isi boot_isinstance (pa_cons (pe_ix ix_tup (pv 2) pe_int (fun _ _ => rfl)) (pa_cons (pe_bltn (v := .ty "str") (by rfl) B.str PyProof.Rows.boot_str rfl) pa_nil))))))))) (pss_one (ps_ret pe_bl)) pss_nil)
      (pss_cons (ps_if (pt_not (pt_val (pe_callB (cr_all rfl) (by rfl) B.all boot_all (pa_cons
          (pe_lc (own := [("item", 3)]) (g := gName 3) (tt := tYes) (te := tCall spIsInt [] E0 (tCons (tVar 3) tNil)) rfl scFD.nd (pi_tup (pe_slice sl_tupA (pv 2) (po_some pe_int) po_none)) (blkOk_by (N := nFD) (sc := defScope sFD) (by decide +kernel))
            (fun _ _ _ _ _ => pg_name (i := 3) scFD.nd rfl (Or.inl rfl)) (fun _ _ _ _ _ => pts_nil) (fun _ _ _ _ _ => pe_cal CI hr (by rfl) (pa_cons (pv 3) pa_nil))) pa_nil)))) (pss_one (ps_ret pe_bl)) pss_nil)
      (pss_cons (ps_if (pt_cmpR op_eq (pe_ix ix_tup (pv 2) pe_int (fun _ _ => rfl)) pe_str (nomark _)) (pss_one (ps_ret (pe_and (pe_cmpR op_eq (pe_callB call_len_seq (by rfl) B.len PySem.boot_len (pa_cons (pv 2) pa_nil)) pe_int (nomark _))
          (pe_and (pe_cal CR hr (by rfl) (pa_cons (pv 0) (pa_cons (pe_ix ix_tup (pv 2) pe_int (fun _ _ => rfl)) pa_nil))) (pe_one (pe_cal CB hr (by rfl) (pa_cons pe_int (pa_cons (pe_glob (v := .int 99) (by rfl) hM ⟨_, rfl⟩) (pa_cons (pe_ix ix_tup (pv 2) pe_int (fun _ _ => rfl)) pa_nil))))))))) pss_nil)
      (pss_cons (ps_if (pt_cmpR op_eq (pe_ix ix_tup (pv 2) pe_int (fun _ _ => rfl)) pe_str (nomark _)) (pss_one (ps_ret (pe_and (pe_cmpR op_eq (pe_callB call_len_seq (by rfl) B.len PySem.boot_len (pa_cons (pv 2) pa_nil)) pe_int (nomark _))
          (pe_one (pe_cal CR hr (by rfl) (pa_cons (pv 0) (pa_cons (pe_ix ix_tup (pv 2) pe_int (fun _ _ => rfl)) pa_nil))))))) pss_nil)
      (pss_one (ps_ret (pe_and (pe_cmpR op_in_seq (pe_ix ix_tup (pv 2) pe_int (fun _ _ => rfl)) (pe_tup (pa_cons pe_str (pa_cons pe_str pa_nil))) rfl) (pe_one (pe_cmpR (op_inD hu) (pe_slice sl_tupA (pv 2) (po_some pe_int) po_none) (pv 1) rfl)))))))), ?_⟩
    have v2 : ∀ {H1 : Hp}, Ev (tVar 2) (start nFD [.int (n : Int), .ref la, .ref t]) H1 (.ref t) := ev_var rfl
    have v0 : ∀ {H1 : Hp}, Ev (tVar 0) (start nFD [.int (n : Int), .ref la, .ref t]) H1 (.int (n : Int)) := ev_var rfl
    have w0 : ∀ {H1 : Hp}, Ex H H1 → Ev (tOp (rIxT K) (tVar 2) (tC (.int 0))) (start nFD [.int (n : Int), .ref la, .ref t]) H1 (.str x.word) := fun e => ev_op v2 ev_c (rv_ixT (i := 0) (st_of (e _ _ ht)) x.at0)
    have w1 : ∀ {H1 : Hp}, Ex H H1 → Ev (tOp (rIxT K) (tVar 2) (tC (.int 1))) (start nFD [.int (n : Int), .ref la, .ref t]) H1 (.int (x.one : Int)) := fun e => ev_op v2 ev_c (rv_ixT (i := 1) (st_of (e _ _ ht)) x.at1)
    have ln : ∀ {H1 : Hp}, Ex H H1 → Ev (tCB (rLenS K) (tCons (tVar 2) tNil)) (start nFD [.int (n : Int), .ref la, .ref t]) H1 (.int (x.vs.length : Int)) := fun e => ev_lenT v2 (st_of (e _ _ ht))
    have sl : ∀ {H1 : Hp}, Ex H H1 → EvS (tSl (rSlA K) (tVar 2) (tPart (tC (.int 1))) tNoPart) (start nFD [.int (n : Int), .ref la, .ref t]) H1 (x.vs.drop 1) := fun {H1} e => by
      have z := es_sl (K := K) (te := tVar 2) (σ := start nFD [.int (n : Int), .ref la, .ref t]) (H := H1) (lo := some ((1 : Nat) : Int)) (hi := none) v2 (eo_some ev_c) eo_none (e _ _ ht)
      rw [cut_from _ 1 (by have := x.len; omega)] at z
      exact z
    have t1 := et_or (et_not (et_B (ev_isi (K := K) v2 (Deed.dq ht) (show kitB "tuple" "tuple" = some true by decide +kernel)))) (b := decide (V.int (x.vs.length : Int) = V.int 0) || !true) fun _ => et_or (et_test (ev_op (r := rEq) (ln (Ex.refl H)) ev_c (rv_eq rfl))) fun _ => et_not (et_B (ev_isi (K := K) (w0 (Ex.refl H)) (.str _) k_ss))
    refine q_when t1 (fun hb => ?_) fun _ H1 e1 => ?_
    · exfalso
      have hl := x.len.2
      have : ¬ V.int (x.vs.length : Int) = V.int 0 := fun z => by injection z with z; omega
      rw [decide_eq_false this] at hb
      cases hb
    have cint : Ev (tCB (rAll K) (tCons (tLc (iTup K (tSl (rSlA K) (tVar 2) (tPart (tC (.int 1))) tNoPart)) (gName 3) tYes (tCall spIsInt [] E0 (tCons (tVar 3) tNil)) [3]) tNil)) (start nFD [.int (n : Int), .ref la, .ref t]) H1 (.bl true) := by
      refine ev_all_yes (el_lcS (K := K) (fun _ => true) (fun _ => .bl true) (sl e1) (by rw [List.length_drop]; have := x.len; omega) (fun x => rfl) (fun _ _ _ _ _ => et_yes) fun i v H2 e2 hv _ => ?_)
      obtain ⟨m, rfl⟩ := x.ints hv
      exact ev_call (ea_cons (ev_var rfl) ea_nil) (spP_v fun H3 e3 => ⟨_, .int m, rfl, .int _, rfl⟩)
    refine q_when (b := !true) (et_not (et_B cint)) (fun z => by cases z) fun _ H2 e2 => ?_
    have e12 := e1.trans e2
    have tw := et_test (ev_op (r := rEq) (w0 e12) ev_c (rv_eq (y := .str "write") rfl))
    rw [word_wri] at tw
    refine q_when tw (fun hb H3 e3 => ?_) (fun hb H3 e3 => ?_)
    · cases x with
      | pas a b => cases hb
      | los a b => cases hb
      | rst r => cases hb
      | wri r c =>
        have e03 := e12.trans e3
        have c1 := ev_op (r := rEq) (ln e03) (ev_c (v := .int 3)) (rv_eq rfl)
        have c2 : Ev (tCall spRouter [] E0 (tCons (tVar 0) (tCons (tOp (rIxT K) (tVar 2) (tC (.int 1))) tNil))) (start nFD [.int (n : Int), .ref la, .ref t]) H3 (.bl true) := ev_call (ea_cons v0 (ea_cons (w1 e03) ea_nil)) (spP_v fun H1 e => ⟨(n : Int), _, .int (r : Int), rfl, .int _, by rw [isR_yes hok.1]⟩)
        have c3 : Ev (tCall spBetween [] E0 (tCons (tC (.int 0)) (tCons (tC (.int 99)) (tCons (tOp (rIxT K) (tVar 2) (tC (.int 2))) tNil)))) (start nFD [.int (n : Int), .ref la, .ref t]) H3 (.bl true) := ev_call (ea_cons ev_c (ea_cons ev_c (ea_cons (ev_op v2 ev_c (rv_ixT (i := 2) (v := .int (c : Int)) (st_of (e03 _ _ ht)) (atI_nat (j := 2) rfl))) ea_nil))) (spP_v fun H1 e => ⟨0, 99, _, .int (c : Int), rfl, .int _, by
          have h2 := hok.2
          show V.bl true = .bl (true && (decide ((0 : Int) ≤ (c : Int)) && decide ((c : Int) ≤ 99)))
          rw [decide_eq_true (show (0 : Int) ≤ c by omega), decide_eq_true (show (c : Int) ≤ 99 by omega)]
          rfl⟩)
        exact s_ret (ev_andV c1 fun _ => ev_andV c2 fun _ => c3) fun H4 e4 => k H4 (e03.trans e4)
    have e03 := e12.trans e3
    have tr := et_test (ev_op (r := rEq) (w0 e03) ev_c (rv_eq (y := .str "restart") rfl))
    rw [word_rst] at tr
    refine q_when tr (fun hb2 H4 e4 => ?_) (fun hb2 H4 e4 => ?_)
    · cases x with
      | pas a b => cases hb2
      | los a b => cases hb2
      | wri r c => cases hb2
      | rst r =>
        have e04 := e03.trans e4
        have c1 := ev_op (r := rEq) (ln e04) (ev_c (v := .int 2)) (rv_eq rfl)
        have c2 : Ev (tCall spRouter [] E0 (tCons (tVar 0) (tCons (tOp (rIxT K) (tVar 2) (tC (.int 1))) tNil))) (start nFD [.int (n : Int), .ref la, .ref t]) H4 (.bl true) := ev_call (ea_cons v0 (ea_cons (w1 e04) ea_nil)) (spP_v fun H1 e => ⟨(n : Int), _, .int (r : Int), rfl, .int _, by rw [isR_yes hok.1]⟩)
        exact s_ret (ev_andV c1 fun _ => c2) fun H5 e5 => k H5 (e04.trans e5)
    have e04 := e03.trans e4
    have hpr : ∃ a b : Nat, x.vs.drop 1 = [(a : Int), (b : Int)].map V.int ∧ [(a : Int), (b : Int)] ∈ js ∧ inV (.str x.word) [.str "pass", .str "lose"] = true := by
      cases x with
      | pas a b => exact ⟨a, b, rfl, hok, show inV (.str "pass") [.str "pass", .str "lose"] = true by decide +kernel⟩
      | los a b => exact ⟨a, b, rfl, hok, show inV (.str "lose") [.str "pass", .str "lose"] = true by decide +kernel⟩
      | wri r c => cases hb
      | rst r => cases hb2
    obtain ⟨a, b, h1, h2, h3⟩ := hpr
    have sl4 := sl e04
    rw [h1] at sl4
    have c1 := ev_inS (K := K) (w0 e04) (es_tup (xs := [.str "pass", .str "lose"]) (ea_cons ev_c (ea_cons ev_c ea_nil)) (by show 2 ≤ 100000; decide)) rfl rfl
    have c2 := ev_inDw (K := K) (tb := tVar 1) sl4 (ev_var rfl) (e04 _ _ hla) (hus.mono e04)
    rw [h3] at c1
    rw [decide_eq_true h2] at c2
    exact s_ret (ev_andV c1 fun _ => c2) fun H5 e5 => k H5 (e04.trans e5)
end
end Wk

set_option Elab.async false
set_option linter.all false
set_option maxRecDepth 100000
set_option maxHeartbeats 4000000
namespace Wk
open PySem PySem.Spec PyProof.Rows L2 Evl
/-! states -/
def cV (n : Nat) (cs : Nat → Option Nat) : List V := (List.range n).map fun r => oV (cs r)
theorem cV_at {n : Nat} {cs : Nat → Option Nat} {r : Nat} (h : r < n) : (cV n cs)[r]? = some (oV (cs r)) := by
  unfold cV
  rw [List.getElem?_map, List.getElem?_range h]
  rfl
theorem cV_len (n : Nat) (cs : Nat → Option Nat) : (cV n cs).length = n := by unfold cV; simp
theorem cV_set {n : Nat} {cs : Nat → Option Nat} {r c : Nat} : (cV n cs).set r (.int (c : Int)) = cV n fun k => if k = r then some c else cs k := by
  apply List.ext_getElem?
  intro i
  by_cases hi : i < n
  · rw [cV_at hi, List.getElem?_set]
    by_cases e : r = i
    · rw [if_pos e, if_pos e.symm, if_pos (by rw [cV_len]; omega)]
      rfl
    · rw [if_neg e, if_neg (fun z => e z.symm), cV_at hi]
  · rw [List.getElem?_eq_none (by rw [List.length_set, cV_len]; omega), List.getElem?_eq_none (by rw [cV_len]; omega)]
structure BsAt (G : Hp) (bs : List V) (n : Nat) (B : Nat → Bk) : Prop where
  len : bs.length = n
  at_ : ∀ k, k < n → ∃ a, bs[k]? = some (.ref a) ∧ BkAt G a n (B k)
theorem BsAt.mono {G G' : Hp} (e : Ex G G') {bs : List V} {n : Nat} {B : Nat → Bk} (h : BsAt G bs n B) : BsAt G' bs n B := ⟨h.len, fun k hk => by
  obtain ⟨a, h1, h2⟩ := h.at_ k hk
  exact ⟨a, h1, h2.mono e⟩⟩
theorem BsAt.set {G : Hp} {bs : List V} {n r : Nat} {D : Addr} {B : Nat → Bk} {b' : Bk} (h : BsAt G bs n B) (hD : BkAt G D n b') : BsAt G (bs.set r (.ref D)) n fun k => if k = r then b' else B k := by
  refine ⟨by rw [List.length_set]; exact h.len, fun k hk => ?_⟩
  have hl := h.len
  rw [List.getElem?_set]
  by_cases e : r = k
  · rw [if_pos e, if_pos (by omega)]
    refine ⟨D, rfl, ?_⟩
    rw [if_pos e.symm]
    exact hD
  · rw [if_neg e, if_neg (fun z => e z.symm)]
    exact h.at_ k hk
def StAt (G : Hp) (st : Addr) (n : Nat) (B : Nat → Bk) (cs : Nat → Option Nat) : Prop := ∃ tb tc bs, G st = some (.tup [.ref tb, .ref tc]) ∧ G tb = some (.tup bs) ∧ G tc = some (.tup (cV n cs)) ∧ BsAt G bs n B
theorem StAt.mono {G G' : Hp} (e : Ex G G') {st : Addr} {n : Nat} {B : Nat → Bk} {cs : Nat → Option Nat} (h : StAt G st n B cs) : StAt G' st n B cs := by
  obtain ⟨tb, tc, bs, h1, h2, h3, h4⟩ := h
  exact ⟨tb, tc, bs, e _ _ h1, e _ _ h2, e _ _ h3, h4.mono e⟩
def numN : Option Ent → Nat
  | none => 1
  | some e => e.1 + 1
def stepB (B : Nat → Bk) (cs : Nat → Option Nat) : Deed → Nat → Bk
  | .wri r c => fun k => if k = r then setB (B r) r (numN (B r r), c) else B k
  | .pas a b => fun k => if k = b then mergeX (B b) (B a) b (cs b) else B k
  | .rst r => fun k => if k = r then firstB r (cs r) else B k
  | .los _ _ => B
def stepC (cs : Nat → Option Nat) : Deed → Nat → Option Nat
  | .wri r c => fun k => if k = r then some c else cs k
  | _ => cs
/-- a deed that may be done -/
def Deed.may (n : Nat) (B : Nat → Bk) (cs : Nat → Option Nat) : Deed → Prop
  | .pas a b => a < n ∧ b < n ∧ (newer (B b) (B a) b = true → ∃ c, cs b = some c)
  | .los a b => True
  | .rst r => r < n
  | .wri r _ => r < n
section
variable {P : Program} {w : World} {K : PySem.W.Frag} {mg : Str → Option Value} {base : Heap} {f : Addr} {fd : FuncData}
/-! behind -/
def spBeh : Sp := fun vs H Q _ => ∃ (G : Hp) (st t : Addr) (n : Nat) (B : Nat → Bk) (cs : Nat → Option Nat) (x : Deed), vs = [.ref st, .ref t] ∧ Ex G H ∧ StAt G st n B cs ∧ n ≤ 8 ∧ H t = some (.tup x.vs) ∧ x.may n B cs ∧
  ∀ G' H' st', Gz G H G' H' → StAt G' st' n (stepB B cs x) (stepC cs x) → Q (.ref st') H'
abbrev sBeh : Stmt := top 25
abbrev nBeh : List Str := ["state", "deed", "books", "contents", "word", "router", "book", "to"]
theorem scBeh : FnScope nBeh ["state", "deed"] (defScope sBeh) := ⟨rfl, rfl, rfl, by decide +kernel, rfl, by decide +kernel, by decide +kernel⟩
theorem ok_beh (CR : Cal P w K mg base "replaced" nRepl 1 spRepl) (CN : Cal P w K mg base "number_after" ["entry"] 1 spNum) (CE : Cal P w K mg base "with_entry" ["book", "router", "entry"] 1 spWE) (CG : Cal P w K mg base "with_greater" ["own", "given", "router", "content"] 2 spWG) (CF : Cal P w K mg base "first_book" ["router", "content"] 2 spFB)
    (F : FnP K "behind" sBeh f fd) : FnOk P w K mg base CX0 3 f fd ["state", "deed"] spBeh := by
  refine F.ok scBeh (fun vs H Q E h => ?_) (fun cdv A outer s H vs Q E hr h => ?_)
  · obtain ⟨G, st, t, n, B, cs, x, rfl, _⟩ := h
    rfl
  · obtain ⟨G, st, t, n, B, cs, x, rfl, eG, ⟨tb, tc, bs, g1, g2, g3, hB⟩, hn, ht, hx, k⟩ := h
    have hu : (A.deeper (envOfC "behind" (defScope sBeh) s.heap.objs.size f cdv)).units + 1 < cLine := by have := hr.un; omega
    refine ⟨_, pss_cons (ps_asg (pv 0) (pg_tup rfl (pgs_cons (pg_name (i := 2) scBeh.nd rfl (Or.inl rfl)) (pgs_cons (pg_name (i := 3) scBeh.nd rfl (Or.inl rfl)) pgs_nil))))
      (pss_cons (ps_asg (pe_slice sl_tupA (pv 1) po_none (po_some pe_int)) (pg_tup rfl (pgs_cons (pg_name (i := 4) scBeh.nd rfl (Or.inl rfl)) (pgs_cons (pg_name (i := 5) scBeh.nd rfl (Or.inl rfl)) pgs_nil))))
      (pss_cons (ps_if (pt_cmpR op_eq (pv 4) pe_str (nomark _))
        (pss_cons (ps_set (i := 6) scBeh.nd rfl (Or.inl rfl) (pe_cal CE hr (by rfl) (pa_cons (pe_ix ix_tup (pv 2) (pv 5) (fun _ _ => rfl)) (pa_cons (pv 5) (pa_cons (pe_tup (pa_cons (pe_cal CN hr (by rfl) (pa_cons (pe_dget1 hu (pe_ix ix_tup (pv 2) (pv 5) (fun _ _ => rfl)) (pv 5) ⟨rfl, rfl, rfl, rfl⟩) pa_nil)) (pa_cons (pe_ix ix_tup (pv 1) pe_int (fun _ _ => rfl)) pa_nil))) pa_nil)))))
        (pss_one (ps_ret (pe_tup (pa_cons (pe_cal CR hr (by rfl) (pa_cons (pv 2) (pa_cons (pv 5) (pa_cons (pv 6) pa_nil)))) (pa_cons (pe_cal CR hr (by rfl) (pa_cons (pv 3) (pa_cons (pv 5) (pa_cons (pe_ix ix_tup (pv 1) pe_int (fun _ _ => rfl)) pa_nil)))) pa_nil)))))) pss_nil)
      (pss_cons (ps_if (pt_cmpR op_eq (pv 4) pe_str (nomark _))
        (pss_cons (ps_set (i := 7) scBeh.nd rfl (Or.inl rfl) (pe_ix ix_tup (pv 1) pe_int (fun _ _ => rfl)))
        (pss_one (ps_ret (pe_tup (pa_cons (pe_cal CR hr (by rfl) (pa_cons (pv 2) (pa_cons (pv 7) (pa_cons (pe_cal CG hr (by rfl) (pa_cons (pe_ix ix_tup (pv 2) (pv 7) (fun _ _ => rfl)) (pa_cons (pe_ix ix_tup (pv 2) (pv 5) (fun _ _ => rfl)) (pa_cons (pv 7) (pa_cons (pe_ix ix_tup (pv 3) (pv 7) (fun _ _ => rfl)) pa_nil))))) pa_nil)))) (pa_cons (pv 3) pa_nil)))))) pss_nil)
      (pss_cons (ps_if (pt_cmpR op_eq (pv 4) pe_str (nomark _)) (pss_one (ps_ret (pe_tup (pa_cons (pe_cal CR hr (by rfl) (pa_cons (pv 2) (pa_cons (pv 5) (pa_cons (pe_cal CF hr (by rfl) (pa_cons (pv 5) (pa_cons (pe_ix ix_tup (pv 3) (pv 5) (fun _ _ => rfl)) pa_nil))) pa_nil)))) (pa_cons (pv 3) pa_nil))))) pss_nil)
      (pss_one (ps_ret (pv 0))))))), ?_⟩
    refine ⟨.ref st, rfl, st, _, rfl, st_of (eG _ _ g1), rfl, g_two ?_⟩
    dsimp only
    change tSeq _ _ _ [some (.ref st), some (.ref t), some (.ref tb), some (.ref tc), none, none, none, none] H
    have sl : EvS (tSl (rSlA K) (tVar 1) tNoPart (tPart (tC (.int 2)))) [some (.ref st), some (.ref t), some (.ref tb), some (.ref tc), none, none, none, none] H [.str x.word, .int (x.one : Int)] := by
      have z := es_sl (K := K) (te := tVar 1) (σ := [some (.ref st), some (.ref t), some (.ref tb), some (.ref tc), none, none, none, none]) (H := H) (lo := none) (hi := some ((2 : Nat) : Int)) (ev_var rfl) eo_none (eo_some ev_c) ht
      rw [cut_to _ 2 (by have := x.len; omega)] at z
      have e : x.vs.take 2 = [.str x.word, .int (x.one : Int)] := by cases x <;> rfl
      rw [e] at z
      exact z
    refine sl H (Ex.refl _) _ fun t2 H1 e1 ht2 => ?_
    refine ⟨t2, _, rfl, st_of ht2, rfl, g_two ?_⟩
    dsimp only
    change tSeq _ _ _ [some (.ref st), some (.ref t), some (.ref tb), some (.ref tc), some (.str x.word), some (.int (x.one : Int)), none, none] H1
    have ht1 := e1 _ _ ht
    have eG1 := eG.trans e1
    have gz1 := Gz.ext eG e1
    have hbl := hB.len
    have tw : EvT (tTest (tOp rEq (tVar 4) (tC (.str "write")))) [some (.ref st), some (.ref t), some (.ref tb), some (.ref tc), some (.str x.word), some (.int (x.one : Int)), none, none] H1 (isWri x) := by
      rw [← word_wri]
      exact et_test (ev_op (ev_var rfl) ev_c (rv_eq (y := .str "write") rfl))
    refine q_when tw (fun hb H2 e2 => ?_) (fun hb H2 e2 => ?_)
    · cases x with
      | pas a b => cases hb
      | los a b => cases hb
      | rst r => cases hb
      | wri r c =>
        have hr' : r < n := hx
        have gz2 := gz1.trans (Gz.ext eG1 e2)
        have eG2 := gz2.sub
        have ht2 := e2 _ _ ht1
        obtain ⟨a, hba, hbk⟩ := hB.at_ r hr'
        have vb : ∀ {H' : Hp} {o6 : Option V}, Ex G H' → Ev (tOp (rIxT K) (tVar 2) (tVar 5)) [some (.ref st), some (.ref t), some (.ref tb), some (.ref tc), some (.str "write"), some (.int (r : Int)), o6, none] H' (.ref a) := fun e => ev_op (ev_var rfl) (ev_var (i := 5) (v := .int (r : Int)) rfl) (rv_ixT (st_of (e _ _ g2)) (atI_nat hba))
        have vc : ∀ {H' : Hp} {o6 : Option V}, H' t = some (.tup (Deed.wri r c).vs) → Ev (tOp (rIxT K) (tVar 1) (tC (.int 2))) [some (.ref st), some (.ref t), some (.ref tb), some (.ref tc), some (.str "write"), some (.int (r : Int)), o6, none] H' (.int (c : Int)) := fun e => ev_op (ev_var rfl) ev_c (rv_ixT (st_of e) (atI_nat (j := 2) rfl))
        have vn : Ev (tCall spNum [] E0 (tCons (tDGet1 (tOp (rIxT K) (tVar 2) (tVar 5)) (tVar 5)) tNil)) [some (.ref st), some (.ref t), some (.ref tb), some (.ref tc), some (.str "write"), some (.int (r : Int)), none, none] H2 (.int ((numN (B r r) : Nat) : Int)) := by
          obtain ⟨kvs, ks, h1, h2⟩ := hbk
          refine ev_call (ea_cons (ev_dget1 (kvs := kvs) (vb eG2) (ev_var (i := 5) (v := .int (r : Int)) rfl) (.inl (eG2 _ _ h1)) rfl) ea_nil) (spP_v fun H3 e3 => ⟨_, rfl, ?_⟩)
          rcases h2.at_ r with ⟨a1, a2⟩ | ⟨t, e, a1, a2, a3⟩
          · rw [a1, a2]
            exact .inl ⟨rfl, rfl⟩
          · rw [a1, a2]
            exact .inr ⟨t, e, rfl, e3 _ _ (eG2 _ _ a3), by show V.int ((e.1 + 1 : Nat) : Int) = _; congr 1⟩
        refine (vb eG2) H2 (Ex.refl _) _ fun H3 e3 => ?_
        refine ⟨.int (r : Int), rfl, ?_⟩
        refine (es_tup (xs := entV (numN (B r r), c)) (ea_cons (vn) (ea_cons (vc ht2) ea_nil)) (by show 2 ≤ 100000; decide)) H3 e3 _ fun te H4 e4 hte => ?_
        have gz4 := gz2.trans (Gz.ext eG2 (e3.trans e4))
        refine ⟨G, a, te, n, r, B r, _, rfl, gz4.sub, hbk, hr', hn, hte, fun G5 H5 D gz5 hD => ?_⟩
        refine g_name ?_
        dsimp only
        have gz6 := gz4.trans gz5
        have ht5 := gz5.hx _ _ ((e3.trans e4) _ _ ht2)
        refine ⟨.ref tb, rfl, .int (r : Int), rfl, .ref D, rfl, ?_⟩
        refine ⟨tb, r, .ref D, bs, rfl, gz6.sub _ _ (gz6.ex _ _ g2), by omega, by omega, fun H6 t6 e6 h6 => ?_⟩
        have gz7 := gz6.trans ((Gz.ext gz6.sub e6).trans (Gz.tup (Ex.trans gz6.sub e6) h6))
        refine ⟨.ref tc, rfl, .int (r : Int), rfl, ?_⟩
        refine (vc (o6 := some (.ref D)) (e6 _ _ ht5)) H6 (Ex.refl _) _ fun H7 e7 => ?_
        have gz8 := gz7.trans (Gz.ext gz7.sub e7)
        refine ⟨tc, r, .int (c : Int), cV n cs, rfl, gz8.sub _ _ (gz8.ex _ _ g3), by rw [cV_len]; exact hr', by rw [cV_len]; omega, fun H9 t9 e9 h9 => ?_⟩
        rw [cV_set] at h9
        have gz10 := gz8.trans ((Gz.ext gz8.sub e9).trans (Gz.tup (Ex.trans gz8.sub e9) h9))
        refine ⟨by show 2 ≤ sizeLine; decide, fun st' hst => ?_⟩
        have gz11 := Gz.new (o := .tup [.ref t6, .ref t9]) gz10.sub hst
        refine k _ _ st' (gz10.trans gz11) ⟨t6, t9, bs.set r (.ref D), upd_same, ?_, ?_, ?_⟩
        · refine gz11.ex _ _ ?_
          exact ((Gz.ext gz8.sub e9).trans (Gz.tup (Ex.trans gz8.sub e9) h9)).ex _ _ ((Gz.ext gz7.sub e7).ex _ _ upd_same)
        · exact gz11.ex _ _ upd_same
        · refine BsAt.mono (G := G5) ?_ ((hB.mono gz6.ex).set hD)
          exact (((Gz.ext gz6.sub e6).trans (Gz.tup (Ex.trans gz6.sub e6) h6)).ex.trans (Gz.ext gz7.sub e7).ex).trans (((Gz.ext gz8.sub e9).trans (Gz.tup (Ex.trans gz8.sub e9) h9)).ex.trans gz11.ex)
    have ht2 := e2 _ _ ht1
    have gz2 := gz1.trans (Gz.ext eG1 e2)
    have eG2 := gz2.sub
    have tp : EvT (tTest (tOp rEq (tVar 4) (tC (.str "pass")))) [some (.ref st), some (.ref t), some (.ref tb), some (.ref tc), some (.str x.word), some (.int (x.one : Int)), none, none] H2 (isPas x) := by
      rw [← word_pas]
      exact et_test (ev_op (ev_var rfl) ev_c (rv_eq (y := .str "pass") rfl))
    refine q_when tp (fun hb2 H3 e3 => ?_) (fun hb2 H3 e3 => ?_)
    · cases x with
      | los a b => cases hb2
      | rst r => cases hb2
      | wri r c => cases hb2
      | pas a b =>
        obtain ⟨ha, hb', hnw⟩ := hx
        have ht3 := e3 _ _ ht2
        have gz3 := gz2.trans (Gz.ext eG2 e3)
        have eG3 := gz3.sub
        obtain ⟨a1, hba, hbka⟩ := hB.at_ a ha
        obtain ⟨a2, hbb, hbkb⟩ := hB.at_ b hb'
        refine ⟨.ref t, rfl, t, _, 2, .int (b : Int), rfl, rfl, st_of ht3, atI_nat (j := 2) rfl, ?_⟩
        refine g_name ?_
        dsimp only
        change tRet _ _ [some (.ref st), some (.ref t), some (.ref tb), some (.ref tc), some (.str "pass"), some (.int (a : Int)), none, some (.int (b : Int))] H3
        have sB : SqT K H3 tb bs := st_of (eG3 _ _ g2)
        refine ⟨.ref tb, rfl, .int (b : Int), rfl, .ref tb, rfl, .int (b : Int), rfl, tb, bs, (b : Int), .ref a2, rfl, rfl, sB, atI_nat hbb, .ref tb, rfl, .int (a : Int), rfl, tb, bs, (a : Int), .ref a1, rfl, rfl, sB, atI_nat hba, .int (b : Int), rfl, .ref tc, rfl, .int (b : Int), rfl, tc, cV n cs, (b : Int), oV (cs b), rfl, rfl, st_of (eG3 _ _ g3), atI_nat (cV_at hb'), ?_⟩
        refine ⟨G, a2, a1, n, b, B b, B a, cs b, rfl, eG3, hbkb, hbka, hn, hb', hnw, fun G5 H5 D gz5 hD => ?_⟩
        have gz6 := gz3.trans gz5
        refine ⟨tb, b, .ref D, bs, rfl, gz6.sub _ _ (gz5.ex _ _ g2), by omega, by omega, fun H6 t6 e6 h6 => ?_⟩
        have gza := (Gz.ext gz6.sub e6).trans (Gz.tup (Ex.trans gz6.sub e6) h6)
        have gz7 := gz6.trans gza
        refine ⟨.ref tc, rfl, by show 2 ≤ sizeLine; decide, fun st' hst => ?_⟩
        have gz11 := Gz.new (o := .tup [.ref t6, .ref tc]) gz7.sub hst
        exact k _ _ st' (gz7.trans gz11) ⟨t6, tc, bs.set b (.ref D), upd_same, gz11.ex _ _ upd_same, gz11.ex _ _ (gz7.ex _ _ g3), BsAt.mono (gza.ex.trans gz11.ex) ((hB.mono gz5.ex).set hD)⟩
    have tr : EvT (tTest (tOp rEq (tVar 4) (tC (.str "restart")))) [some (.ref st), some (.ref t), some (.ref tb), some (.ref tc), some (.str x.word), some (.int (x.one : Int)), none, none] H3 (isRst x) := by
      rw [← word_rst]
      exact et_test (ev_op (ev_var rfl) ev_c (rv_eq (y := .str "restart") rfl))
    refine q_when tr (fun hb3 H4 e4 => ?_) (fun hb3 H4 e4 => ?_)
    · cases x with
      | pas a b => cases hb3
      | los a b => cases hb3
      | wri r c => cases hb3
      | rst r =>
        have hr' : r < n := hx
        have gz4 := gz2.trans (Gz.ext eG2 (e3.trans e4))
        have eG4 := gz4.sub
        have sB : SqT K H4 tb bs := st_of (eG4 _ _ g2)
        refine ⟨.ref tb, rfl, .int (r : Int), rfl, .int (r : Int), rfl, .ref tc, rfl, .int (r : Int), rfl, tc, cV n cs, (r : Int), oV (cs r), rfl, rfl, st_of (eG4 _ _ g3), atI_nat (cV_at hr'), ?_⟩
        refine ⟨G, n, r, cs r, rfl, eG4, hr', fun G5 H5 D gz5 hD => ?_⟩
        have gz6 := gz4.trans gz5
        refine ⟨tb, r, .ref D, bs, rfl, gz6.sub _ _ (gz5.ex _ _ g2), by omega, by omega, fun H6 t6 e6 h6 => ?_⟩
        have gza := (Gz.ext gz6.sub e6).trans (Gz.tup (Ex.trans gz6.sub e6) h6)
        have gz7 := gz6.trans gza
        refine ⟨.ref tc, rfl, by show 2 ≤ sizeLine; decide, fun st' hst => ?_⟩
        have gz11 := Gz.new (o := .tup [.ref t6, .ref tc]) gz7.sub hst
        exact k _ _ st' (gz7.trans gz11) ⟨t6, tc, bs.set r (.ref D), upd_same, gz11.ex _ _ upd_same, gz11.ex _ _ (gz7.ex _ _ g3), BsAt.mono (gza.ex.trans gz11.ex) ((hB.mono gz5.ex).set hD)⟩
    · cases x with
      | pas a b => cases hb2
      | wri r c => cases hb
      | rst r => cases hb3
      | los a b =>
        exact ⟨.ref st, rfl, k G H4 st (gz2.trans (Gz.ext eG2 (e3.trans e4))) ⟨tb, tc, bs, g1, g2, g3, hB⟩⟩
end
end Wk

set_option Elab.async false
set_option linter.all false
set_option maxRecDepth 100000
set_option maxHeartbeats 4000000
namespace L2
open PySem PySem.Spec PyProof.Rows
def rRepU (K : PySem.W.Frag) : R2 := fun x y H Q => ∃ l k xs, x = .ref l ∧ y = .int k ∧ SqT K H l xs ∧ xs ≠ [] ∧ 1 ≤ k ∧ k ≤ 1000 ∧ xs.length ≤ 1000 ∧ (k = 1 → Q (.ref l) H) ∧ (2 ≤ k → ∀ p, H p = none → Q (.ref p) (upd H p (.tup (List.replicate k.toNat xs).flatten)))
theorem op_repU {X : Cx} {K : PySem.W.Frag} (hK : X.K = K) : OpR X (binaryOp .Mult) (rRepU K) := by
  subst hK
  intro pins s σ H x y v u Q I rx ry h
  obtain ⟨l, k, xs, rfl, rfl, hT, hne, h1, h2, hz, q1, q⟩ := h
  by_cases hk : 2 ≤ k
  · exact op_repT pins s σ H (.ref l) (.int k) v u Q I rx ry ⟨l, k, xs, rfl, rfl, hT, hne, hk, h2, hz, q hk⟩
  · have e : k = 1 := by omega
    subst e
    cases rx
    obtain ⟨t, rfl⟩ := ry
    obtain ⟨its, r, ⟨⟨cls, dd, data, sl⟩, ho, hc, n, hd⟩, hs⟩ := I.tuple hT
    simp only at hc hd
    subst hc hd
    exact wpAny_binaryOp_repeat_ref (T := "tuple") (U := "int") (by decide) ⟨_, ho, rfl⟩ (fun s' => typeIs_int s' 1 t) noFill_tuple_mul F.fills_int_mul F.slot_int_rmul repeat_tuple F.slot_int_index.lookup
      (call_meets F.slot_int_rmul (typeIs_int s 1 t) F.entry_int_rmul (F.args_int_rmul_2 _ _) (int_rmul_tuple 1 t l its.toArray n dd sl)
        ⟨ho, rfl, ⟨_, ho, rfl⟩, call_meets F.slot_tuple_mul ⟨_, ho, rfl⟩ F.entry_tuple_mul (F.args_tuple_mul_2 _ _) (Wk.tuple_mul1 l its.toArray n dd sl t) ⟨ho, ⟨.ref l, H, I, rfl, q1 rfl⟩⟩⟩)
end L2
namespace Wk
open PySem PySem.Spec PyProof.Rows L2 Evl
/-! two states compared -/
theorem nk_val : ∀ {kvs : List (L2.Key × V)}, (kvs.map (·.1)).Nodup → ∀ {k : L2.Key} {v : V}, (k, v) ∈ kvs → valV kvs k = some v
  | [], _, k, v, h => by cases h
  | p :: r, nd, k, v, h => by
    rw [List.map_cons, List.nodup_cons] at nd
    rcases List.mem_cons.mp h with e | e
    · rw [← e]
      exact valV_pos rfl
    · rw [valV_neg (fun z => nd.1 (by rw [z]; exact List.mem_map.mpr ⟨_, e, rfl⟩))]
      exact nk_val nd.2 e
theorem NK.nd {kvs : List (L2.Key × V)} {ks : List Int} (h : NK kvs ks) : (kvs.map (·.1)).Nodup := by
  rw [h.1]
  exact List.Pairwise.map _ (fun a b hab e => hab (by injection e)) h.2
theorem eqv_ent {H : Hp} {a b : Addr} {x y : Ent} (ha : H a = some (.tup (entV x))) (hb : H b = some (.tup (entV y))) : EqV H 1 (.ref a) (.ref b) (PyData.eqv (wd [(x.1 : Int), (x.2 : Int)]) (wd [(y.1 : Int), (y.2 : Int)])) := by
  refine .data (wd_of ha) (wd_of hb) ?_ ?_ ?_
  · simp [wd, PyData.canLay0, PyData.canLayAll0]
  · simp [wd, PyData.canLay0, PyData.canLayAll0]
  · simp [wd, PyData.depth, PyData.depthAll]
theorem BkAt.uniq {H : Hp} {a : Addr} {n : Nat} {x y : Bk} (h : BkAt H a n x) (g : BkAt H a n y) : x = y := by
  obtain ⟨kvs, ks, h1, h2⟩ := h
  obtain ⟨lvs, ls, h3, h4⟩ := g
  rw [h1] at h3
  cases h3
  funext k
  rcases h2.at_ k with ⟨a1, a2⟩ | ⟨t, e, a1, a2, a3⟩
  · rcases h4.at_ k with ⟨_, b2⟩ | ⟨t', e', b1, _, _⟩
    · rw [a2, b2]
    · rw [a1] at b1; cases b1
  · rcases h4.at_ k with ⟨b1, _⟩ | ⟨t', e', b1, b2, b3⟩
    · rw [a1] at b1; cases b1
    · rw [a1] at b1
      cases b1
      rw [a3] at b3
      have z : entV e = entV e' := by injection b3 with b3; injection b3
      unfold entV at z
      injection z with z1 z2
      injection z2 with z2 _
      injection z1 with z1
      injection z2 with z2
      rw [a2, b2]
      congr 1
      exact Prod.ext (by omega) (by omega)
theorem nd_back {l D : List Int} (hl : l.Nodup) (hD : D.Nodup) (h : ∀ x ∈ l, x ∈ D) (hn : l.length = D.length) : ∀ x ∈ D, x ∈ l := fun x hx => by
  apply Classical.byContradiction
  intro hc
  have z := nd_le (x :: l) D (List.nodup_cons.mpr ⟨hc, hl⟩) fun y hy => by
    rcases List.mem_cons.mp hy with e | e
    · rw [e]; exact hx
    · exact h y e
  rw [List.length_cons] at z
  omega
open Classical in
theorem eqv_book {H : Hp} {n : Nat} {a b : Addr} {x y : Bk} (ha : BkAt H a n x) (hb : BkAt H b n y) : EqV H 2 (.ref a) (.ref b) (decide (x = y)) := by
  by_cases e : a = b
  · subst e
    rw [decide_eq_true (ha.uniq hb)]
    exact .same
  obtain ⟨kvs, ks, h1, h2⟩ := ha
  obtain ⟨lvs, ls, h3, h4⟩ := hb
  have hkl : kvs.length = ks.length := by
    have := congrArg List.length h2.nk.1
    simpa using this
  have hll : lvs.length = ls.length := by
    have := congrArg List.length h4.nk.1
    simpa using this
  have key : ∀ {k : L2.Key} {v : V}, (k, v) ∈ kvs → ∃ m : Nat, k = .inl (m : Int) ∧ (m : Int) ∈ ks := fun {k v} hm => by
    have hk : k ∈ kvs.map (·.1) := List.mem_map.mpr ⟨_, hm, rfl⟩
    rw [h2.nk.1] at hk
    obtain ⟨z, hz, rfl⟩ := List.mem_map.mp hk
    exact ⟨z.toNat, by rw [Int.toNat_of_nonneg (h2.rg z hz).1], by rw [Int.toNat_of_nonneg (h2.rg z hz).1]; exact hz⟩
  have main := EqV.dic (H := H) (n := 1) (a := a) (b := b) (ks := kvs) (ls := lvs) (fun k => match k with | .inl z => decide (x z.toNat = y z.toNat) | .inr _ => true) e h1 h3 fun k v y' hm hv => by
    obtain ⟨m, rfl, hmk⟩ := key hm
    have hv1 := nk_val h2.nk.nd hm
    rcases h2.at_ m with ⟨a1, _⟩ | ⟨t, e1, a1, a2, a3⟩
    · rw [hv1] at a1; cases a1
    rcases h4.at_ m with ⟨b1, _⟩ | ⟨t', e2, b1, b2, b3⟩
    · rw [hv] at b1; cases b1
    rw [hv1] at a1
    rw [hv] at b1
    cases a1
    cases b1
    have z := eqv_ent a3 b3
    rw [eqv_wd] at z
    show EqV H 1 (.ref t) (.ref t') (decide (x ((m : Int)).toNat = y ((m : Int)).toNat))
    rw [Int.toNat_natCast, a2, b2]
    have e : decide ([(e1.1 : Int), (e1.2 : Int)] = [(e2.1 : Int), (e2.2 : Int)]) = decide (some e1 = some e2) := by
      rw [decide_eq_decide]
      constructor
      · intro h
        injection h with h1 h2
        injection h2 with h2 _
        congr 1
        exact Prod.ext (by omega) (by omega)
      · intro h
        injection h with h
        rw [h]
    rw [← e]
    exact z
  have val : (kvs.length == lvs.length && kvs.all fun p => (valV lvs p.1).isSome && (match p.1 with | .inl z => decide (x z.toNat = y z.toNat) | .inr _ => true)) = decide (x = y) := by
    by_cases hxy : x = y
    · rw [decide_eq_true hxy]
      subst hxy
      have m1 : ∀ z ∈ ks, z ∈ ls := fun z hz => by
        obtain ⟨m, rfl⟩ : ∃ m : Nat, z = (m : Int) := ⟨z.toNat, by have := h2.rg z hz; omega⟩
        exact (h4.mem m).mpr ((h2.mem m).mp hz)
      have m2 : ∀ z ∈ ls, z ∈ ks := fun z hz => by
        obtain ⟨m, rfl⟩ : ∃ m : Nat, z = (m : Int) := ⟨z.toNat, by have := h4.rg z hz; omega⟩
        exact (h2.mem m).mpr ((h4.mem m).mp hz)
      have l1 := nd_le ks ls h2.nk.2 m1
      have l2 := nd_le ls ks h4.nk.2 m2
      rw [Bool.and_eq_true]
      refine ⟨by rw [beq_iff_eq]; omega, List.all_eq_true.mpr fun p hp => ?_⟩
      obtain ⟨m, hpk, hmk⟩ := key (k := p.1) (v := p.2) hp
      rw [hpk]
      obtain ⟨v, hv⟩ := (h4.nk.mem (m : Int)).mp (m1 _ hmk)
      rw [hv]
      simp
    · rw [decide_eq_false hxy]
      cases hr : (kvs.length == lvs.length && kvs.all fun p => (valV lvs p.1).isSome && (match p.1 with | .inl z => decide (x z.toNat = y z.toNat) | .inr _ => true)) with
      | false => rfl
      | true =>
        exfalso
        apply hxy
        obtain ⟨r1, r2⟩ := Bool.and_eq_true_iff.mp hr
        have r1 : kvs.length = lvs.length := beq_iff_eq.mp r1
        have r2 := List.all_eq_true.mp r2
        have at1 : ∀ m : Nat, (m : Int) ∈ ks → (m : Int) ∈ ls ∧ x m = y m := fun m hm => by
          obtain ⟨v, hv⟩ := (h2.nk.mem (m : Int)).mp hm
          have hmem : ∃ p ∈ kvs, p.1 = .inl (m : Int) := by
            have := valV_in hv
            obtain ⟨p, hp, e⟩ := List.mem_map.mp this
            exact ⟨p, hp, e⟩
          obtain ⟨p, hp, hpe⟩ := hmem
          have z := r2 p hp
          rw [hpe] at z
          obtain ⟨z1, z2⟩ := Bool.and_eq_true_iff.mp z
          obtain ⟨v', hv'⟩ := Option.isSome_iff_exists.mp z1
          have z2 := of_decide_eq_true z2
          rw [Int.toNat_natCast] at z2
          exact ⟨(h4.nk.mem _).mpr ⟨v', hv'⟩, z2⟩
        have sub : ∀ z ∈ ks, z ∈ ls := fun z hz => by
          obtain ⟨m, rfl⟩ : ∃ m : Nat, z = (m : Int) := ⟨z.toNat, by have := h2.rg z hz; omega⟩
          exact (at1 m hz).1
        have back := nd_back h2.nk.2 h4.nk.2 sub (by omega)
        funext k
        cases hx : x k with
        | some e1 =>
          rw [← hx]
          exact (at1 k ((h2.mem k).mpr ⟨e1, hx⟩)).2
        | none =>
          cases hy : y k with
          | none => rfl
          | some e2 =>
            obtain ⟨e1, h⟩ := (h2.mem k).mp (back _ ((h4.mem k).mpr ⟨e2, hy⟩))
            rw [hx] at h
            cases h
  rw [val] at main
  exact main
def oD : Option Nat → PyData
  | none => .none
  | some c => .int (c : Int)
theorem dq_oV (H : Hp) : ∀ o : Option Nat, Dq H (oV o) (oD o)
  | none => .non
  | some c => .int _
theorem dqa_cV (H : Hp) (cs : Nat → Option Nat) : ∀ l : List Nat, DqA H (l.map fun r => oV (cs r)) (l.map fun r => oD (cs r))
  | [] => .nil
  | r :: l => .cons (dq_oV H _) (dqa_cV H cs l)
theorem lay_oD (cs : Nat → Option Nat) (l : List Nat) : PyData.canLayAll0 (l.map fun r => oD (cs r)) = true := layAll.mpr fun d hd => by
  obtain ⟨r, _, rfl⟩ := List.mem_map.mp hd
  cases cs r <;> simp [oD, PyData.canLay0]
theorem dep_oD (cs : Nat → Option Nat) (l : List Nat) : PyData.depthAll (l.map fun r => oD (cs r)) ≤ 0 := depAll.mpr fun d hd => by
  obtain ⟨r, _, rfl⟩ := List.mem_map.mp hd
  cases cs r <;> simp [oD, PyData.depth]
theorem eqv_oD (x y : Option Nat) : PyData.eqv (oD x) (oD y) = decide (x = y) := by
  cases x with
  | none => cases y <;> simp [oD, PyData.eqv]
  | some c =>
    cases y with
    | none => simp [oD, PyData.eqv]
    | some d =>
      show ((c : Int) == (d : Int)) = _
      by_cases h : c = d
      · subst h; simp
      · rw [decide_eq_false (fun z => h (by injection z))]
        exact beq_eq_false_iff_ne.mpr (by omega)
open Classical in
theorem eqv_cs (cs ds : Nat → Option Nat) : ∀ l : List Nat, PyData.eqvAll (l.map fun r => oD (cs r)) (l.map fun r => oD (ds r)) = decide (∀ r ∈ l, cs r = ds r)
  | [] => by simp [PyData.eqvAll]
  | r :: l => by
    have ih := eqv_cs cs ds l
    show (PyData.eqv (oD (cs r)) (oD (ds r)) && PyData.eqvAll (l.map fun r => oD (cs r)) (l.map fun r => oD (ds r))) = _
    rw [eqv_oD, ih]
    by_cases h : cs r = ds r
    · by_cases g : ∀ r ∈ l, cs r = ds r
      · rw [decide_eq_true h, decide_eq_true g, decide_eq_true]
        · rfl
        · intro z hz
          rcases List.mem_cons.mp hz with e | e
          · rw [e]; exact h
          · exact g z e
      · rw [decide_eq_true h, decide_eq_false g, decide_eq_false (fun z => g fun r' hr => z r' (List.mem_cons_of_mem _ hr))]
        rfl
    · rw [decide_eq_false h, Bool.false_and]
      exact (decide_eq_false (fun z => h (z r List.mem_cons_self))).symm
open Classical in
theorem eqv_conts {H : Hp} {n : Nat} {a b : Addr} {cs ds : Nat → Option Nat} (ha : H a = some (.tup (cV n cs))) (hb : H b = some (.tup (cV n ds))) : EqV H 3 (.ref a) (.ref b) (decide (∀ r, r < n → cs r = ds r)) := by
  have z := EqV.data (H := H) (n := 3) (d := .tuple ((List.range n).map fun r => oD (cs r))) (e := .tuple ((List.range n).map fun r => oD (ds r))) (.tup ha (dqa_cV H cs _)) (.tup hb (dqa_cV H ds _)) (by simp [PyData.canLay0, lay_oD]) (by simp [PyData.canLay0, lay_oD]) (by
    have := dep_oD cs (List.range n)
    simp only [PyData.depth]
    omega)
  have e : PyData.eqv (.tuple ((List.range n).map fun r => oD (cs r))) (.tuple ((List.range n).map fun r => oD (ds r))) = decide (∀ r, r < n → cs r = ds r) := by
    show PyData.eqvAll _ _ = _
    rw [eqv_cs, decide_eq_decide]
    constructor
    · exact fun h r hr => h r (List.mem_range.mpr hr)
    · exact fun h r hr => h r (List.mem_range.mp hr)
  rw [e] at z
  exact z
open Classical in
theorem eqv_books {H : Hp} {n : Nat} {a b : Addr} {bs bs' : List V} {B B' : Nat → Bk} (ha : H a = some (.tup bs)) (hb : H b = some (.tup bs')) (h1 : BsAt H bs n B) (h2 : BsAt H bs' n B') : EqV H 3 (.ref a) (.ref b) (decide (∀ r, r < n → B r = B' r)) := by
  by_cases e : a = b
  · subst e
    rw [ha] at hb
    cases hb
    rw [decide_eq_true]
    · exact .same
    · intro r hr
      obtain ⟨x, x1, x2⟩ := h1.at_ r hr
      obtain ⟨y, y1, y2⟩ := h2.at_ r hr
      rw [x1] at y1
      cases y1
      exact x2.uniq y2
  have z := EqV.tup (H := H) (n := 2) (a := a) (b := b) (xs := bs) (ys := bs') (fun j => decide (B j = B' j)) e ha hb fun j x' y' hx hy => by
    have hj : j < n := by
      have := (List.getElem?_eq_some_iff.mp hx).1
      have := h1.len
      omega
    obtain ⟨x, x1, x2⟩ := h1.at_ j hj
    obtain ⟨y, y1, y2⟩ := h2.at_ j hj
    rw [x1] at hx
    rw [y1] at hy
    cases hx
    cases hy
    exact eqv_book x2 y2
  have e : ((List.range (min bs.length bs'.length)).all (fun j => decide (B j = B' j)) && bs.length == bs'.length) = decide (∀ r, r < n → B r = B' r) := by
    rw [h1.len, h2.len, Nat.min_self, show (n == n) = true from beq_iff_eq.mpr rfl, Bool.and_true]
    by_cases h : ∀ r, r < n → B r = B' r
    · rw [decide_eq_true h]
      exact List.all_eq_true.mpr fun r hr => decide_eq_true (h r (List.mem_range.mp hr))
    · rw [decide_eq_false h]
      cases hc : (List.range n).all (fun j => decide (B j = B' j)) with
      | false => rfl
      | true => exact absurd (fun r hr => of_decide_eq_true (List.all_eq_true.mp hc r (List.mem_range.mpr hr))) h
  rw [e] at z
  exact z
def eqS (n : Nat) (B : Nat → Bk) (cs : Nat → Option Nat) (B' : Nat → Bk) (cs' : Nat → Option Nat) : Prop := (∀ r, r < n → B r = B' r) ∧ ∀ r, r < n → cs r = cs' r
open Classical in
noncomputable def eqSb (n : Nat) (B : Nat → Bk) (cs : Nat → Option Nat) (B' : Nat → Bk) (cs' : Nat → Option Nat) : Bool := decide (eqS n B cs B' cs')
theorem eqSb_yes {n : Nat} {B B' : Nat → Bk} {cs cs' : Nat → Option Nat} (h : eqS n B cs B' cs') : eqSb n B cs B' cs' = true := by simp [eqSb, h]
theorem eqSb_no {n : Nat} {B B' : Nat → Bk} {cs cs' : Nat → Option Nat} (h : ¬ eqS n B cs B' cs') : eqSb n B cs B' cs' = false := by simp [eqSb, h]
open Classical in
theorem states_parts {H : Hp} {G G' : Hp} {a b : Addr} {n : Nat} {B B' : Nat → Bk} {cs cs' : Nat → Option Nat} (e1 : Ex G H) (e2 : Ex G' H) (ha : StAt G a n B cs) (hb : StAt G' b n B' cs') :
    ∃ xs ys : List V, H a = some (.tup xs) ∧ H b = some (.tup ys) ∧ ∃ e : Nat → Bool, (∀ j x y, xs[j]? = some x → ys[j]? = some y → EqV H 3 x y (e j)) ∧ ((List.range (min xs.length ys.length)).all e && xs.length == ys.length) = eqSb n B cs B' cs' := by
  obtain ⟨tb, tc, bs, h1, h2, h3, h4⟩ := ha.mono e1
  obtain ⟨tb', tc', bs', g1, g2, g3, g4⟩ := hb.mono e2
  refine ⟨_, _, h1, g1, fun j => if j = 0 then decide (∀ r, r < n → B r = B' r) else decide (∀ r, r < n → cs r = cs' r), fun j x y hx hy => ?_, ?_⟩
  · match j, hx, hy with
    | 0, hx, hy =>
      cases hx
      cases hy
      exact eqv_books h2 g2 h4 g4
    | 1, hx, hy =>
      cases hx
      cases hy
      exact eqv_conts h3 g3
  · show (decide (∀ r, r < n → B r = B' r) && (decide (∀ r, r < n → cs r = cs' r) && true) && true) = _
    rw [Bool.and_true, Bool.and_true]
    by_cases p : ∀ r, r < n → B r = B' r
    · by_cases q : ∀ r, r < n → cs r = cs' r
      · rw [decide_eq_true p, decide_eq_true q, eqSb_yes ⟨p, q⟩]; rfl
      · rw [decide_eq_true p, decide_eq_false q, eqSb_no (fun z => q z.2)]; rfl
    · rw [decide_eq_false p, eqSb_no (fun z => p z.1)]; rfl
theorem ne_states {H : Hp} {G G' : Hp} {a b : Addr} {n : Nat} {B B' : Nat → Bk} {cs cs' : Nat → Option Nat} {Q : VK} (e1 : Ex G H) (e2 : Ex G' H) (ha : StAt G a n B cs) (hb : StAt G' b n B' cs') (k : Q (.bl (!eqSb n B cs B' cs')) H) : rNeX (.ref a) (.ref b) H Q := by
  obtain ⟨xs, ys, h1, h2, e, h3, h4⟩ := states_parts e1 e2 ha hb
  exact ⟨a, b, xs, ys, e, 3, rfl, rfl, h1, h2, by decide, h3, by rw [h4]; exact k⟩
theorem eq_states {H : Hp} {G G' : Hp} {a b : Addr} {n : Nat} {B B' : Nat → Bk} {cs cs' : Nat → Option Nat} {Q : VK} (e1 : Ex G H) (e2 : Ex G' H) (ha : StAt G a n B cs) (hb : StAt G' b n B' cs') (k : Q (.bl (eqSb n B cs B' cs')) H) : rEqX (.ref a) (.ref b) H Q := by
  obtain ⟨xs, ys, h1, h2, e, h3, h4⟩ := states_parts e1 e2 ha hb
  exact ⟨a, b, xs, ys, e, 3, rfl, rfl, h1, h2, by decide, h3, by rw [h4]; exact k⟩
/-! floods -/
abbrev FnM (K : PySem.W.Frag) (x q : Str) (st : Stmt) (f : Addr) (fd : FuncData) : Prop := FunD K x q (defArgs st) (defBody st) (defScope st) [] [] f fd
structure FX (K : PySem.W.Frag) (CF : Addr) : Prop where
  cl : Cls K CF
  nZ : NoAttr K CF "_size"
  nA : NoAttr K CF "_arrows"
  nS : NoAttr K CF "_state"
  nM : NoAttr K CF "many"
  nP : NoAttr K CF "_past"
theorem lk_putF {f g : Str} {v : V} {fs : List (Str × V)} (h : ¬ g = f) : (putF f v fs).lookup g = fs.lookup g := by rw [lookup_putF, if_neg h]
theorem lk_putS {f : Str} {v : V} {fs : List (Str × V)} : (putF f v fs).lookup f = some v := by rw [lookup_putF, if_pos rfl]
/-- the fields of a flood -/
structure Ff (fs : List (Str × V)) (la st pa : Addr) (n m : Nat) : Prop where
  sz : fs.lookup ("_size" : Str) = some (.int (n : Int))
  ar : fs.lookup ("_arrows" : Str) = some (.ref la)
  st : fs.lookup ("_state" : Str) = some (.ref st)
  mn : fs.lookup ("many" : Str) = some (.int (m : Int))
  ps : fs.lookup ("_past" : Str) = some (.ref pa)
  n1 : fs.lookup ("do" : Str) = none
  n2 : fs.lookup ("_go" : Str) = none
  n3 : fs.lookup ("book" : Str) = none
  n4 : fs.lookup ("content" : Str) = none
  n5 : fs.lookup ("is_calm" : Str) = none
  few : fs.length ≤ 50
theorem len_putF (f : Str) (v : V) : ∀ fs : List (Str × V), (putF f v fs).length ≤ fs.length + 1
  | [] => Nat.le_refl _
  | (g, x) :: r => by
    have ih := len_putF f v r
    unfold putF
    split
    · simp
    · simp only [List.length_cons]; omega
theorem len_putO (f : Str) (v y : V) : ∀ fs : List (Str × V), fs.lookup f = some y → (putF f v fs).length = fs.length
  | [], h => by cases h
  | (g, x) :: r, h => by
    unfold putF
    split
    · rfl
    · rename_i hne
      rw [List.length_cons, List.length_cons, len_putO f v y r]
      rw [List.lookup_cons] at h
      have : (f == g) = false := beq_eq_false_iff_ne.mpr fun z => hne z.symm
      rw [this] at h
      exact h
theorem Ff.many {fs : List (Str × V)} {la st pa : Addr} {n m m' : Nat} (h : Ff fs la st pa n m) : Ff (putF "many" (.int (m' : Int)) fs) la st pa n m' := by
  refine ⟨?_, ?_, ?_, lk_putS, ?_, ?_, ?_, ?_, ?_, ?_, ?_⟩
  · rw [lk_putF (by decide +kernel)]; exact h.sz
  · rw [lk_putF (by decide +kernel)]; exact h.ar
  · rw [lk_putF (by decide +kernel)]; exact h.st
  · rw [lk_putF (by decide +kernel)]; exact h.ps
  · rw [lk_putF (by decide +kernel)]; exact h.n1
  · rw [lk_putF (by decide +kernel)]; exact h.n2
  · rw [lk_putF (by decide +kernel)]; exact h.n3
  · rw [lk_putF (by decide +kernel)]; exact h.n4
  · rw [lk_putF (by decide +kernel)]; exact h.n5
  · rw [len_putO _ _ _ _ h.mn]; exact h.few
theorem Ff.state {fs : List (Str × V)} {la st st' pa : Addr} {n m : Nat} (h : Ff fs la st pa n m) : Ff (putF "_state" (.ref st') fs) la st' pa n m := by
  refine ⟨?_, ?_, lk_putS, ?_, ?_, ?_, ?_, ?_, ?_, ?_, ?_⟩
  · rw [lk_putF (by decide +kernel)]; exact h.sz
  · rw [lk_putF (by decide +kernel)]; exact h.ar
  · rw [lk_putF (by decide +kernel)]; exact h.mn
  · rw [lk_putF (by decide +kernel)]; exact h.ps
  · rw [lk_putF (by decide +kernel)]; exact h.n1
  · rw [lk_putF (by decide +kernel)]; exact h.n2
  · rw [lk_putF (by decide +kernel)]; exact h.n3
  · rw [lk_putF (by decide +kernel)]; exact h.n4
  · rw [lk_putF (by decide +kernel)]; exact h.n5
  · rw [len_putO _ _ _ _ h.st]; exact h.few
end Wk

set_option Elab.async false
set_option linter.all false
set_option maxRecDepth 100000
set_option maxHeartbeats 4000000
namespace Wk
open PySem PySem.Spec PyProof.Rows L2 Evl
structure FdA (CF : Addr) (G H : Hp) (x pa la : Addr) (n m : Nat) (B : Nat → Bk) (cs : Nat → Option Nat) : Prop where
  ob : ∃ dx fs st, H x = some (.ins CF dx fs) ∧ Ff fs la st pa n m ∧ StAt G st n B cs
  ps : ∃ us, H pa = some (.lst us) ∧ us.length ≤ m
  gx : G x = none
  gp : G pa = none
  ne : x ≠ pa
theorem FdA.ext {CF : Addr} {G H H' : Hp} {x pa la : Addr} {n m : Nat} {B : Nat → Bk} {cs : Nat → Option Nat} (h : FdA CF G H x pa la n m B cs) (e : Ex H H') : FdA CF G H' x pa la n m B cs := by
  obtain ⟨dx, fs, st, h1, h2⟩ := h.ob
  obtain ⟨us, h3, h4⟩ := h.ps
  exact ⟨⟨dx, fs, st, e _ _ h1, h2⟩, ⟨us, e _ _ h3, h4⟩, h.gx, h.gp, h.ne⟩
/-- what a deed leaves -/
structure Gm (x pa : Addr) (G H G' H' : Hp) : Prop where
  ex : Ex G G'
  off : ∀ b u, b ≠ x → b ≠ pa → H b = some u → H' b = some u
  sub : Ex G' H'
  nw : ∀ b u, G b = none → H b = some u → (∀ xs, u ≠ .tup xs) → G' b = none
theorem book_of {G : Hp} {kvs : List (L2.Key × V)} {ks ys : List Int} {n : Nat} {bk : Bk} (h : BkD G kvs ks n bk) (p : ys.Perm ks) : BkD G (pf (fun k => (valV kvs (.inl k)).getD .non) ys) ys n bk := by
  have nd : ys.Nodup := p.nodup_iff.mpr h.nk.2
  have hm : ∀ k, k ∈ ys ↔ k ∈ ks := fun k => p.mem_iff
  refine ⟨⟨?_, nd⟩, fun k hk => h.rg k ((hm k).mp hk), fun k => ?_⟩
  · rw [pf_nodup _ _ ys rfl nd, List.map_map]
    rfl
  · rw [valV_pf _ _ _ ys rfl]
    by_cases c : (k : Int) ∈ ys
    · rw [if_pos c]
      obtain ⟨e, he⟩ := (h.mem k).mp ((hm _).mp c)
      obtain ⟨t, h3, h4⟩ := h.get he
      rw [h3]
      exact .inr ⟨t, e, rfl, he, h4⟩
    · rw [if_neg c]
      refine .inl ⟨rfl, ?_⟩
      cases hb : bk k with
      | none => rfl
      | some e => exact absurd ((hm _).mpr ((h.mem k).mpr ⟨e, hb⟩)) c
theorem es_rep {K : PySem.W.Frag} {σ : L2.St} {H : Hp} {ta tb : TE} {v : V} {n : Nat} (h : EvS ta σ H [v]) (hb : Ev tb σ H (.int (n : Int))) (h1 : 1 ≤ n) (h2 : n ≤ 1000) : EvS (tOp (rRepU K) ta tb) σ H (List.replicate n v) := fun H1 e Q q =>
  h H1 e _ fun p H2 e2 hp => hb H2 (e.trans e2) _ fun H3 e3 => by
    have hp3 := e3 _ _ hp
    refine ⟨p, (n : Int), [v], rfl, rfl, st_of hp3, by simp, by omega, by omega, by simp, fun z => ?_, fun z l hl => ?_⟩
    · have : n = 1 := by omega
      subst this
      exact q p H3 (e2.trans e3) hp3
    · refine q l _ ((e2.trans e3).trans (Ex.new hl)) ?_
      rw [upd_same, Int.toNat_natCast]
      rw [List.flatten_replicate_singleton]
theorem Of1.upd (x : Addr) (H : Hp) (o : HO) : Of1 x H (L2.upd H x o) := fun b u hb h => by rw [upd_ne hb]; exact h
theorem Of1.back {x : Addr} {H H' : Hp} (h : Of1 x H H') {b : Addr} (hb : b ≠ x) (hn : H' b = none) : H b = none := by
  cases e : H b with
  | none => rfl
  | some u => rw [h b u hb e] at hn; cases hn
open Classical in
/-- what stays: what stood, what is new, and tuples; but not x, not pa -/
noncomputable def NewG (G H H' : Hp) (x pa : Addr) : Hp := fun b => if b = x ∨ b = pa then none else if (∀ u, H b = some u → ∃ xs, u = .tup xs) then H' b else G b
theorem newG_new {G H H' : Hp} {x pa b : Addr} (h1 : b ≠ x) (h2 : b ≠ pa) (h : H b = none) : NewG G H H' x pa b = H' b := by
  unfold NewG
  rw [if_neg (fun z => z.elim h1 h2), if_pos (fun u hu => by rw [h] at hu; cases hu)]
theorem newG_tup {G H H' : Hp} {x pa b : Addr} {xs : List V} (o : Of1 x H H') (h1 : b ≠ x) (h2 : b ≠ pa) (h : H' b = some (.tup xs)) : NewG G H H' x pa b = some (.tup xs) := by
  unfold NewG
  rw [if_neg (fun z => z.elim h1 h2), if_pos (fun u hu => by rw [o b u h1 hu] at h; cases h; exact ⟨_, rfl⟩), h]
theorem newG_ex {G H H' : Hp} {x pa : Addr} (eG : Ex G H) (eG' : Ex G H') (gx : G x = none) (hp : H pa = none) : Ex G (NewG G H H' x pa) := fun b u hb => by
  have h1 : b ≠ x := fun z => by rw [z, gx] at hb; cases hb
  have h2 : b ≠ pa := fun z => by have := eG _ _ hb; rw [z, hp] at this; cases this
  unfold NewG
  rw [if_neg (fun z => z.elim h1 h2)]
  split
  · exact eG' _ _ hb
  · exact hb
theorem newG_sub {G H H' : Hp} {x pa : Addr} (eG' : Ex G H') : Ex (NewG G H H' x pa) H' := fun b u hb => by
  unfold NewG at hb
  split at hb
  · cases hb
  · split at hb
    · exact hb
    · exact eG' _ _ hb
theorem newG_nw {G H H' : Hp} {x pa : Addr} {b : Addr} {u : HO} (hb : G b = none) (hh : H b = some u) (hn : ∀ xs, u ≠ .tup xs) : NewG G H H' x pa b = none := by
  unfold NewG
  split
  · rfl
  · rw [if_neg]
    · exact hb
    · intro z
      obtain ⟨xs, e⟩ := z u hh
      exact hn xs e
structure Msk (P : Program) (w : World) (K : PySem.W.Frag) (mg : Str → Option Value) (base : Heap) (CS : Addr) (m : Str) (ps : List Str) (n : Nat) (sp : Sp) : Prop where
  ex : ∃ (fM : Addr) (fd : FuncData), Meth K CS m fM ∧ FnOk P w K mg base CX0 n fM fd ps sp ∧ Binds K fd ps []
section
variable {P : Program} {w : World} {K : PySem.W.Frag} {mg : Str → Option Value} {base : Heap} {f : Addr} {fd : FuncData} {CF : Addr}
/-! Flood._go -/
def spGo (CF : Addr) : Sp := fun vs H Q _ => ∃ (G : Hp) (x pa la t : Addr) (n m : Nat) (B : Nat → Bk) (cs : Nat → Option Nat) (d : Deed), vs = [.ref x, .ref t] ∧ Ex G H ∧ FdA CF G H x pa la n m B cs ∧ n ≤ 8 ∧ m < 10000 ∧ H t = some (.tup d.vs) ∧ d.may n B cs ∧
  ∀ G' H', Gm x pa G H G' H' → FdA CF G' H' x pa la n (m + 1) (stepB B cs d) (stepC cs d) → Q (.bl (!eqSb n (stepB B cs d) (stepC cs d) B cs)) H'
abbrev sGo : Stmt := inClass (top 21) 7
abbrev nGo : List Str := ["self", "deed", "earlier"]
theorem scGo : FnScope nGo ["self", "deed"] (defScope sGo) := ⟨rfl, rfl, rfl, by decide +kernel, rfl, by decide +kernel, by decide +kernel⟩
theorem ok_go (X : FX K CF) (CB : Cal P w K mg base "behind" ["state", "deed"] 3 spBeh) (F : FnM K "_go" "Flood._go" sGo f fd) : FnOk P w K mg base CX0 4 f fd ["self", "deed"] (spGo CF) := by
  refine F.ok scGo (fun vs H Q E h => ?_) (fun cdv A outer s H vs Q E hr h => ?_)
  · obtain ⟨G, x, pa, la, t, n, m, B, cs, d, rfl, _⟩ := h
    rfl
  · obtain ⟨G, x, pa, la, t, n, m, B, cs, d, rfl, eG, hF, hn, hm, ht, hd, k⟩ := h
    have hu : (A.deeper (envOfC "Flood._go" (defScope sGo) s.heap.objs.size f cdv)).units + 64 < cLine := by have := hr.un; omega
    refine ⟨_, pss_cons (ps_set (i := 2) scGo.nd rfl (Or.inl rfl) (pe_fld (pv 0) rfl))
      (pss_cons (ps_expr (pe_bm PySem.F.plainAttrs_list PySem.F.slot_list_append PySem.F.type_list_append mt_append (pe_fld (pv 0) rfl) (pa_cons (pv 2) pa_nil)))
      (pss_cons (ps_fldaug (pv 0) pe_int in_add)
      (pss_cons (ps_fld (pv 0) (pe_cal CB hr (by rfl) (pa_cons (pv 2) (pa_cons (pv 1) pa_nil))) rfl)
      (pss_one (ps_ret (pe_cmpR (op_neX hu) (pe_fld (pv 0) rfl) (pv 2) (nomark _))))))), ?_⟩
    obtain ⟨dx, fs, st, hx, ff, hst⟩ := hF.ob
    obtain ⟨us, hpa, hul⟩ := hF.ps
    refine ⟨.ref x, rfl, x, CF, dx, fs, _, rfl, hx, X.cl, X.nS, ff.st, ?_⟩
    refine g_name ?_
    dsimp only
    refine ⟨.ref x, rfl, x, CF, dx, fs, _, rfl, hx, X.cl, X.nP, ff.ps, .inl ⟨rfl, _, sq_of hpa⟩, .ref st, rfl, pa, us, .ref st, rfl, rfl, hpa, by rw [sizeLine_eq]; omega, ?_⟩
    have eG1 : Ex G (upd H pa (.lst (us ++ [.ref st]))) := Ex.mut eG hF.gp
    have hx1 : (upd H pa (.lst (us ++ [.ref st]))) x = some (.ins CF dx fs) := by rw [upd_ne hF.ne]; exact hx
    refine ⟨.ref x, rfl, x, CF, dx, fs, .int (m : Int), rfl, hx1, X.cl, X.nM, ff.mn, (m : Int), 1, rfl, rfl, dx, fs, hx1, by have := ff.few; omega, ?_⟩
    have eG2 : Ex G (upd (upd H pa (.lst (us ++ [.ref st]))) x (.ins CF dx (putF "many" (.int ((m : Int) + 1)) fs))) := Ex.mut eG1 hF.gx
    have ff2 : Ff (putF "many" (.int ((m : Int) + 1)) fs) la st pa n (m + 1) := ff.many (m' := m + 1)
    have hx2 : (upd (upd H pa (.lst (us ++ [.ref st]))) x (.ins CF dx (putF "many" (.int ((m : Int) + 1)) fs))) x = some (.ins CF dx (putF "many" (.int ((m : Int) + 1)) fs)) := upd_same
    have hp2 : (upd (upd H pa (.lst (us ++ [.ref st]))) x (.ins CF dx (putF "many" (.int ((m : Int) + 1)) fs))) pa = some (.lst (us ++ [.ref st])) := by rw [upd_ne (Ne.symm hF.ne), upd_same]
    have off2 : ∀ b u, b ≠ x → b ≠ pa → H b = some u → (upd (upd H pa (.lst (us ++ [.ref st]))) x (.ins CF dx (putF "many" (.int ((m : Int) + 1)) fs))) b = some u := fun b u h1 h2 hb => by rw [upd_ne h1, upd_ne h2]; exact hb
    have tx : t ≠ x := fun z => by rw [z, hx] at ht; cases ht
    have tp : t ≠ pa := fun z => by rw [z, hpa] at ht; cases ht
    have ht2 := off2 _ _ tx tp ht
    generalize upd (upd H pa (.lst (us ++ [.ref st]))) x (.ins CF dx (putF "many" (.int ((m : Int) + 1)) fs)) = H2 at *
    generalize putF "many" (V.int ((m : Int) + 1)) fs = fs2 at *
    refine ⟨.ref st, rfl, .ref t, rfl, G, st, t, n, B, cs, d, rfl, eG2, hst, hn, ht2, hd, fun G' H3 st' gz hst' => ?_⟩
    have hx3 := gz.hx _ _ hx2
    refine ⟨.ref x, rfl, x, CF, dx, fs2, rfl, hx3, X.cl, X.nS, by have := ff2.few; omega, ?_⟩
    have g'x : G' x = none := gz.nw x _ hF.gx hx2 (fun xs z => by cases z)
    have g'p : G' pa = none := gz.nw pa _ hF.gp hp2 (fun xs z => by cases z)
    have eG4 : Ex G' (upd H3 x (.ins CF dx (putF "_state" (.ref st') fs2))) := Ex.mut gz.sub g'x
    have ff4 := ff2.state (st' := st')
    refine ⟨.ref x, rfl, x, CF, dx, _, _, rfl, upd_same, X.cl, X.nS, ff4.st, .ref st, rfl, ne_states eG4 eG4 hst' (hst.mono gz.ex) ?_⟩
    refine k G' _ ⟨gz.ex, fun b u h1 h2 hb => ?_, eG4, fun b u hb hh hnt => ?_⟩ ⟨⟨dx, _, st', upd_same, ff4, hst'⟩, ⟨us ++ [.ref st], ?_, ?_⟩, g'x, g'p, hF.ne⟩
    · rw [upd_ne h1]
      exact gz.hx _ _ (off2 _ _ h1 h2 hb)
    · by_cases c1 : b = x
      · rw [c1]; exact g'x
      by_cases c2 : b = pa
      · rw [c2]; exact g'p
      exact gz.nw b u hb (off2 _ _ c1 c2 hh) hnt
    · rw [upd_ne (Ne.symm hF.ne)]
      exact gz.hx _ _ hp2
    · simp; omega
/-! Flood.do -/
def spDo (CF : Addr) : Sp := fun vs H Q _ => ∃ (G : Hp) (x pa la t : Addr) (n m : Nat) (B : Nat → Bk) (cs : Nat → Option Nat) (d : Deed) (us : List V) (js : List Wy) (rs : Bool), vs = [.ref x, .ref t] ∧ Ex G H ∧ FdA CF G H x pa la n m B cs ∧ n ≤ 8 ∧ m < 10000 ∧ H t = some (.tup d.vs) ∧ d.may n B cs ∧ G la = some (.lst us) ∧ DqA G us (js.map wd) ∧ d.ok n js rs ∧
  ∀ G' H', Gm x pa G H G' H' → FdA CF G' H' x pa la n (m + 1) (stepB B cs d) (stepC cs d) → Q (.bl (!eqSb n (stepB B cs d) (stepC cs d) B cs)) H'
abbrev sDo : Stmt := inClass (top 21) 1
theorem scDo : FnScope ["self", "deed"] ["self", "deed"] (defScope sDo) := ⟨rfl, rfl, rfl, by decide +kernel, rfl, by decide +kernel, by decide +kernel⟩
theorem ok_do (X : FX K CF) (CD : Cal P w K mg base "is_flood_deed" ["size", "arrows", "thing"] 4 spFD) (MG : Msk P w K mg base CF "_go" ["self", "deed"] 4 (spGo CF)) (F : FnM K "do" "Flood.do" sDo f fd) : FnOk P w K mg base CX0 5 f fd ["self", "deed"] (spDo CF) := by
  obtain ⟨f1, fd1, me1, F1, b1⟩ := MG.ex
  refine F.ok scDo (fun vs H Q E h => ?_) (fun cdv A outer s H vs Q E hr h => ?_)
  · obtain ⟨G, x, pa, la, t, n, m, B, cs, d, us, js, rs, rfl, _⟩ := h
    rfl
  · obtain ⟨G, x, pa, la, t, n, m, B, cs, d, us, js, rs, rfl, eG, hF, hn, hm, ht, hd, gla, hus, hok, k⟩ := h
    have r3 : Room 4 _ := hr.mono (by decide)
    refine ⟨_, pss_cons (ps_if (pt_not (pt_val (pe_cal CD hr (by rfl) (pa_cons (pe_fld (pv 0) rfl) (pa_cons (pe_fld (pv 0) rfl) (pa_cons (pv 1) pa_nil)))))) (pss_one ps_never) pss_nil)
      (pss_one (ps_ret (pe_meth (pv 0) X.cl me1 F1 r3 b1 .nil pass0 (pa_cons (pv 1) pa_nil)))), ?_⟩
    obtain ⟨dx, fs, st, hx, ff, hst⟩ := hF.ob
    have fZ : Ev (tFld K (tVar 0) "_size") (start ["self", "deed"] [.ref x, .ref t]) H (.int (n : Int)) := fun H2 e2 Q2 q => ⟨.ref x, rfl, x, CF, dx, _, _, rfl, e2 _ _ hx, X.cl, X.nZ, ff.sz, q H2 (Ex.refl H2)⟩
    have fA : Ev (tFld K (tVar 0) "_arrows") (start ["self", "deed"] [.ref x, .ref t]) H (.ref la) := fun H2 e2 Q2 q => ⟨.ref x, rfl, x, CF, dx, _, _, rfl, e2 _ _ hx, X.cl, X.nA, ff.ar, q H2 (Ex.refl H2)⟩
    have c1 : Ev (tCall spFD [] E0 (tCons (tFld K (tVar 0) "_size") (tCons (tFld K (tVar 0) "_arrows") (tCons (tVar 1) tNil)))) (start ["self", "deed"] [.ref x, .ref t]) H (.bl true) := ev_call (ea_cons fZ (ea_cons fA (ea_cons (ev_var rfl) ea_nil))) (spP_v fun H1 e => ⟨n, la, t, us, js, d, rs, rfl, e _ _ (eG _ _ gla), hus.mono (eG.trans e), e _ _ ht, hok, rfl⟩)
    refine q_when (b := !true) (et_not (et_B c1)) (fun z => by cases z) fun _ H1 e1 => ?_
    refine ⟨.ref x, rfl, x, dx, fs, rfl, e1 _ _ hx, ff.n2, .ref t, rfl, G, x, pa, la, t, n, m, B, cs, d, rfl, eG.trans e1, hF.ext e1, hn, hm, e1 _ _ ht, hd, fun G' H' gm hF' => ?_⟩
    exact k G' H' ⟨gm.ex, fun b u h1 h2 hb => gm.off b u h1 h2 (e1 _ _ hb), gm.sub, fun b u hb hh hn => gm.nw b u hb (e1 _ _ hh) hn⟩ hF'
/-! refuse_no_router -/
abbrev spRNR : Sp := spP fun H vs z => ∃ (n r : Nat), vs = [.int (n : Int), .int (r : Int)] ∧ r < n ∧ z = .non
abbrev sRNR : Stmt := top 13
theorem scRNR : FnScope ["size", "thing"] ["size", "thing"] (defScope sRNR) := ⟨rfl, rfl, rfl, by decide +kernel, rfl, by decide +kernel, by decide +kernel⟩
theorem ok_rnr (CR : Cal P w K mg base "is_router" ["size", "thing"] 3 spRouter) (F : FnP K "refuse_no_router" sRNR f fd) : FnOk P w K mg base CX0 4 f fd ["size", "thing"] spRNR := by
  refine F.ok scRNR (fun vs H Q E h => ?_) (fun cdv A outer s H vs Q E hr h => ?_)
  · obtain ⟨z, ⟨n, r, rfl, _⟩, _⟩ := h
    rfl
  · obtain ⟨z, ⟨n, r, rfl, hrn, rfl⟩, k⟩ := h
    refine ⟨_, pss_one (ps_if (pt_not (pt_val (pe_cal CR hr (by rfl) (pa_cons (pv 0) (pa_cons (pv 1) pa_nil))))) (pss_one ps_never) pss_nil), ?_⟩
    have c2 : Ev (tCall spRouter [] E0 (tCons (tVar 0) (tCons (tVar 1) tNil))) (start ["size", "thing"] [.int (n : Int), .int (r : Int)]) H (.bl true) := ev_call (ea_cons (ev_var rfl) (ea_cons (ev_var rfl) ea_nil)) (spP_v fun H1 e => ⟨(n : Int), _, .int (r : Int), rfl, .int _, by rw [isR_yes hrn]⟩)
    exact s_when (b := !true) (et_not (et_B c2)) (fun z => by cases z) fun _ H2 e2 => k H2 e2
/-! Flood.book -/
def spBook (CF : Addr) : Sp := fun vs H Q _ => ∃ (G : Hp) (x pa la : Addr) (n m r : Nat) (B : Nat → Bk) (cs : Nat → Option Nat), vs = [.ref x, .int (r : Int)] ∧ Ex G H ∧ FdA CF G H x pa la n m B cs ∧ n ≤ 8 ∧ r < n ∧
  ∀ H' D kvs ks, Ex H H' → H D = none → H' D = some (.dK kvs) → BkD G kvs ks n (B r) → ks.Pairwise (· ≤ ·) → Q (.ref D) H'
abbrev sBook : Stmt := inClass (top 21) 2
abbrev nBook : List Str := ["self", "router", "book", "key"]
theorem scBook : FnScope nBook ["self", "router"] (defScope sBook) := ⟨rfl, rfl, rfl, by decide +kernel, rfl, by decide +kernel, by decide +kernel⟩
theorem ok_book (X : FX K CF) (hs : mg "sorted" = none) (CR : Cal P w K mg base "refuse_no_router" ["size", "thing"] 4 spRNR) (F : FnM K "book" "Flood.book" sBook f fd) : FnOk P w K mg base CX0 5 f fd ["self", "router"] (spBook CF) := by
  refine F.ok scBook (fun vs H Q E h => ?_) (fun cdv A outer s H vs Q E hr h => ?_)
  · obtain ⟨G, x, pa, la, n, m, r, B, cs, rfl, _⟩ := h
    rfl
  · obtain ⟨G, x, pa, la, n, m, r, B, cs, rfl, eG, hF, hn, hrn, k⟩ := h
    have hu : (A.deeper (envOfC "Flood.book" (defScope sBook) s.heap.objs.size f cdv)).units + 1 < cLine := by have := hr.un; omega
    refine ⟨_, pss_cons (ps_expr (pe_cal CR hr (by rfl) (pa_cons (pe_fld (pv 0) rfl) (pa_cons (pv 1) pa_nil))))
      (pss_cons (ps_set (i := 2) scBook.nd rfl (Or.inr rfl) (pe_ix ix_tup (pe_ix ix_tup (pe_fld (pv 0) rfl) pe_int (fun _ _ => rfl)) (pv 1) (fun _ _ => rfl)))
      (pss_one (ps_ret (pe_dc (own := [("key", 3)]) (g := gName 3) (tt := tYes) (tk := tVar 3) (tv := tDGet (tVar 2) (tVar 3)) rfl scBook.nd (pi_list (pe_callB (call_sortedDI rfl) (by rfl) hs boot_sorted (pa_cons (pv 2) pa_nil))) (blkOk_by (N := nBook) (sc := defScope sBook) (by decide +kernel))
        (fun _ _ _ _ _ => pg_name (i := 3) scBook.nd rfl (Or.inl rfl)) (fun _ _ _ _ _ => pts_nil) (fun _ _ _ _ _ => pv 3) (fun _ _ _ _ _ => pe_dget hu (pv 2) (pv 3) (fun _ _ => rfl)))))), ?_⟩
    obtain ⟨dx, fs, st, hx, ff, tb, tc, bs, g1, g2, g3, hB⟩ := hF.ob
    obtain ⟨a, hba, kvs, ks, ha, hbk⟩ := hB.at_ r hrn
    have fZ : Ev (tFld K (tVar 0) "_size") (start nBook [.ref x, .int (r : Int)]) H (.int (n : Int)) := fun H2 e2 Q2 q => ⟨.ref x, rfl, x, CF, dx, _, _, rfl, e2 _ _ hx, X.cl, X.nZ, ff.sz, q H2 (Ex.refl H2)⟩
    have c1 : Ev (tCall spRNR [] E0 (tCons (tFld K (tVar 0) "_size") (tCons (tVar 1) tNil))) (start nBook [.ref x, .int (r : Int)]) H .non := ev_call (ea_cons fZ (ea_cons (ev_var rfl) ea_nil)) (spP_v fun H1 e => ⟨n, r, rfl, hrn, rfl⟩)
    refine c1 H (Ex.refl _) _ fun H1 e1 => ?_
    have eG1 := eG.trans e1
    refine ⟨.ref x, rfl, x, CF, dx, fs, _, rfl, e1 _ _ hx, X.cl, X.nS, ff.st, st, _, 0, .ref tb, rfl, rfl, st_of (eG1 _ _ g1), atI_nat (j := 0) rfl, .int (r : Int), rfl, tb, bs, (r : Int), .ref a, rfl, rfl, st_of (eG1 _ _ g2), atI_nat hba, ?_⟩
    refine g_name ?_
    dsimp only
    change tRet _ _ [some (.ref x), some (.int (r : Int)), some (.ref a), none] H1
    have hl := hbk.len
    refine ⟨.ref a, rfl, a, kvs, ks, rfl, .inl (eG1 _ _ ha), hbk.nk.1, by omega, fun ys L pm pw hL => ?_⟩
    have exL := Ex.new (o := .lst (ys.map V.int)) hL
    have hLL : (upd H1 L (.lst (ys.map V.int))) L = some (.lst (ys.map V.int)) := upd_same
    generalize upd H1 L (.lst (ys.map V.int)) = H2 at *
    refine ⟨L, rfl, ⟨_, sq_of hLL⟩, fun D hD => ?_⟩
    have haL := exL _ _ (eG1 _ _ ha)
    refine dc_it (H := H2) (ks := ys) (fun _ => true) (fun k => (valV kvs (.inl k)).getD .non) walk_ints hD (by rw [pm.length_eq]; omega) (fun H' e => sq_of (e _ _ hLL)) (fun x => rfl) (by show 3 < 4; decide) (fun k hk H' e => et_yes) (fun k hk _ H' e => ?_) fun H' e hD5 => ?_
    · obtain ⟨v, hv⟩ := (hbk.nk.mem k).mp (pm.mem_iff.mp hk)
      rw [hv]
      exact ev_dget (kvs := kvs) (ev_var rfl) (ev_var rfl) (.inl (e _ _ haL)) hv
    · rw [filter_yes] at hD5
      exact k H' D _ ys ((e1.trans exL).trans e) (fresh_back (e1.trans exL) hD) hD5 (book_of hbk pm) pw
/-! Flood.content -/
def spCont (CF : Addr) : Sp := fun vs H Q _ => ∃ (G : Hp) (x pa la : Addr) (n m r : Nat) (B : Nat → Bk) (cs : Nat → Option Nat), vs = [.ref x, .int (r : Int)] ∧ Ex G H ∧ FdA CF G H x pa la n m B cs ∧ n ≤ 8 ∧ r < n ∧ ∀ H', Ex H H' → Q (oV (cs r)) H'
abbrev sCont : Stmt := inClass (top 21) 3
theorem scCont : FnScope ["self", "router"] ["self", "router"] (defScope sCont) := ⟨rfl, rfl, rfl, by decide +kernel, rfl, by decide +kernel, by decide +kernel⟩
theorem ok_cont (X : FX K CF) (CR : Cal P w K mg base "refuse_no_router" ["size", "thing"] 4 spRNR) (F : FnM K "content" "Flood.content" sCont f fd) : FnOk P w K mg base CX0 5 f fd ["self", "router"] (spCont CF) := by
  refine F.ok scCont (fun vs H Q E h => ?_) (fun cdv A outer s H vs Q E hr h => ?_)
  · obtain ⟨G, x, pa, la, n, m, r, B, cs, rfl, _⟩ := h
    rfl
  · obtain ⟨G, x, pa, la, n, m, r, B, cs, rfl, eG, hF, hn, hrn, k⟩ := h
    refine ⟨_, pss_cons (ps_expr (pe_cal CR hr (by rfl) (pa_cons (pe_fld (pv 0) rfl) (pa_cons (pv 1) pa_nil))))
      (pss_one (ps_ret (pe_ix ix_tup (pe_ix ix_tup (pe_fld (pv 0) rfl) pe_int (fun _ _ => rfl)) (pv 1) (fun _ _ => rfl)))), ?_⟩
    obtain ⟨dx, fs, st, hx, ff, tb, tc, bs, g1, g2, g3, hB⟩ := hF.ob
    have fZ : Ev (tFld K (tVar 0) "_size") (start ["self", "router"] [.ref x, .int (r : Int)]) H (.int (n : Int)) := fun H2 e2 Q2 q => ⟨.ref x, rfl, x, CF, dx, _, _, rfl, e2 _ _ hx, X.cl, X.nZ, ff.sz, q H2 (Ex.refl H2)⟩
    have c1 : Ev (tCall spRNR [] E0 (tCons (tFld K (tVar 0) "_size") (tCons (tVar 1) tNil))) (start ["self", "router"] [.ref x, .int (r : Int)]) H .non := ev_call (ea_cons fZ (ea_cons (ev_var rfl) ea_nil)) (spP_v fun H1 e => ⟨n, r, rfl, hrn, rfl⟩)
    refine c1 H (Ex.refl _) _ fun H1 e1 => ?_
    have eG1 := eG.trans e1
    exact ⟨.ref x, rfl, x, CF, dx, fs, _, rfl, e1 _ _ hx, X.cl, X.nS, ff.st, st, _, 1, .ref tc, rfl, rfl, st_of (eG1 _ _ g1), atI_nat (j := 1) rfl, .int (r : Int), rfl, tc, _, (r : Int), oV (cs r), rfl, rfl, st_of (eG1 _ _ g3), atI_nat (cV_at hrn), k H1 e1⟩
/-! Flood.is_calm -/
/-- no pass along an arrow changes the state -/
noncomputable def calmB (n : Nat) (B : Nat → Bk) (cs : Nat → Option Nat) (js : List Wy) : Bool := js.all fun w => eqSb n (stepB B cs (.pas (w.getD 0 0).toNat (w.getD 1 0).toNat)) cs B cs
def spCalm (CF : Addr) : Sp := fun vs H Q _ => ∃ (G : Hp) (x pa la : Addr) (n m : Nat) (B : Nat → Bk) (cs : Nat → Option Nat) (us : List V) (js : List Wy), vs = [.ref x] ∧ Ex G H ∧ FdA CF G H x pa la n m B cs ∧ n ≤ 8 ∧ G la = some (.lst us) ∧ DqA G us (js.map wd) ∧ (∀ w ∈ js, PrOk n w) ∧ js.length ≤ 64 ∧
  (∀ a b : Nat, [(a : Int), (b : Int)] ∈ js → newer (B b) (B a) b = true → ∃ c, cs b = some c) ∧ ∀ H', Ex H H' → Q (.bl (calmB n B cs js)) H'
abbrev sCalm : Stmt := inClass (top 21) 5
abbrev nCalm : List Str := ["self", "a", "b"]
theorem scCalm : FnScope nCalm ["self"] (defScope sCalm) := ⟨rfl, rfl, rfl, by decide +kernel, rfl, by decide +kernel, by decide +kernel⟩
theorem ok_calm (B0 : Bl mg) (X : FX K CF) (CB : Cal P w K mg base "behind" ["state", "deed"] 3 spBeh) (F : FnM K "is_calm" "Flood.is_calm" sCalm f fd) : FnOk P w K mg base CX0 4 f fd ["self"] (spCalm CF) := by
  refine F.ok scCalm (fun vs H Q E h => ?_) (fun cdv A outer s H vs Q E hr h => ?_)
  · obtain ⟨G, x, pa, la, n, m, B, cs, us, js, rfl, _⟩ := h
    rfl
  · obtain ⟨G, x, pa, la, n, m, B, cs, us, js, rfl, eG, hF, hn, gla, hus, hok, hjl, hmay, k⟩ := h
    have hu : (A.deeper (envOfC "Flood.is_calm" (defScope sCalm) s.heap.objs.size f cdv)).units + 64 < cLine := by have := hr.un; omega
    refine ⟨_, pss_one (ps_ret (pe_callB (cr_all rfl) (by rfl) B0.all boot_all (pa_cons
      (pe_lc (own := [("a", 1), ("b", 2)]) (g := gTup K 2 (gCons (gName 1) (gCons (gName 2) gNil))) (tt := tYes) (te := tOp rEqX (tCall spBeh [] E0 (tCons (tFld K (tVar 0) "_state") (tCons (tTup (tCons (tC (.str "pass")) (tCons (tVar 1) (tCons (tVar 2) tNil)))) tNil))) (tFld K (tVar 0) "_state")) rfl scCalm.nd
        (pi_list (pe_fld (pv 0) rfl)) (blkOk_by (N := nCalm) (sc := defScope sCalm) (by decide +kernel)) (fun _ _ _ _ _ => pg_tup rfl (pgs_cons (pg_name (i := 1) scCalm.nd rfl (Or.inl rfl)) (pgs_cons (pg_name (i := 2) scCalm.nd rfl (Or.inl rfl)) pgs_nil)))
        (fun _ _ _ _ _ => pts_nil)
        (fun _ _ _ _ _ => pe_cmpR (op_eqX hu) (pe_cal CB hr (by rfl) (pa_cons (pe_fld (pv 0) rfl) (pa_cons (pe_tup (pa_cons pe_str (pa_cons (pv 1) (pa_cons (pv 2) pa_nil)))) pa_nil))) (pe_fld (pv 0) rfl) rfl)) pa_nil))), ?_⟩
    obtain ⟨dx, fs, st, hx, ff, hst⟩ := hF.ob
    have hul := hus.length
    rw [List.length_map] at hul
    let v : Nat → Bool := fun j => eqSb n (stepB B cs (.pas ((js.getD j []).getD 0 0).toNat ((js.getD j []).getD 1 0).toNat)) cs B cs
    refine ⟨.ref x, rfl, x, CF, dx, fs, _, rfl, hx, X.cl, X.nA, ff.ar, la, rfl, ⟨us, sq_of (eG _ _ gla)⟩, fun D hD => ?_⟩
    refine lc_it (walk_list (K := K) (a := la) (xs := us)) (fun i H' => Ex H H' ∧ H' D = some (.lst ((List.range i).map fun j => V.bl (v j)))) ⟨Ex.new hD, upd_same⟩ (fun i H' _ p => sq_of (p.1 _ _ (eG _ _ gla))) (fun i y H1 H2 hi p yt => ?_) (fun H' p => ?_)
    · obtain ⟨rfl, hy⟩ := yt
      obtain ⟨e1, hD1⟩ := p
      obtain ⟨w, h1, h2⟩ := DqA.wds_inv hus hy
      obtain ⟨ta, rfl, hta⟩ := wd_ref h2
      have hwm := List.mem_of_getElem? h1
      obtain ⟨a, b, rfl, ha, hb, _⟩ := hok w hwm
      have eG1 := eG.trans e1
      have hjd : js.getD i [] = [(a : Int), (b : Int)] := by rw [List.getD_eq_getElem?_getD, h1]; rfl
      refine ⟨ta, _, rfl, st_of (eG1 _ _ hta), rfl, g_two ⟨rfl, ?_⟩⟩
      unfold tYes
      dsimp only
      rw [if_pos rfl]
      change tOp rEqX _ _ [some (.ref x), some (.int (a : Int)), some (.int (b : Int))] _ _
      refine ⟨.ref x, rfl, x, CF, dx, fs, _, rfl, e1 _ _ hx, X.cl, X.nS, ff.st, .int (a : Int), rfl, .int (b : Int), rfl, by show 3 ≤ sizeLine; decide, fun t ht => ?_⟩
      have eN := Ex.new (o := .tup [V.str "pass", .int (a : Int), .int (b : Int)]) ht
      refine ⟨G, st, t, n, B, cs, .pas a b, rfl, eG1.trans eN, hst, hn, upd_same, ⟨ha, hb, hmay a b hwm⟩, fun G' H3 st' gz hst' => ?_⟩
      have e03 := (e1.trans eN).trans gz.hx
      refine ⟨.ref x, rfl, x, CF, dx, fs, _, rfl, e03 _ _ hx, X.cl, X.nS, ff.st, ?_⟩
      refine eq_states gz.sub gz.sub hst' (hst.mono gz.ex) ?_
      refine ⟨_, gz.hx _ _ (eN _ _ hD1), by rw [List.length_map, List.length_range, sizeLine_eq]; omega, Ex.mut e03 hD, ?_⟩
      rw [upd_same, List.range_succ, List.map_append]
      show _ = some (HO.lst (_ ++ [V.bl (v i)]))
      have ev : v i = eqSb n (stepB B cs (.pas a b)) cs B cs := by
        show eqSb n (stepB B cs (.pas ((js.getD i []).getD 0 0).toNat ((js.getD i []).getD 1 0).toNat)) cs B cs = _
        rw [hjd]
        rfl
      rw [ev]
      rfl
    · obtain ⟨e1, hD1⟩ := p
      refine ⟨D, (List.range us.length).map v, rfl, by rw [List.map_map]; exact sq_of hD1, ?_⟩
      have ez : ((List.range us.length).map v).all id = calmB n B cs js := by
        rw [List.all_map, hul]
        unfold calmB
        rw [Bool.eq_iff_iff, List.all_eq_true, List.all_eq_true]
        constructor
        · intro h w hw
          obtain ⟨i, hi, rfl⟩ := List.mem_iff_getElem.mp hw
          have z := h i (List.mem_range.mpr hi)
          have e : js.getD i [] = js[i] := by rw [List.getD_eq_getElem?_getD, List.getElem?_eq_getElem hi]; rfl
          show eqSb n (stepB B cs (.pas ((js[i]).getD 0 0).toNat ((js[i]).getD 1 0).toNat)) cs B cs = true
          rw [← e]
          exact z
        · intro h i hi
          have hi := List.mem_range.mp hi
          have z := h js[i] (List.getElem_mem hi)
          have e : js.getD i [] = js[i] := by rw [List.getD_eq_getElem?_getD, List.getElem?_eq_getElem hi]; rfl
          show eqSb n (stepB B cs (.pas ((js.getD i []).getD 0 0).toNat ((js.getD i []).getD 1 0).toNat)) cs B cs = true
          rw [e]
          exact z
      rw [ez]
      exact k H' e1
/-! Flood.__init__ -/
def spInit (CF : Addr) : Sp := fun vs H Q _ => ∃ (G : Hp) (x l dx : Addr) (n : Nat) (us : List V) (prs : List Wy), vs = [.ref x, .int (n : Int), .ref l] ∧ H x = some (.ins CF dx []) ∧ Ex G H ∧ G x = none ∧ G l = some (.lst us) ∧ DqA G us (prs.map wd) ∧ (∀ p ∈ prs, PrOk n p) ∧ prs.length ≤ 22 ∧ 1 ≤ n ∧ n ≤ 8 ∧
  ∀ G' H' pa la us', Ex G G' → Ex G' H' → (∀ b u, b ≠ x → H b = some u → H' b = some u) → (∀ b u, G b = none → H b = some u → (∀ xs, u ≠ .tup xs) → G' b = none) → H pa = none → FdA CF G' H' x pa la n 0 (fun _ _ => none) (fun _ => none) → G' la = some (.lst us') → DqA G' us' ((joinW prs).map wd) → Q .non H'
abbrev sInit : Stmt := inClass (top 21) 0
abbrev nInit : List Str := ["self", "size", "links"]
theorem scInit : FnScope nInit nInit (defScope sInit) := ⟨rfl, rfl, rfl, by decide +kernel, rfl, by decide +kernel, by decide +kernel⟩
theorem cV_none (n : Nat) : List.replicate n V.non = cV n fun _ => none := by
  unfold cV
  apply List.ext_getElem
  · simp
  · intro i h1 h2
    simp [oV]
theorem ok_init (X : FX K CF) (CW : Cal P w K mg base "refuse_wrong_flood" ["size", "links"] 6 spRWF) (CB : Cal P w K mg base "both_ways" ["links"] 1 spPairs) (F : FnM K "__init__" "Flood.__init__" sInit f fd) : FnOk P w K mg base CX0 7 f fd nInit (spInit CF) := by
  refine F.ok scInit (fun vs H Q E h => ?_) (fun cdv A outer s H vs Q E hr h => ?_)
  · obtain ⟨G, x, l, dx, n, us, prs, rfl, _⟩ := h
    rfl
  · obtain ⟨G, x, l, dx, n, us, prs, rfl, hx, eG, gx, gl, hus, hok, hpl, hn1, hn8, k⟩ := h
    refine ⟨_, pss_cons (ps_expr (pe_cal CW hr (by rfl) (pa_cons (pv 1) (pa_cons (pv 2) pa_nil))))
      (pss_cons (ps_fld (pv 0) (pv 1) rfl)
      (pss_cons (ps_fld (pv 0) (pe_cal CB hr (by rfl) (pa_cons (pv 2) pa_nil)) rfl)
      (pss_cons (ps_fld (pv 0) (pe_tup (pa_cons (pe_op (op_repU (K := K) rfl) (pe_tup (pa_cons pe_dnewK pa_nil)) (pv 1)) (pa_cons (pe_op (op_repU (K := K) rfl) (pe_tup (pa_cons pe_non pa_nil)) (pv 1)) pa_nil))) rfl)
      (pss_cons (ps_fld (pv 0) pe_int rfl)
      (pss_one (ps_fld (pv 0) (pe_lst pa_nil) rfl)))))), ?_⟩
    have hprs8 : ∀ w ∈ prs, PrOk 8 w := fun w hw => by
      obtain ⟨u, v, e, h1, h2, h3⟩ := hok w hw
      exact ⟨u, v, e, by omega, by omega, h3⟩
    have c1 : Ev (tCall spRWF [] E0 (tCons (tVar 1) (tCons (tVar 2) tNil))) (start nInit [.ref x, .int (n : Int), .ref l]) H .non := ev_call (ea_cons (ev_var rfl) (ea_cons (ev_var rfl) ea_nil)) (spP_v fun H1 e => ⟨n, l, us, prs, rfl, hn1, hn8, e _ _ (eG _ _ gl), hus.mono (eG.trans e), hok, by omega, rfl⟩)
    refine c1 H (Ex.refl _) _ fun H1 e1 => ?_
    have eG1 := eG.trans e1
    refine ⟨.int (n : Int), rfl, .ref x, rfl, x, CF, dx, [], rfl, e1 _ _ hx, X.cl, X.nZ, by decide, ?_⟩
    have off2 : ∀ b u, b ≠ x → H b = some u → (upd H1 x (.ins CF dx (putF "_size" (.int (n : Int)) []))) b = some u := fun b u hb hh => by rw [upd_ne hb]; exact e1 _ _ hh
    have eG2 : Ex G (upd H1 x (.ins CF dx (putF "_size" (.int (n : Int)) []))) := Ex.mut eG1 gx
    have hx2 : (upd H1 x (.ins CF dx (putF "_size" (.int (n : Int)) []))) x = some (.ins CF dx (putF "_size" (.int (n : Int)) [])) := upd_same
    generalize upd H1 x (.ins CF dx (putF "_size" (.int (n : Int)) [])) = H2 at *
    refine ⟨.ref l, rfl, l, us, prs, rfl, eG2 _ _ gl, hus.mono eG2, hprs8, hpl, fun H3 la us' e3 nla hla husa => ?_⟩
    have hx3 := e3 _ _ hx2
    refine ⟨.ref x, rfl, x, CF, dx, _, rfl, hx3, X.cl, X.nA, ?_, ?_⟩
    · exact Nat.lt_of_le_of_lt (len_putF _ _ _) (by decide)
    have xla : la ≠ x := fun z => by rw [z, hx2] at nla; cases nla
    obtain ⟨ks, k1, k2, k3⟩ := wds_ks husa
    have o3 : Of1 x H H3 := fun b u hb hh => e3 _ _ (off2 b u hb hh)
    have nla0 : H la = none := by
      cases e : H la with
      | none => rfl
      | some u => rw [off2 la u xla e] at nla; cases nla
    have xks : ∀ p ∈ ks, p.1 ≠ x := fun p hp z => by
      have := k3 p hp
      rw [z, hx3] at this
      cases this
    have eG4 : Ex G (upd H3 x (.ins CF dx (putF "_arrows" (.ref la) (putF "_size" (.int (n : Int)) [])))) := Ex.mut (eG2.trans e3) gx
    have hx4 : (upd H3 x (.ins CF dx (putF "_arrows" (.ref la) (putF "_size" (.int (n : Int)) [])))) x = some (.ins CF dx (putF "_arrows" (.ref la) (putF "_size" (.int (n : Int)) []))) := upd_same
    have o4 := o3.trans (Of1.upd x H3 (.ins CF dx (putF "_arrows" (.ref la) (putF "_size" (.int (n : Int)) []))))
    have hla4 := Of1.upd x H3 (.ins CF dx (putF "_arrows" (.ref la) (putF "_size" (.int (n : Int)) []))) la _ xla hla
    have k34 : ∀ p ∈ ks, (upd H3 x (.ins CF dx (putF "_arrows" (.ref la) (putF "_size" (.int (n : Int)) [])))) p.1 = some (.tup (p.2.map V.int)) := fun p hp => Of1.upd x H3 _ _ _ (xks p hp) (k3 p hp)
    have ln2 : (putF "_arrows" (.ref la) (putF "_size" (V.int (n : Int)) [])).length ≤ 2 := Nat.le_trans (len_putF _ _ _) (Nat.succ_le_succ (len_putF _ _ _))
    generalize upd H3 x (.ins CF dx (putF "_arrows" (.ref la) (putF "_size" (.int (n : Int)) []))) = H4 at *
    clear k3 hla hx3 o3 hx2 off2 nla e3
    intro D0 nD0
    refine ⟨by show 1 ≤ sizeLine; decide, fun T0 nT0 => ?_⟩
    have xD0 : D0 ≠ x := fun z => by rw [z, hx4] at nD0; cases nD0
    have nD00 := o4.back xD0 nD0
    have e45 := Ex.new (o := .dK []) nD0
    have e56 := Ex.new (o := .tup [V.ref D0]) nT0
    have hD6 := e56 _ _ (show (upd H4 D0 (.dK [])) D0 = some (.dK []) from upd_same)
    have hT6 : (upd (upd H4 D0 (.dK [])) T0 (.tup [V.ref D0])) T0 = some (.tup [V.ref D0]) := upd_same
    have e46 := e45.trans e56
    generalize upd (upd H4 D0 (.dK [])) T0 (.tup [V.ref D0]) = H6 at *
    have z1 := es_rep (K := K) (σ := [some (.ref x), some (.int (n : Int)), some (.ref l)]) (H := H6) (ta := tC (.ref T0)) (tb := tVar 1) (v := .ref D0) (n := n) (es_var ev_c hT6) (ev_var rfl) hn1 (by omega)
    refine z1 H6 (Ex.refl _) _ fun tb H7 e67 htb => ?_
    have z2 := es_rep (K := K) (σ := [some (.ref x), some (.int (n : Int)), some (.ref l)]) (H := H7) (ta := tTup (tCons (tC .non) tNil)) (tb := tVar 1) (v := .non) (n := n) (es_tup (xs := [.non]) (ea_cons ev_c ea_nil) (by show 1 ≤ 100000; decide)) (ev_var rfl) hn1 (by omega)
    refine z2 H7 (Ex.refl _) _ fun tc H8 e78 htc => ?_
    refine ⟨by show 2 ≤ sizeLine; decide, fun st nst => ?_⟩
    have e89 := Ex.new (o := .tup [V.ref tb, V.ref tc]) nst
    have hst : (upd H8 st (.tup [V.ref tb, V.ref tc])) st = some (.tup [V.ref tb, V.ref tc]) := upd_same
    have e49 := (e46.trans (e67.trans e78)).trans e89
    have htb9 := e89 _ _ (e78 _ _ htb)
    have htc9 := e89 _ _ htc
    have hD9 := e89 _ _ (e78 _ _ (e67 _ _ hD6))
    generalize upd H8 st (.tup [V.ref tb, V.ref tc]) = H9 at *
    have hx9 := e49 _ _ hx4
    refine ⟨.ref x, rfl, x, CF, dx, _, rfl, hx9, X.cl, X.nS, Nat.lt_of_le_of_lt ln2 (by decide), ?_⟩
    have o9 : Of1 x H H9 := o4.trans (Of1.ex e49)
    have ln3 : (putF "_state" (.ref st) (putF "_arrows" (.ref la) (putF "_size" (V.int (n : Int)) []))).length ≤ 3 := Nat.le_trans (len_putF _ _ _) (Nat.succ_le_succ ln2)
    have ln4 : (putF "many" (.int 0) (putF "_state" (.ref st) (putF "_arrows" (.ref la) (putF "_size" (V.int (n : Int)) [])))).length ≤ 4 := Nat.le_trans (len_putF _ _ _) (Nat.succ_le_succ ln3)
    refine ⟨.ref x, rfl, x, CF, dx, _, rfl, upd_same, X.cl, X.nM, Nat.lt_of_le_of_lt ln3 (by decide), ?_⟩
    have eB : Ex G H9 := eG4.trans e49
    have oB := Of1.trans (Of1.upd x H9 (.ins CF dx (putF "_state" (.ref st) (putF "_arrows" (.ref la) (putF "_size" (V.int (n : Int)) []))))) (Of1.upd x _ (.ins CF dx (putF "many" (.int 0) (putF "_state" (.ref st) (putF "_arrows" (.ref la) (putF "_size" (V.int (n : Int)) []))))))
    have hxB : (upd (upd H9 x (.ins CF dx (putF "_state" (.ref st) (putF "_arrows" (.ref la) (putF "_size" (V.int (n : Int)) []))))) x (.ins CF dx (putF "many" (.int 0) (putF "_state" (.ref st) (putF "_arrows" (.ref la) (putF "_size" (V.int (n : Int)) [])))))) x = some (.ins CF dx (putF "many" (.int 0) (putF "_state" (.ref st) (putF "_arrows" (.ref la) (putF "_size" (V.int (n : Int)) []))))) := upd_same
    have eGB : Ex G (upd (upd H9 x (.ins CF dx (putF "_state" (.ref st) (putF "_arrows" (.ref la) (putF "_size" (V.int (n : Int)) []))))) x (.ins CF dx (putF "many" (.int 0) (putF "_state" (.ref st) (putF "_arrows" (.ref la) (putF "_size" (V.int (n : Int)) [])))))) := Ex.mut (Ex.mut eB gx) gx
    generalize upd (upd H9 x (.ins CF dx (putF "_state" (.ref st) (putF "_arrows" (.ref la) (putF "_size" (V.int (n : Int)) []))))) x (.ins CF dx (putF "many" (.int 0) (putF "_state" (.ref st) (putF "_arrows" (.ref la) (putF "_size" (V.int (n : Int)) []))))) = HB at *
    refine ⟨by show 0 ≤ sizeLine; decide, fun pa npa => ?_⟩
    have xpa : pa ≠ x := fun z => by rw [z, hxB] at npa; cases npa
    have eC := Ex.new (o := .lst ([] : List V)) npa
    have hpC : (upd HB pa (.lst ([] : List V))) pa = some (.lst []) := upd_same
    refine ⟨.ref x, rfl, x, CF, dx, _, rfl, eC _ _ hxB, X.cl, X.nP, Nat.lt_of_le_of_lt ln4 (by decide), ?_⟩
    have oF : Of1 x H9 (upd (upd HB pa (.lst ([] : List V))) x (.ins CF dx (putF "_past" (.ref pa) (putF "many" (.int 0) (putF "_state" (.ref st) (putF "_arrows" (.ref la) (putF "_size" (V.int (n : Int)) []))))))) := (oB.trans (Of1.ex eC)).trans (Of1.upd x _ _)
    have hxF : (upd (upd HB pa (.lst ([] : List V))) x (.ins CF dx (putF "_past" (.ref pa) (putF "many" (.int 0) (putF "_state" (.ref st) (putF "_arrows" (.ref la) (putF "_size" (V.int (n : Int)) []))))))) x = some (.ins CF dx (putF "_past" (.ref pa) (putF "many" (.int 0) (putF "_state" (.ref st) (putF "_arrows" (.ref la) (putF "_size" (V.int (n : Int)) [])))))) := upd_same
    have hpF : (upd (upd HB pa (.lst ([] : List V))) x (.ins CF dx (putF "_past" (.ref pa) (putF "many" (.int 0) (putF "_state" (.ref st) (putF "_arrows" (.ref la) (putF "_size" (V.int (n : Int)) []))))))) pa = some (.lst []) := by rw [upd_ne xpa]; exact hpC
    have eGF : Ex G (upd (upd HB pa (.lst ([] : List V))) x (.ins CF dx (putF "_past" (.ref pa) (putF "many" (.int 0) (putF "_state" (.ref st) (putF "_arrows" (.ref la) (putF "_size" (V.int (n : Int)) []))))))) := Ex.mut (eGB.trans eC) gx
    have np9 : H9 pa = none := oB.back xpa npa
    have np0 : H pa = none := o9.back xpa np9
    dsimp only
    generalize upd (upd HB pa (.lst ([] : List V))) x (.ins CF dx (putF "_past" (.ref pa) (putF "many" (.int 0) (putF "_state" (.ref st) (putF "_arrows" (.ref la) (putF "_size" (V.int (n : Int)) [])))))) = HF at *
    have oH : Of1 x H HF := o9.trans oF
    have nx : ∀ {b u}, H9 b = some u → (∀ C d fs, u ≠ .ins C d fs) → b ≠ x := fun {b u} hb hu z => by
      rw [z, hx9] at hb
      cases hb
      exact hu _ _ _ rfl
    have npx : ∀ {b u}, H9 b = some u → b ≠ pa := fun {b u} hb z => by rw [z, np9] at hb; cases hb
    have tupF : ∀ {b xs}, H9 b = some (.tup xs) → NewG G H HF x pa b = some (.tup xs) := fun {b xs} hb => by
      have h1 := nx hb (fun _ _ _ z => by cases z)
      exact newG_tup oH h1 (npx hb) (oF _ _ h1 hb)
    have hla9 := e49 _ _ hla4
    refine k (NewG G H HF x pa) HF pa la us' (newG_ex eG eGF gx np0) (newG_sub eGF) oH (fun b u hb hh hn => newG_nw hb hh hn) np0 ⟨⟨dx, _, st, hxF, ?_, tb, tc, _, tupF hst, tupF htb9, ?_, ?_⟩, ⟨[], hpF, Nat.le_refl _⟩, ?_, ?_, Ne.symm xpa⟩ ?_ ?_
    · refine ⟨?_, ?_, ?_, ?_, lk_putS, ?_, ?_, ?_, ?_, ?_, Nat.le_trans (len_putF _ _ _) (Nat.le_trans (Nat.succ_le_succ ln4) (by decide))⟩
      · rw [lk_putF (by decide +kernel), lk_putF (by decide +kernel), lk_putF (by decide +kernel), lk_putF (by decide +kernel)]
        exact lk_putS
      · rw [lk_putF (by decide +kernel), lk_putF (by decide +kernel), lk_putF (by decide +kernel)]
        exact lk_putS
      · rw [lk_putF (by decide +kernel), lk_putF (by decide +kernel)]
        exact lk_putS
      · rw [lk_putF (by decide +kernel)]
        exact lk_putS
      all_goals
        rw [lk_putF (by decide +kernel), lk_putF (by decide +kernel), lk_putF (by decide +kernel), lk_putF (by decide +kernel), lk_putF (by decide +kernel)]
        rfl
    · rw [← cV_none]
      exact tupF htc9
    · refine ⟨List.length_replicate, fun r hr => ⟨D0, ?_, [], [], ?_, BkD.nil _ n⟩⟩
      · rw [List.getElem?_replicate, if_pos hr]
      · rw [newG_new xD0 (npx hD9) nD00]
        exact oF _ _ xD0 hD9
    · unfold NewG
      rw [if_pos (.inl rfl)]
    · unfold NewG
      rw [if_pos (.inr rfl)]
    · rw [newG_new xla (npx hla9) nla0]
      exact oF _ _ xla hla9
    · rw [k1, ← k2]
      exact ks_wds fun q hq => tupF (e49 _ _ (k34 q hq))
end
end Wk

set_option Elab.async false
set_option linter.all false
set_option maxRecDepth 100000
set_option maxHeartbeats 4000000
namespace Wk
open PySem PySem.Spec PyProof.Rows L2 Evl
def rListD : List V → Hp → VK → Prop := fun xs H Q => ∃ (a : Addr) (kvs : List (L2.Key × V)), xs = [.ref a] ∧ Rd H a (.dK kvs) ∧ ∀ p, H p = none → Q (.ref p) (upd H p (.lst (kvs.map fun kv => kV kv.1)))
theorem call_listD' {X : Cx} (hc : X.calm = true) : CallR X (.type "list") rListD := call_listD hc
theorem perm_asc : ∀ {a b : List Int}, a.Perm b → a.Pairwise (· ≤ ·) → b.Pairwise (· ≤ ·) → a = b
  | [], b, p, _, _ => (List.Perm.nil_eq p)
  | x :: a, [], p, _, _ => absurd p.length_eq (by simp)
  | x :: a, y :: b, p, h1, h2 => by
    have h1' := List.pairwise_cons.mp h1
    have h2' := List.pairwise_cons.mp h2
    have e : x = y := by
      have hx : x ∈ y :: b := p.mem_iff.mp List.mem_cons_self
      have hy : y ∈ x :: a := p.mem_iff.mpr List.mem_cons_self
      have l1 : y ≤ x := by
        rcases List.mem_cons.mp hx with z | z
        · omega
        · exact h2'.1 x z
      have l2 : x ≤ y := by
        rcases List.mem_cons.mp hy with z | z
        · omega
        · exact h1'.1 y z
      omega
    subst e
    rw [perm_asc (List.Perm.cons_inv p) h1'.2 h2'.2]
section
variable {K : PySem.W.Frag} {σ : L2.St} {H : Hp} {ta tb te : TE}
theorem el_listD {a : Addr} {kvs : List (L2.Key × V)} {ks : List Int} (ha : Ev ta σ H (.ref a)) (hr : Rd H a (.dK kvs)) (nk : NK kvs ks) : EvL (tCB rListD (tCons ta tNil)) σ H (ks.map V.int) := fun H1 e Q q =>
  ha H1 e _ fun H2 e2 => ⟨a, kvs, rfl, rd_up (e.trans e2) hr, fun p hp => q p _ (fresh_back e2 hp) (e2.trans (Ex.new hp)) (by rw [upd_same, keysV nk])⟩
theorem el_sortP {ks ys : List Int} (ha : EvL ta σ H (ks.map V.int)) (p : ys.Perm ks) (h : ys.Pairwise (· ≤ ·)) : EvL (tCB (rSortedI K) (tCons ta tNil)) σ H (ys.map V.int) := fun H1 e Q q =>
  ha H1 e _ fun r H2 hr e2 h2 => ⟨r, ks, rfl, sq_of h2, fun ns l pm pw hl => by
    rw [perm_asc (pm.trans p.symm) pw h]
    exact q l _ (fresh_back e2 hl) (e2.trans (Ex.new hl)) upd_same⟩
theorem el_sortI {ks : List Int} (ha : EvL ta σ H (ks.map V.int)) (h : ks.Pairwise (· ≤ ·)) : EvL (tCB (rSortedI K) (tCons ta tNil)) σ H (ks.map V.int) := fun H1 e Q q =>
  ha H1 e _ fun p H2 hp e2 h2 => ⟨p, ks, rfl, sq_of h2, fun ns l pm pw hl => by
    rw [perm_asc pm pw h]
    exact q l _ (fresh_back e2 hl) (e2.trans (Ex.new hl)) upd_same⟩
theorem shaped_intsL (ns : List Int) : SeqAt.shaped (.list (ns.map PyData.int)) = true := by
  unfold SeqAt.shaped
  have h1 := lay_ints ns
  have h2 := depth_ints ns
  simp [PyData.canLay0, PyData.depth, h1, h2]
theorem ev_neL {xs ys : List Int} (ha : EvL ta σ H (xs.map V.int)) (hb : EvL tb σ H (ys.map V.int)) : Ev (tOp (rNeD K) ta tb) σ H (.bl (!decide (xs = ys))) := fun H1 e Q q =>
  ha H1 e _ fun p H2 _ e2 hp => hb H2 (e.trans e2) _ fun r H3 _ e3 hr => by
    refine ⟨.list (xs.map PyData.int), .list (ys.map PyData.int), Dq.dp ?_ (.lst (e3 _ _ hp) (DqA.ints xs)), Dq.dp ?_ (.lst hr (DqA.ints ys)), shaped_intsL xs, shaped_intsL ys, ?_⟩
    · simp [PyData.canLay0, lay_ints]
    · simp [PyData.canLay0, lay_ints]
    · have z : PyData.eqv (.list (xs.map PyData.int)) (.list (ys.map PyData.int)) = decide (xs = ys) := eqv_ints xs ys
      rw [z]
      exact q H3 (e2.trans e3)
theorem ev_neT {a : Addr} {xs ys : Wy} (h1 : Ev ta σ H (.ref a)) (ha : H a = some (.tup (xs.map V.int))) (hb : EvS tb σ H (ys.map V.int)) : Ev (tOp (rNeD K) ta tb) σ H (.bl (!decide (xs = ys))) := fun H1 e Q q =>
  h1 H1 e _ fun H2 e2 => hb H2 (e.trans e2) _ fun r H3 e3 hr => by
    refine ⟨wd xs, wd ys, Dq.dp ?_ (wd_of (((e.trans e2).trans e3) _ _ ha)), Dq.dp ?_ (wd_of hr), shaped_ints xs, shaped_ints ys, ?_⟩
    · simp [wd, PyData.canLay0, lay_ints]
    · simp [wd, PyData.canLay0, lay_ints]
    · rw [eqv_wd]
      exact q H3 (e2.trans e3)
theorem ev_isiD {a : Addr} {kvs : List (L2.Key × V)} (h : Ev ta σ H (.ref a)) (hd : H a = some (.dK kvs)) : Ev (tCB (rIsi K) (tCons ta (tCons (tC (.ty "dict")) tNil))) σ H (.bl true) := fun H1 e Q q =>
  h H1 e _ fun H2 e2 => ⟨.ref a, .ty "dict", .type "dict", .type "dict", true, rfl, .ty "dict", .base (.dK ((e.trans e2) _ _ hd)), kit_ty (show kitB "dict" "dict" = some true by decide +kernel), q H2 e2⟩
end
def nV (ws : List Nat) : List V := ws.map fun (c : Nat) => V.int (c : Int)
theorem nV_at {ws : List Nat} {i c : Nat} (h : ws[i]? = some c) : (nV ws)[i]? = some (.int (c : Int)) := by
  unfold nV
  rw [List.getElem?_map, h]
  rfl
theorem nV_len (ws : List Nat) : (nV ws).length = ws.length := by unfold nV; simp
def waV (n : Nat) (wa : Nat → Addr) : List V := (List.range n).map fun r => V.ref (wa r)
theorem waV_at {n : Nat} {wa : Nat → Addr} {r : Nat} (h : r < n) : (waV n wa)[r]? = some (.ref (wa r)) := by
  unfold waV
  rw [List.getElem?_map, List.getElem?_range h]
  rfl

/-! two routers' books -/
def SB (a b : Nat) (oa ob ba bb : Option Ent) : Nat → Bk := fun r => if r = a then (fun k => if k = a then oa else if k = b then ob else none) else if r = b then (fun k => if k = a then ba else if k = b then bb else none) else fun _ => none
def SC (a b : Nat) (ca cb : Option Nat) : Nat → Option Nat := fun r => if r = a then ca else if r = b then cb else none
theorem step_wa {a b c : Nat} {oa ob ba bb : Option Ent} {cs : Nat → Option Nat} : stepB (SB a b oa ob ba bb) cs (.wri a c) = SB a b (some (numN oa, c)) ob ba bb := by
  funext r k
  show (if r = a then setB (SB a b oa ob ba bb a) a (numN (SB a b oa ob ba bb a a), c) else SB a b oa ob ba bb r) k = _
  unfold SB setB
  by_cases h : r = a
  · subst h
    simp only [if_true]
    by_cases h2 : k = r
    · simp [h2]
    · simp [h2]
  · simp [h]
theorem step_wb {a b c : Nat} (hab : a ≠ b) {oa ob ba bb : Option Ent} {cs : Nat → Option Nat} : stepB (SB a b oa ob ba bb) cs (.wri b c) = SB a b oa ob ba (some (numN bb, c)) := by
  funext r k
  show (if r = b then setB (SB a b oa ob ba bb b) b (numN (SB a b oa ob ba bb b b), c) else SB a b oa ob ba bb r) k = _
  have hba : b ≠ a := Ne.symm hab
  unfold SB setB
  by_cases h : r = b
  · subst h
    by_cases h2 : k = r
    · simp [h2, hba]
    · simp [h2, hba]
  · simp [h]
theorem stepc_a {a b c : Nat} {ca cb : Option Nat} : stepC (SC a b ca cb) (.wri a c) = SC a b (some c) cb := by
  funext r
  show (if r = a then some c else SC a b ca cb r) = _
  unfold SC
  by_cases h : r = a <;> simp [h]
theorem stepc_b {a b c : Nat} (hab : a ≠ b) {ca cb : Option Nat} : stepC (SC a b ca cb) (.wri b c) = SC a b ca (some c) := by
  funext r
  show (if r = b then some c else SC a b ca cb r) = _
  have hba : b ≠ a := Ne.symm hab
  unfold SC
  by_cases h : r = b
  · simp [h, hba]
  · simp [h]
theorem step_r {a b : Nat} (hab : a ≠ b) {oa ob ba bb : Option Ent} {ca cb : Option Nat} : stepB (SB a b oa ob ba bb) (SC a b ca cb) (.rst a) = SB a b (ca.map fun c => (1, c)) none ba bb := by
  funext r k
  show (if r = a then firstB a (SC a b ca cb a) else SB a b oa ob ba bb r) k = _
  unfold SB SC firstB
  by_cases h : r = a
  · subst h
    by_cases h2 : k = r <;> simp [h2]
  · simp [h]
/-- an entry over another -/
def overE (own given : Option Ent) : Option Ent := match given with
  | none => own
  | some g => match own with
    | none => some g
    | some e => if gtN g e = true then some g else some e
/-- the same of the router's own -/
def overO (own given : Option Ent) (co : Option Nat) : Option Ent := match given with
  | none => own
  | some g => match own with
    | none => match co with
      | some c => some (g.1 + 1, c)
      | none => some g
    | some e => if gtN g e = true then (match co with
      | some c => some (g.1 + 1, c)
      | none => some g) else some e
theorem overO_none (o g : Option Ent) : overO o g none = overE o g := by
  unfold overO overE
  cases g with
  | none => rfl
  | some g => cases o <;> rfl
theorem mergeX_at {own given : Bk} {r : Nat} {co : Option Nat} (k : Nat) : mergeX own given r co k = if k = r then overO (own k) (given k) co else overE (own k) (given k) := by
  unfold mergeX bumpB
  cases hg : greaterB own given r with
  | none =>
    show (match greaterB own given k with | some e => some e | none => own k) = _
    by_cases hk : k = r
    · subst hk
      rw [if_pos rfl, hg]
      unfold greaterB newer at hg
      unfold overO
      cases h1 : given k with
      | none => rfl
      | some g =>
        rw [h1] at hg
        cases h2 : own k with
        | none => rw [h2] at hg; simp at hg
        | some e =>
          rw [h2] at hg
          by_cases hgt : gtN g e = true
          · simp [hgt] at hg
          · simp [hgt]
    · rw [if_neg hk]
      unfold greaterB newer overE
      cases h1 : given k with
      | none => simp
      | some g =>
        cases h2 : own k with
        | none => simp
        | some e => by_cases hgt : gtN g e = true <;> simp [hgt]
  | some g0 =>
    have hnew : newer own given r = true ∧ given r = some g0 := by
      unfold greaterB at hg
      split at hg
      · exact ⟨by assumption, hg⟩
      · cases hg
    cases co with
    | none =>
      show (match greaterB own given k with | some e => some e | none => own k) = _
      have z : (match greaterB own given k with | some e => some e | none => own k) = overE (own k) (given k) := by
        unfold greaterB newer overE
        cases h1 : given k with
        | none => simp
        | some g =>
          cases h2 : own k with
          | none => simp
          | some e => by_cases hgt : gtN g e = true <;> simp [hgt]
      rw [z]
      by_cases hk : k = r
      · rw [if_pos hk, overO_none]
      · rw [if_neg hk]
    | some c =>
      show (match setB (greaterB own given) r (g0.1 + 1, c) k with | some e => some e | none => own k) = _
      unfold setB
      by_cases hk : k = r
      · subst hk
        rw [if_pos rfl, if_pos rfl, hnew.2]
        have hn := hnew.1
        unfold newer at hn
        rw [hnew.2] at hn
        unfold overO
        cases h2 : own k with
        | none => rfl
        | some e =>
          rw [h2] at hn
          have hn : gtN g0 e = true := hn
          simp [hn]
      · rw [if_neg hk, if_neg hk]
        unfold greaterB newer overE
        cases h1 : given k with
        | none => simp
        | some g =>
          cases h2 : own k with
          | none => simp
          | some e => by_cases hgt : gtN g e = true <;> simp [hgt]
theorem step_ab {a b : Nat} (hab : a ≠ b) {oa ob ba bb : Option Ent} {ca cb : Option Nat} : stepB (SB a b oa ob ba bb) (SC a b ca cb) (.pas a b) = SB a b oa ob (overE ba oa) (overO bb ob cb) := by
  funext r k
  show (if r = b then mergeX (SB a b oa ob ba bb b) (SB a b oa ob ba bb a) b (SC a b ca cb b) else SB a b oa ob ba bb r) k = _
  have hba : b ≠ a := Ne.symm hab
  by_cases h : r = b
  · subst h
    rw [if_pos rfl, mergeX_at]
    unfold SB SC
    by_cases h2 : k = r
    · subst h2; simp [hba]
    · by_cases h3 : k = a
      · subst h3; simp [hab, hba]
      · simp [h2, h3, hba]
        rfl
  · rw [if_neg h]
    unfold SB
    simp [h]
theorem step_ba {a b : Nat} (hab : a ≠ b) {oa ob ba bb : Option Ent} {ca cb : Option Nat} : stepB (SB a b oa ob ba bb) (SC a b ca cb) (.pas b a) = SB a b (overO oa ba ca) (overE ob bb) ba bb := by
  funext r k
  show (if r = a then mergeX (SB a b oa ob ba bb a) (SB a b oa ob ba bb b) a (SC a b ca cb a) else SB a b oa ob ba bb r) k = _
  have hba : b ≠ a := Ne.symm hab
  by_cases h : r = a
  · subst h
    rw [if_pos rfl, mergeX_at]
    unfold SB SC
    by_cases h2 : k = r
    · subst h2; simp [hba]
    · by_cases h3 : k = b
      · subst h3; simp [hab, hba]
      · simp [h2, h3, hba]
        rfl
  · rw [if_neg h]
    unfold SB
    simp [h]
theorem SB_eq {n a b : Nat} (ha : a < n) (hb : b < n) (hab : a ≠ b) {oa ob ba bb oa' ob' ba' bb' : Option Ent} {ca cb ca' cb' : Option Nat} :
    eqS n (SB a b oa ob ba bb) (SC a b ca cb) (SB a b oa' ob' ba' bb') (SC a b ca' cb') ↔ (oa = oa' ∧ ob = ob' ∧ ba = ba' ∧ bb = bb') ∧ ca = ca' ∧ cb = cb' := by
  have hba : b ≠ a := Ne.symm hab
  constructor
  · rintro ⟨h1, h2⟩
    have a1 := congrFun (h1 a ha) a
    have a2 := congrFun (h1 a ha) b
    have b1 := congrFun (h1 b hb) a
    have b2 := congrFun (h1 b hb) b
    have c1 := h2 a ha
    have c2 := h2 b hb
    unfold SB at a1 a2 b1 b2
    unfold SC at c1 c2
    simp [hab, hba] at a1 a2 b1 b2 c1 c2
    exact ⟨⟨a1, a2, b1, b2⟩, c1, c2⟩
  · rintro ⟨⟨rfl, rfl, rfl, rfl⟩, rfl, rfl⟩
    exact ⟨fun _ _ => rfl, fun _ _ => rfl⟩
theorem gt_irr (e : Ent) : gtN e e = false := by
  unfold gtN gtE
  simp
theorem gt_tot {x y : Ent} (h1 : gtN x y = false) (h2 : gtN y x = false) : x = y := by
  unfold gtN gtE at h1 h2
  by_cases c : (x.1 : Int) = (y.1 : Int)
  · have c' : x.1 = y.1 := by omega
    simp [c'] at h1 h2
    exact Prod.ext c' (by omega)
  · rw [if_neg c] at h1
    rw [if_neg (Ne.symm c)] at h2
    have h1 := of_decide_eq_false h1
    have h2 := of_decide_eq_false h2
    have h1 : ¬ ((y.1 : Int) < (x.1 : Int)) := h1
    have h2 : ¬ ((x.1 : Int) < (y.1 : Int)) := h2
    omega
theorem gt_le {x y : Ent} (h : gtN x y = true) : y.1 ≤ x.1 := by
  unfold gtN gtE at h
  split at h
  · rename_i e
    have e : (x.1 : Int) = (y.1 : Int) := e
    omega
  · have := of_decide_eq_true h
    have : (y.1 : Int) < (x.1 : Int) := this
    omega
theorem gt_more {x y : Ent} (h : y.1 < x.1) : gtN x y = true := by
  unfold gtN gtE
  rw [if_neg (by show ¬ (x.1 : Int) = (y.1 : Int); omega)]
  exact decide_eq_true (by show (y.1 : Int) < (x.1 : Int); omega)
theorem overE_self (o : Option Ent) : overE o o = o := by
  unfold overE
  cases o with
  | none => rfl
  | some e => simp [gt_irr]
theorem overO_self (o : Option Ent) (co : Option Nat) : overO o o co = o := by
  unfold overO
  cases o with
  | none => rfl
  | some e => simp [gt_irr]
/-- what the own entry is when an older one has come back -/
def backE (own th : Ent) : Ent := if gtN th own = true then (th.1 + 1, own.2) else own
theorem back_own (own th : Ent) : overO (some own) (some th) (some own.2) = some (backE own th) := by
  unfold overO backE
  by_cases h : gtN th own = true <;> simp [h]
theorem back_th (own th : Ent) : overE (some th) (some (backE own th)) = some (backE own th) := by
  unfold overE
  by_cases h : gtN (backE own th) th = true
  · simp [h]
  · simp only [h, if_false, Bool.false_eq_true]
    congr 1
    unfold backE at h ⊢
    by_cases g : gtN th own = true
    · rw [if_pos g] at h
      exact absurd (gt_more (show th.1 < th.1 + 1 by omega)) h
    · rw [if_neg g] at h ⊢
      exact gt_tot (by simpa using g) (by simpa using h)
section
variable {P : Program} {w : World} {K : PySem.W.Frag} {mg : Str → Option Value} {base : Heap} {f : Addr} {fd : FuncData} {CF : Addr}
/-! _law_is_integer -/
abbrev sLInt : Stmt := top 35
theorem scLInt : FnScope ["_law_thing"] ["_law_thing"] (defScope sLInt) := ⟨rfl, rfl, rfl, by decide +kernel, rfl, by decide +kernel, by decide +kernel⟩
theorem ok_lInt (B : Bl mg) (F : FnP K "_law_is_integer" sLInt f fd) : FnOk P w K mg base CX0 1 f fd ["_law_thing"] spIsInt := by
  refine F.ok scLInt (fun vs H Q E h => ?_) (fun cdv A outer s H vs Q E hr h => ?_)
  · obtain ⟨z, ⟨v, d, rfl, _⟩, _⟩ := h
    rfl
  · obtain ⟨z, ⟨v, d, rfl, hd, rfl⟩, k⟩ := h
    refine ⟨_, pss_one (ps_ret (pe_and (pe_callB call_isi (by rfl) B.isi boot_isinstance (pa_cons (pv 0) (pa_cons (pe_bltn (v := .ty "int") (by rfl) B.int PyProof.Rows.boot_int rfl) pa_nil)))
      (pe_one (pe_not (pe_callB call_isi (by rfl) B.isi boot_isinstance (pa_cons (pv 0) (pa_cons (pe_bltn (v := .ty "bool") (by rfl) B.bool PyProof.Rows.boot_bool rfl) pa_nil))))))), ?_⟩
    obtain ⟨b, hb, h1, h2⟩ := kit_int d
    have v0 : Ev (tVar 0) (start ["_law_thing"] [v]) H v := ev_var rfl
    cases b with
    | true =>
      obtain ⟨c, hc, e⟩ := h1 rfl
      rw [← e] at k
      exact s_ret (ev_andV (ev_isi v0 hd hb) fun _ => ev_notV (ev_isi v0 hd hc)) k
    | false =>
      rw [h2 rfl] at k
      exact s_ret (ev_andV (b := false) (ev_isi v0 hd hb) fun z => (by cases z)) k

end
end Wk

set_option Elab.async false
set_option linter.all false
set_option maxRecDepth 100000
set_option maxHeartbeats 4000000
namespace Wk
open PySem PySem.Spec PyProof.Rows L2 Evl
section
variable {P : Program} {w : World} {K : PySem.W.Frag} {mg : Str → Option Value} {base : Heap} {f : Addr} {fd : FuncData} {CF : Addr}
/-! _law_flag -/
abbrev spFlag : Sp := spP fun _ vs z => ∃ a b : Bool, vs = [.bl a, .bl b] ∧ z = .bl (decide (V.bl a = V.bl b))
abbrev sFlag : Stmt := top 34
theorem scFlag : FnScope ["_law_actual", "_law_due"] ["_law_actual", "_law_due"] (defScope sFlag) := ⟨rfl, rfl, rfl, by decide +kernel, rfl, by decide +kernel, by decide +kernel⟩
theorem ok_flag (B : Bl mg) (F : FnP K "_law_flag" sFlag f fd) : FnOk P w K mg base CX0 1 f fd ["_law_actual", "_law_due"] spFlag := by
  refine F.ok scFlag (fun vs H Q E h => ?_) (fun cdv A outer s H vs Q E hr h => ?_)
  · obtain ⟨z, ⟨a, b, rfl, _⟩, _⟩ := h
    rfl
  · obtain ⟨z, ⟨a, b, rfl, rfl⟩, k⟩ := h
    refine ⟨_, pss_one (ps_ret (pe_and (pe_callB call_isi (by rfl) B.isi boot_isinstance (pa_cons (pv 0) (pa_cons (pe_bltn (v := .ty "bool") (by rfl) B.bool PyProof.Rows.boot_bool rfl) pa_nil)))
      (pe_one (pe_cmpR op_eq (pv 0) (pv 1) (nomark _))))), ?_⟩
    have v0 : Ev (tVar 0) (start ["_law_actual", "_law_due"] [.bl a, .bl b]) H (.bl a) := ev_var rfl
    exact s_ret (ev_andV (a := true) (ev_isi (K := K) v0 (.bl a) (show kitB "bool" "bool" = some true by decide +kernel)) fun _ => ev_op (r := rEq) v0 (ev_var (i := 1) rfl) (rv_eq rfl)) k
/-! _law_same_book -/
abbrev spSB : Sp := spP fun H vs z => ∃ (D d : Addr) (kvs : List (L2.Key × V)) (ks : List Int) (n : Nat) (bk : Bk), vs = [.ref D, .ref d] ∧ H D = some (.dK kvs) ∧ BkD H kvs ks n bk ∧ ks.Pairwise (· ≤ ·) ∧ BkAt H d n bk ∧ n ≤ 8 ∧ z = .bl true
abbrev sSB : Stmt := top 36
abbrev nSB : List Str := ["_law_actual", "_law_due", "_law_router", "_law_entry"]
theorem scSB : FnScope nSB ["_law_actual", "_law_due"] (defScope sSB) := ⟨rfl, rfl, rfl, by decide +kernel, rfl, by decide +kernel, by decide +kernel⟩
theorem ok_sb (B0 : Bl mg) (hs : mg "sorted" = none) (hdi : mg "dict" = none) (CI : Cal P w K mg base "_law_is_integer" ["_law_thing"] 1 spIsInt) (F : FnP K "_law_same_book" sSB f fd) : FnOk P w K mg base CX0 2 f fd ["_law_actual", "_law_due"] spSB := by
  refine F.ok scSB (fun vs H Q E h => ?_) (fun cdv A outer s H vs Q E hr h => ?_)
  · obtain ⟨z, ⟨D, d, kvs, ks, n, bk, rfl, _⟩, _⟩ := h
    rfl
  · obtain ⟨z, ⟨D, d, kvs, ks, n, bk, rfl, hD, hbk, hpw, ⟨kvd, kd, hd, hbd⟩, hn, rfl⟩, k⟩ := h
    have hu : (A.deeper (envOfC "_law_same_book" (defScope sSB) s.heap.objs.size f cdv)).units + 64 < cLine := by have := hr.un; omega
    have hu1 : (A.deeper (envOfC "_law_same_book" (defScope sSB) s.heap.objs.size f cdv)).units + 1 < cLine := by omega
    refine ⟨_, pss_cons (ps_if (PW.pt (pw_or (pt_not (pt_val (pe_callB call_isi (by rfl) B0.isi boot_isinstance (pa_cons (pv 0) (pa_cons (pe_bltn (v := .ty "dict") (by rfl) hdi PyProof.Rows.boot_dict rfl) pa_nil)))))
            (pw_or1 (pt_cmpR (op_neD hu) (pe_callTy (call_listD' rfl) (by rfl) B0.list PyProof.Rows.boot_list (pa_cons (pv 0) pa_nil)) (pe_callB cr_sortedI (by rfl) hs boot_sorted (pa_cons (pe_callTy (call_listD' rfl) (by rfl) B0.list PyProof.Rows.boot_list (pa_cons (pv 1) pa_nil)) pa_nil)) (nomark _))))) (pss_one (ps_ret pe_bl)) pss_nil)
      (pss_cons (ps_for (passes_of rfl) rfl (pi_list (pe_callTy (call_listD' rfl) (by rfl) B0.list PyProof.Rows.boot_list (pa_cons (pv 0) pa_nil))) (pg_name (i := 2) scSB.nd rfl (Or.inl rfl))
          (pss_cons (ps_set (i := 3) scSB.nd rfl (Or.inl rfl) (pe_dget hu1 (pv 0) (pv 2) (fun _ _ => rfl)))
          (pss_cons (ps_if (PW.pt (pw_or (pt_not (pt_val (pe_cal CI hr (by rfl) (pa_cons (pv 2) pa_nil)))) (pw_or (pt_not (pt_val (pe_callB call_isi (by rfl) B0.isi boot_isinstance (pa_cons (pv 3) (pa_cons (pe_bltn (v := .ty "tuple") (by rfl) B0.tuple PyProof.Rows.boot_tuple rfl) pa_nil))))) (pw_or1 (pt_cmpR op_ne (pe_callB call_len_seq (by rfl) B0.len PySem.boot_len (pa_cons (pv 3) pa_nil)) pe_int (nomark _)))))) (pss_one (ps_ret pe_bl)) pss_nil)
          (pss_one (ps_if (PW.pt (pw_or (pt_not (pt_val (pe_cal CI hr (by rfl) (pa_cons (pe_ix ix_tup (pv 3) pe_int (fun _ _ => rfl)) pa_nil)))) (pw_or (pt_not (pt_val (pe_cal CI hr (by rfl) (pa_cons (pe_ix ix_tup (pv 3) pe_int (fun _ _ => rfl)) pa_nil)))) (pw_or1 (pt_cmpR (op_neD hu) (pv 3) (pe_dget hu1 (pv 1) (pv 2) (fun _ _ => rfl)) (nomark _)))))) (pss_one (ps_ret pe_bl)) pss_nil)))))
      (pss_one (ps_ret pe_bl))), ?_⟩
    have perm : ks.Perm kd := by
      refine (List.perm_ext_iff_of_nodup hbk.nk.2 hbd.nk.2).mpr fun z => ?_
      constructor
      · intro hz
        obtain ⟨m, rfl⟩ : ∃ m : Nat, z = (m : Int) := ⟨z.toNat, by have := hbk.rg z hz; omega⟩
        exact (hbd.mem m).mpr ((hbk.mem m).mp hz)
      · intro hz
        obtain ⟨m, rfl⟩ : ∃ m : Nat, z = (m : Int) := ⟨z.toNat, by have := hbd.rg z hz; omega⟩
        exact (hbk.mem m).mpr ((hbd.mem m).mp hz)
    have vD : ∀ {H' : Hp} {o2 o3 : Option V}, Ev (tVar 0) [some (.ref D), some (.ref d), o2, o3] H' (.ref D) := ev_var rfl
    have vd : ∀ {H' : Hp} {o2 o3 : Option V}, Ev (tVar 1) [some (.ref D), some (.ref d), o2, o3] H' (.ref d) := ev_var rfl
    have lD : ∀ {H' : Hp} {o2 o3 : Option V}, Ex H H' → EvL (tCB rListD (tCons (tVar 0) tNil)) [some (.ref D), some (.ref d), o2, o3] H' (ks.map V.int) := fun e => el_listD vD (.inl (e _ _ hD)) hbk.nk
    have c1 := et_or (et_not (et_B (ev_isiD (K := K) (vD (H' := H) (o2 := none) (o3 := none)) hD))) fun _ => et_test (ev_neL (K := K) (lD (Ex.refl H)) (el_sortP (K := K) (el_listD vd (.inl hd) hbd.nk) perm hpw))
    refine q_when c1 (fun hb => ?_) fun _ H1 e1 => ?_
    · rw [decide_eq_true rfl] at hb
      cases hb
    refine q_forNLn (lD e1) (fun p' j σ' H' => ∃ o2 o3, σ' = [some (.ref D), some (.ref d), o2, o3] ∧ Ex H1 H' ∧ H' p' = some (.lst (ks.map V.int))) (fun p' H4 _ e4 h4 => ⟨none, none, rfl, e4, h4⟩) (fun p' j σ' H' _ h => ?_) ?_ ?_
    · obtain ⟨_, _, _, _, h⟩ := h
      exact sq_of h
    · rintro p' j y σ' H4 hy ⟨o2, o3, rfl, e14, h4⟩
      rw [List.getElem?_map] at hy
      cases hk : ks[j]? with
      | none => rw [hk] at hy; cases hy
      | some z =>
        rw [hk] at hy
        obtain rfl : y = .int z := (Option.some.inj hy).symm
        have hzm := List.mem_of_getElem? hk
        have hzr := hbk.rg z hzm
        obtain ⟨m, rfl⟩ : ∃ q : Nat, z = (q : Int) := ⟨z.toNat, by omega⟩
        obtain ⟨e, he⟩ := (hbk.mem m).mp hzm
        obtain ⟨t, ht1, ht2⟩ := hbk.get he
        obtain ⟨t', hd1, hd2⟩ := hbd.get he
        have e04 := e1.trans e14
        change tSeq _ _ _ [some (.ref D), some (.ref d), some (.int (m : Int)), o3] H4
        refine q_asg (v := .ref t) (ev_dget vD (ev_var (i := 2) rfl) (.inl (e04 _ _ hD)) ht1) fun H5 e45 => ?_
        change tSeq _ _ _ [some (.ref D), some (.ref d), some (.int (m : Int)), some (.ref t)] H5
        have e05 := e04.trans e45
        have v2 : ∀ {H' : Hp}, Ev (tVar 2) [some (.ref D), some (.ref d), some (.int (m : Int)), some (.ref t)] H' (.int (m : Int)) := ev_var rfl
        have v3 : ∀ {H' : Hp}, Ev (tVar 3) [some (.ref D), some (.ref d), some (.int (m : Int)), some (.ref t)] H' (.ref t) := ev_var rfl
        have ci : ∀ {H' : Hp} {ta : TE} {i : Int}, Ev ta [some (.ref D), some (.ref d), some (.int (m : Int)), some (.ref t)] H' (.int i) → Ev (tCall spIsInt [] E0 (tCons ta tNil)) [some (.ref D), some (.ref d), some (.int (m : Int)), some (.ref t)] H' (.bl true) := fun h => ev_call (ea_cons h ea_nil) (spP_v fun H3 e3 => ⟨_, .int _, rfl, .int _, rfl⟩)
        have ht5 := e05 _ _ ht2
        have hdq : Dq H5 (.ref t) (wd [(e.1 : Int), (e.2 : Int)]) := wd_of ht5
        have t1 := et_or (et_not (et_B (ci (v2 (H' := H5))))) fun _ => et_or (et_not (et_B (ev_isi (K := K) v3 hdq (show kitB "tuple" "tuple" = some true by decide +kernel)))) fun _ => et_test (ev_op (r := rNe) (ev_lenT (K := K) v3 (st_of ht5)) (ev_c (v := .int 2)) (rv_ne rfl))
        refine q_when t1 (fun z => by cases z) fun _ H6 e56 => ?_
        have e06 := e05.trans e56
        have ht6 := e06 _ _ ht2
        have w0 : Ev (tOp (rIxT K) (tVar 3) (tC (.int 0))) [some (.ref D), some (.ref d), some (.int (m : Int)), some (.ref t)] H6 (.int (e.1 : Int)) := ev_op v3 ev_c (rv_ixT (i := 0) (st_of ht6) rfl)
        have w1 : Ev (tOp (rIxT K) (tVar 3) (tC (.int 1))) [some (.ref D), some (.ref d), some (.int (m : Int)), some (.ref t)] H6 (.int (e.2 : Int)) := ev_op v3 ev_c (rv_ixT (i := 1) (st_of ht6) rfl)
        have d2 := ev_neT (K := K) (xs := [(e.1 : Int), (e.2 : Int)]) (ys := [(e.1 : Int), (e.2 : Int)]) (v3 (H' := H6)) ht6 (es_var (ev_dget vd v2 (.inl (e06 _ _ hd)) hd1) (e06 _ _ hd2))
        rw [decide_eq_true rfl] at d2
        refine s_when (et_or (et_not (et_B (ci w0))) fun _ => et_or (et_not (et_B (ci w1))) fun _ => et_test d2) (fun hb => by cases hb) fun _ H7 e67 => ?_
        exact ⟨_, _, rfl, e14.trans ((e45.trans e56).trans e67), e67 _ _ (e56 _ _ (e45 _ _ h4))⟩
    rintro p' σ' H4 ⟨o2, o3, rfl, e14, _⟩
    exact s_ret (v := .bl true) ev_c fun H5 e5 => k H5 ((e1.trans e14).trans e5)
/-! _law_same -/
def spSame (CF : Addr) : Sp := fun vs H Q _ => ∃ (G : Hp) (x pa la LB LC : Addr) (n m : Nat) (B : Nat → Bk) (cs : Nat → Option Nat) (dr : Nat → Addr), vs = [.ref x, .ref LB, .ref LC] ∧ Ex G H ∧ FdA CF G H x pa la n m B cs ∧ n ≤ 8 ∧ H LB = some (.lst (waV n dr)) ∧ (∀ r, r < n → BkAt H (dr r) n (B r)) ∧ H LC = some (.lst (cV n cs)) ∧ ∀ H', Ex H H' → Q (.bl true) H'
abbrev sSame : Stmt := top 37
abbrev nSame : List Str := ["_law_flood", "_law_books", "_law_contents_here", "_law_router", "_law_content"]
theorem scSame : FnScope nSame ["_law_flood", "_law_books", "_law_contents_here"] (defScope sSame) := ⟨rfl, rfl, rfl, by decide +kernel, rfl, by decide +kernel, by decide +kernel⟩
theorem waV_snoc {i : Nat} {wa : Nat → Addr} {t : Addr} : waV (i + 1) (fun k => if k = i then t else wa k) = waV i wa ++ [.ref t] := by
  unfold waV
  rw [List.range_succ, List.map_append]
  congr 1
  · refine List.map_congr_left fun k hk => ?_
    have := List.mem_range.mp hk
    show V.ref (if k = i then t else wa k) = _
    rw [if_neg (by omega)]
  · show [V.ref (if i = i then t else wa i)] = _
    rw [if_pos rfl]
theorem waV_len (n : Nat) (wa : Nat → Addr) : (waV n wa).length = n := by unfold waV; simp
theorem ok_same (B0 : Bl mg) (X : FX K CF) (MB : Msk P w K mg base CF "book" ["self", "router"] 5 (spBook CF)) (MC : Msk P w K mg base CF "content" ["self", "router"] 5 (spCont CF)) (CI : Cal P w K mg base "_law_is_integer" ["_law_thing"] 1 spIsInt) (CS : Cal P w K mg base "_law_same_book" ["_law_actual", "_law_due"] 2 spSB)
    (F : FnP K "_law_same" sSame f fd) : FnOk P w K mg base CX0 6 f fd ["_law_flood", "_law_books", "_law_contents_here"] (spSame CF) := by
  obtain ⟨f1, fd1, me1, F1, b1⟩ := MB.ex
  obtain ⟨f2, fd2, me2, F2, b2⟩ := MC.ex
  refine F.ok scSame (fun vs H Q E h => ?_) (fun cdv A outer s H vs Q E hr h => ?_)
  · obtain ⟨G, x, pa, la, LB, LC, n, m, B, cs, dr, rfl, _⟩ := h
    rfl
  · obtain ⟨G, x, pa, la, LB, LC, n, m, B, cs, dr, rfl, eG, hF, hn, hLB, hbk, hLC, k⟩ := h
    have r5 : Room 5 _ := hr.mono (by decide)
    refine ⟨_, pss_cons (ps_for (passes_of rfl) rfl (pi_range1 (by rfl) B0.range (pa_cons (pe_callB call_len_seq (by rfl) B0.len PySem.boot_len (pa_cons (pv 1) pa_nil)) pa_nil)) (pg_name (i := 3) scSame.nd rfl (Or.inl rfl))
        (pss_cons (ps_if (pt_not (pt_val (pe_cal CS hr (by rfl) (pa_cons (pe_meth (pv 0) X.cl me1 F1 r5 b1 .nil pass0 (pa_cons (pv 3) pa_nil)) (pa_cons (pe_ix ix_list (pv 1) (pv 3) (fun _ _ => rfl)) pa_nil))))) (pss_one (ps_ret pe_bl)) pss_nil)
        (pss_cons (ps_set (i := 4) scSame.nd rfl (Or.inl rfl) (pe_meth (pv 0) X.cl me2 F2 r5 b2 .nil pass0 (pa_cons (pv 3) pa_nil)))
        (pss_one (ps_if (pt_cmp (pc_isN (pe_ix ix_list (pv 2) (pv 3) (fun _ _ => rfl)))) (pss_one (ps_if (pt_cmp (pc_notN (pv 4))) (pss_one (ps_ret pe_bl)) pss_nil))
          (pss_one (ps_if (PW.pt (pw_or (pt_not (pt_val (pe_cal CI hr (by rfl) (pa_cons (pv 4) pa_nil)))) (pw_or1 (pt_cmpR op_ne (pv 4) (pe_ix ix_list (pv 2) (pv 3) (fun _ _ => rfl)) (nomark _))))) (pss_one (ps_ret pe_bl)) pss_nil)))))))
      (pss_one (ps_ret pe_bl)), ?_⟩
    refine q_forR1 (ea_cons (ev_len (ev_var rfl) (sq_of hLB)) ea_nil) (n := ((waV n dr).length : Int)) (by rw [waV_len]; omega) (fun i σ' H' => ∃ o3 o4, σ' = [some (.ref x), some (.ref LB), some (.ref LC), o3, o4] ∧ Ex H H') (fun H1 e1 => ⟨_, _, rfl, e1⟩) ?_ ?_
    · rintro i σ' H1 hi ⟨o3, o4, rfl, e1⟩
      have hin : i < n := by rw [waV_len] at hi; omega
      have hF1 := hF.ext e1
      obtain ⟨dx, fs, st, hx1, ff, _⟩ := hF1.ob
      have eG1 := eG.trans e1
      change tSeq _ _ _ [some (.ref x), some (.ref LB), some (.ref LC), some (.int (i : Int)), o4] H1
      refine ⟨.ref x, rfl, x, dx, fs, rfl, hx1, ff.n3, .int (i : Int), rfl, G, x, pa, la, n, m, i, B, cs, rfl, eG1, hF1, hn, hin, fun H2 D kvs ks e12 nD hD hbd hpw => ?_⟩
      have e02 := e1.trans e12
      refine ⟨.ref LB, rfl, .int (i : Int), rfl, LB, waV n dr, (i : Int), .ref (dr i), rfl, rfl, sq_of (e02 _ _ hLB), atI_nat (waV_at hin), ?_⟩
      refine ⟨.bl true, ⟨D, dr i, kvs, ks, n, B i, rfl, hD, hbd.mono (eG1.trans e12), hpw, (hbk i hin).mono e02, hn, rfl⟩, fun H3 e23 => ⟨true, rfl, ?_⟩⟩
      simp only [Bool.not_true, Bool.false_eq_true, if_false]
      have e03 := e02.trans e23
      have hF3 := hF.ext e03
      obtain ⟨dx3, fs3, st3, hx3, ff3, _⟩ := hF3.ob
      refine ⟨.ref x, rfl, x, dx3, fs3, rfl, hx3, ff3.n4, .int (i : Int), rfl, G, x, pa, la, n, m, i, B, cs, rfl, eG.trans e03, hF3, hn, hin, fun H4 e34 => ?_⟩
      refine g_name ?_
      dsimp only
      change tIfS _ _ _ _ [some (.ref x), some (.ref LB), some (.ref LC), some (.int (i : Int)), some (oV (cs i))] H4
      have e04 := e03.trans e34
      have vC : ∀ {H' : Hp}, Ex H H' → Ev (tOp (rIxL K) (tVar 2) (tVar 3)) [some (.ref x), some (.ref LB), some (.ref LC), some (.int (i : Int)), some (oV (cs i))] H' (oV (cs i)) := fun e => ev_op (ev_var rfl) (ev_var (i := 3) (v := .int (i : Int)) rfl) (rv_ixL (sq_of (e _ _ hLC)) (atI_nat (cV_at hin)))
      have v4 : ∀ {H' : Hp}, Ev (tVar 4) [some (.ref x), some (.ref LB), some (.ref LC), some (.int (i : Int)), some (oV (cs i))] H' (oV (cs i)) := ev_var rfl
      refine s_if (ev_isN (vC e04)) (fun hb H5 e5 => ?_) (fun hb H5 e5 => ?_)
      · have hb := of_decide_eq_true hb
        have tn : EvT (tB (tNotN (tVar 4))) [some (.ref x), some (.ref LB), some (.ref LC), some (.int (i : Int)), some (oV (cs i))] H5 (!decide (oV (cs i) = V.non)) := fun H6 e6 Q6 q6 => (v4 (H' := H5)) H6 e6 _ fun H7 e7 => ⟨_, rfl, q6 H7 e7⟩
        refine s_when tn (fun hb2 => ?_) fun _ H6 e6 => ⟨_, _, rfl, (e04.trans e5).trans e6⟩
        rw [hb] at hb2
        simp at hb2
      · have hb := of_decide_eq_false hb
        cases hc : cs i with
        | none => rw [hc] at hb; exact absurd rfl hb
        | some c =>
          rw [hc] at v4 vC
          have t1 : Ev (tCall spIsInt [] E0 (tCons (tVar 4) tNil)) [some (.ref x), some (.ref LB), some (.ref LC), some (.int (i : Int)), some (oV (some c))] H5 (.bl true) := ev_call (ea_cons v4 ea_nil) (spP_v fun H3 e3 => ⟨_, .int _, rfl, .int _, rfl⟩)
          have t2 := ev_op (r := rNe) (v4 (H' := H5)) (vC (e04.trans e5)) (rv_ne rfl)
          rw [decide_eq_true rfl] at t2
          refine s_when (et_or (et_not (et_B t1)) fun _ => et_test t2) (fun hb2 => by cases hb2) fun _ H6 e6 => ⟨_, _, rfl, (e04.trans e5).trans e6⟩
    · rintro σ' H1 ⟨o3, o4, rfl, e1⟩
      exact s_ret (v := .bl true) ev_c fun H5 e5 => k H5 (e1.trans e5)
/-! _law_contents -/
def spConts : Sp := fun vs H Q _ => ∃ (G : Hp) (p q : Addr) (m : Nat), vs = [.ref p, .int (m : Int)] ∧ Pm G H p q ∧ m ≤ 1000 ∧ ∀ H' l (ws : List Nat), Pm G H' p q → H l = none → l ≠ p → H' l = some (.lst (nV ws)) → ws.length = m → (∀ c ∈ ws, c < 100) → Q (.ref l) H'
abbrev sConts : Stmt := top 38
abbrev nConts : List Str := ["_law_pool_here", "_law_many", "_law_start", "_law_step", "_law_k"]
theorem scConts : FnScope nConts ["_law_pool_here", "_law_many"] (defScope sConts) := ⟨rfl, rfl, rfl, by decide +kernel, rfl, by decide +kernel, by decide +kernel⟩
theorem ok_conts (B0 : Bl mg) (CD : Cal P w K mg base "_law_draw" ["_law_pool_here", "_law_limit"] 2 spDraw) (F : FnP K "_law_contents" sConts f fd) : FnOk P w K mg base CX0 3 f fd ["_law_pool_here", "_law_many"] spConts := by
  refine F.ok scConts (fun vs H Q E h => ?_) (fun cdv A outer s H vs Q E hr h => ?_)
  · obtain ⟨G, p, q, m, rfl, _⟩ := h
    rfl
  · obtain ⟨G, p, q, m, rfl, hP, hm, k⟩ := h
    refine ⟨_, pss_cons (ps_set (i := 2) scConts.nd rfl (Or.inr rfl) (pe_cal CD hr (by rfl) (pa_cons (pv 0) (pa_cons pe_int pa_nil))))
      (pss_cons (ps_set (i := 3) scConts.nd rfl (Or.inr rfl) (pe_cal CD hr (by rfl) (pa_cons (pv 0) (pa_cons pe_int pa_nil))))
      (pss_one (ps_ret (pe_lc (own := [("_law_k", 4)]) (g := gName 4) (tt := tYes) (te := tOp (rI (fun _ j => 0 < j) fun i j => .int (i % j)) (tCB (fun xs H Q => (∃ i, xs = [.int i] ∧ Q (.int i) H) ∨ ∃ k, xs = [.bl k] ∧ Q (.int (if k then 1 else 0)) H) (tCons (tOp (rI0 fun i j => .int (i + j)) (tVar 2) (tOp (rI CMul fun i j => .int (i * j)) (tVar 3) (tVar 4))) tNil)) (tC (.int 100))) rfl scConts.nd
        (pi_range1 (by rfl) B0.range (pa_cons (pv 1) pa_nil)) (blkOk_by (N := nConts) (sc := defScope sConts) (by decide +kernel)) (fun _ _ _ _ _ => pg_name (i := 4) scConts.nd rfl (Or.inl rfl)) (fun _ _ _ _ _ => pts_nil)
        (fun _ _ _ _ _ => pe_op op_mod (pe_callTy call_int1 (by rfl) B0.int PyProof.Rows.boot_int (pa_cons (pe_op op_add (pv 2) (pe_op op_mul (pv 3) (pv 4))) pa_nil)) pe_int))))), ?_⟩
    refine ⟨.ref p, rfl, ⟨_, p, q, _, rfl, hP.hd, by decide, by decide, fun H1 st h1 hs0 hs1 => ?_⟩⟩
    have hP1 := hP.back h1
    refine g_name ?_
    refine ⟨.ref p, rfl, ⟨_, p, q, _, rfl, hP1.hd, by decide, by decide, fun H2 sp h2 hp0 hp1 => ?_⟩⟩
    have hP2 := hP1.back h2
    refine g_name ?_
    dsimp only
    change tRet _ _ [some (.ref p), some (.int (m : Int)), some (.int st), some (.int sp), none] H2
    let v : Nat → Int := fun i => (st + sp * (i : Int)) % 100
    have hv : ∀ i, 0 ≤ v i ∧ v i < 100 := fun i => modP _ 100 (by decide)
    have z := el_lcR1 (σ := [some (.ref p), some (.int (m : Int)), some (.int st), some (.int sp), none]) (H := H2) (ta := tCons (tVar 1) tNil) (j := 4) (vs := [4]) (t := tYes) (te := tOp (rI (fun _ j => 0 < j) fun i j => .int (i % j)) (tCB (fun xs H Q => (∃ i, xs = [.int i] ∧ Q (.int i) H) ∨ ∃ k, xs = [.bl k] ∧ Q (.int (if k then 1 else 0)) H) (tCons (tOp (rI0 fun i j => .int (i + j)) (tVar 2) (tOp (rI CMul fun i j => .int (i * j)) (tVar 3) (tVar 4))) tNil)) (tC (.int 100))) (n := (m : Int)) (fun _ => true) (fun i => .int (v i)) (ea_cons (ev_var rfl) ea_nil) (by omega) (fun x => rfl) (fun _ _ _ _ => et_yes) (fun i H1 e hi _ => by
      intro H3 e3 Q3 q3
      exact ⟨.int st, rfl, .int sp, rfl, .int (i : Int), rfl, sp, (i : Int), rfl, rfl, .inl ⟨by omega, by omega⟩, st, _, rfl, rfl, .inl ⟨_, rfl, _, 100, rfl, rfl, (show (0 : Int) < 100 by decide), q3 H3 (Ex.refl _)⟩⟩)
    rw [given_all, Int.toNat_natCast] at z
    refine z H2 (Ex.refl _) _ fun l H3 hl e3 h3 => ?_
    have np := hP2.np hl
    refine k H3 l ((List.range m).map fun i => (v i).toNat) (hP2.ext e3) (h1.off.back np (h2.off.back np hl)) np ?_ (by simp) (fun c hc => ?_)
    · rw [h3]
      unfold nV
      rw [List.map_map]
      congr 2
      refine List.map_congr_left fun i _ => ?_
      show V.int (v i) = V.int (((v i).toNat : Nat) : Int)
      rw [Int.toNat_of_nonneg (hv i).1]
    · obtain ⟨i, _, rfl⟩ := List.mem_map.mp hc
      have := hv i
      omega
end
end Wk

set_option Elab.async false
set_option linter.all false
set_option maxRecDepth 100000
set_option maxHeartbeats 4000000
namespace Wk
open PySem PySem.Spec PyProof.Rows L2 Evl
theorem Gm.ext {x pa : Addr} {G H H' : Hp} (eG : Ex G H) (e : Ex H H') : Gm x pa G H G H' := ⟨Ex.refl _, fun b u _ _ h => e _ _ h, eG.trans e, fun b u h _ _ => h⟩
theorem Gm.pre {x pa : Addr} {G H H1 G2 H2 : Hp} (e : Ex H H1) (g : Gm x pa G H1 G2 H2) : Gm x pa G H G2 H2 := ⟨g.ex, fun b u h1 h2 h => g.off b u h1 h2 (e _ _ h), g.sub, fun b u h1 h2 h3 => g.nw b u h1 (e _ _ h2) h3⟩
theorem Gm.trans {x pa : Addr} {G H G1 H1 G2 H2 : Hp} (a : Gm x pa G H G1 H1) (b : Gm x pa G1 H1 G2 H2) (gx : G2 x = none) (gp : G2 pa = none) : Gm x pa G H G2 H2 :=
  ⟨a.ex.trans b.ex, fun c u h1 h2 h => b.off c u h1 h2 (a.off c u h1 h2 h), b.sub, fun c u h1 h2 h3 => by
    by_cases cx : c = x
    · rw [cx]; exact gx
    by_cases cp : c = pa
    · rw [cp]; exact gp
    exact b.nw c u (a.nw c u h1 h2 h3) (a.off c u cx cp h2) h3⟩
theorem Gm.post {x pa : Addr} {G H G1 H1 H2 : Hp} (a : Gm x pa G H G1 H1) (e : Ex H1 H2) : Gm x pa G H G1 H2 := ⟨a.ex, fun c u h1 h2 h => e _ _ (a.off c u h1 h2 h), a.sub.trans e, a.nw⟩
def wS (r : Nat) (s : (Nat → Bk) × (Nat → Option Nat)) (ws : List Nat) : (Nat → Bk) × (Nat → Option Nat) := ws.foldl (fun s c => (stepB s.1 s.2 (.wri r c), stepC s.2 (.wri r c))) s
theorem wS_snoc (r : Nat) (s : (Nat → Bk) × (Nat → Option Nat)) (ws : List Nat) (c : Nat) : wS r s (ws ++ [c]) = (stepB (wS r s ws).1 (wS r s ws).2 (.wri r c), stepC (wS r s ws).2 (.wri r c)) := by
  unfold wS
  rw [List.foldl_append]
  rfl
theorem write_changes {n r c : Nat} (hr : r < n) (B : Nat → Bk) (cs : Nat → Option Nat) : eqSb n (stepB B cs (.wri r c)) (stepC cs (.wri r c)) B cs = false := by
  refine eqSb_no fun h => ?_
  have z := congrFun (h.1 r hr) r
  have e : stepB B cs (.wri r c) r r = some (numN (B r r), c) := by
    show (if r = r then setB (B r) r (numN (B r r), c) else B r) r = _
    rw [if_pos rfl]
    unfold setB
    rw [if_pos rfl]
  rw [e] at z
  cases hb : B r r with
  | none => rw [hb] at z; cases z
  | some x =>
    rw [hb] at z
    injection z with z
    have := congrArg Prod.fst z
    have : x.1 + 1 = x.1 := this
    omega
section
variable {P : Program} {w : World} {K : PySem.W.Frag} {mg : Str → Option Value} {base : Heap} {f : Addr} {fd : FuncData} {CF : Addr}
/-! _law_writes -/
def spWrites (CF : Addr) : Sp := fun vs H Q _ => ∃ (G : Hp) (x pa la l : Addr) (n m r : Nat) (B : Nat → Bk) (cs : Nat → Option Nat) (us : List V) (js : List Wy) (ws : List Nat), vs = [.ref x, .int (r : Int), .ref l] ∧ Ex G H ∧ FdA CF G H x pa la n m B cs ∧ n ≤ 8 ∧ r < n ∧ H l = some (.lst (nV ws)) ∧ l ≠ pa ∧ m + ws.length < 10000 ∧ (∀ c ∈ ws, c < 100) ∧ G la = some (.lst us) ∧ DqA G us (js.map wd) ∧
  ∀ G' H', Gm x pa G H G' H' → FdA CF G' H' x pa la n (m + ws.length) (wS r (B, cs) ws).1 (wS r (B, cs) ws).2 → Q (.bl true) H'
abbrev sWrites : Stmt := top 39
abbrev nWrites : List Str := ["_law_flood", "_law_router", "_law_contents_here", "_law_content"]
theorem scWrites : FnScope nWrites ["_law_flood", "_law_router", "_law_contents_here"] (defScope sWrites) := ⟨rfl, rfl, rfl, by decide +kernel, rfl, by decide +kernel, by decide +kernel⟩
theorem ok_writes (X : FX K CF) (MD : Msk P w K mg base CF "do" ["self", "deed"] 5 (spDo CF)) (F : FnP K "_law_writes" sWrites f fd) : FnOk P w K mg base CX0 6 f fd ["_law_flood", "_law_router", "_law_contents_here"] (spWrites CF) := by
  obtain ⟨f1, fd1, me1, F1, b1⟩ := MD.ex
  refine F.ok scWrites (fun vs H Q E h => ?_) (fun cdv A outer s H vs Q E hr h => ?_)
  · obtain ⟨G, x, pa, la, l, n, m, r, B, cs, us, js, ws, rfl, _⟩ := h
    rfl
  · obtain ⟨G, x, pa, la, l, n, m, r, B, cs, us, js, ws, rfl, eG, hF, hn, hrn, hl, lpa, hm, hc, gla, hus, k⟩ := h
    refine ⟨_, pss_cons (ps_for (passes_of rfl) rfl (pi_list (pv 2)) (pg_name (i := 3) scWrites.nd rfl (Or.inl rfl))
        (pss_one (ps_if (pt_cmpR op_notBl (pe_meth (pv 0) X.cl me1 F1 hr b1 .nil pass0 (pa_cons (pe_tup (pa_cons pe_str (pa_cons (pv 1) (pa_cons (pv 3) pa_nil)))) pa_nil)) pe_bl (nomark _)) (pss_one (ps_ret pe_bl)) pss_nil)))
      (pss_one (ps_ret pe_bl)), ?_⟩
    have lx : ∀ {G' H' : Hp} {m' : Nat} {B' : Nat → Bk} {cs' : Nat → Option Nat}, FdA CF G H x pa la n m' B' cs' → l ≠ x := fun hF' z => by
      obtain ⟨dx, fs, st, hx, _⟩ := hF'.ob
      rw [z, hx] at hl; cases hl
    have lx := lx (G' := G) (H' := H) hF
    refine q_forLn (K := K) (ev_var (i := 2) rfl) (sq_of hl) (fun i σ' H' => ∃ (G' : Hp) (o3 : Option V), σ' = [some (.ref x), some (.int (r : Int)), some (.ref l), o3] ∧ Gm x pa G H G' H' ∧ FdA CF G' H' x pa la n (m + i) (wS r (B, cs) (ws.take i)).1 (wS r (B, cs) (ws.take i)).2)
      (fun H1 e1 => ⟨G, none, rfl, Gm.ext eG e1, by rw [List.take_zero]; exact hF.ext e1⟩) (fun i σ' H' _ h => ?_) ?_ ?_
    · obtain ⟨G', _, _, g, _⟩ := h
      exact sq_of (g.off _ _ lx lpa hl)
    · rintro i v σ' H1 hv ⟨G1, o3, rfl, g1, hF1⟩
      have hv' : (nV ws)[i]? = some v := hv
      unfold nV at hv'
      rw [List.getElem?_map] at hv'
      cases hw : ws[i]? with
      | none => rw [hw] at hv'; cases hv'
      | some c =>
        rw [hw] at hv'
        obtain rfl : v = .int (c : Int) := (Option.some.inj hv').symm
        have hi := (List.getElem?_eq_some_iff.mp hw).1
        have hc100 := hc c (List.mem_of_getElem? hw)
        obtain ⟨dx, fs, st, hx1, ff, _⟩ := hF1.ob
        change tIfS _ _ _ _ [some (.ref x), some (.int (r : Int)), some (.ref l), some (.int (c : Int))] H1
        refine ⟨.ref x, rfl, x, dx, fs, rfl, hx1, ff.n1, .int (r : Int), rfl, .int (c : Int), rfl, by show 3 ≤ sizeLine; decide, fun t ht => ?_⟩
        have eN := Ex.new (o := .tup [V.str "write", .int (r : Int), .int (c : Int)]) ht
        refine ⟨G1, x, pa, la, t, n, m + i, _, _, .wri r c, us, js, false, rfl, g1.sub.trans eN, hF1.ext eN, hn, by omega, upd_same, hrn, g1.ex _ _ gla, hus.mono g1.ex, ⟨hrn, hc100⟩, fun G2 H2 gm hF2 => ?_⟩
        rw [write_changes hrn]
        refine ⟨true, true, rfl, rfl, false, rfl, ?_⟩
        simp only [Bool.false_eq_true, if_false]
        refine ⟨G2, _, rfl, g1.trans (Gm.pre eN gm) hF2.gx hF2.gp, ?_⟩
        rw [take_snoc hw, wS_snoc]
        exact hF2
    · rintro σ' H1 ⟨G1, o3, rfl, g1, hF1⟩
      have e : (nV ws).length = ws.length := nV_len ws
      rw [e, List.take_length] at hF1
      exact s_ret (v := .bl true) ev_c fun H2 e2 => k G1 H2 (g1.post e2) (hF1.ext e2)
end
end Wk

set_option Elab.async false
set_option linter.all false
set_option maxRecDepth 100000
set_option maxHeartbeats 4000000
namespace Wk
open PySem PySem.Spec PyProof.Rows L2 Evl
theorem FdA.off1 {CF : Addr} {G H H' : Hp} {p x pa la : Addr} {n m : Nat} {B : Nat → Bk} {cs : Nat → Option Nat} (h : FdA CF G H x pa la n m B cs) (o : Of1 p H H') (h1 : x ≠ p) (h2 : pa ≠ p) : FdA CF G H' x pa la n m B cs := by
  obtain ⟨dx, fs, st, a1, a2⟩ := h.ob
  obtain ⟨us, a3, a4⟩ := h.ps
  exact ⟨⟨dx, fs, st, o _ _ h1 a1, a2⟩, ⟨us, o _ _ h2 a3, a4⟩, h.gx, h.gp, h.ne⟩
theorem BkD.keep {H H' : Hp} (o : ∀ t xs, H t = some (.tup xs) → H' t = some (.tup xs)) {kvs : List (L2.Key × V)} {ks : List Int} {n : Nat} {bk : Bk} (h : BkD H kvs ks n bk) : BkD H' kvs ks n bk :=
  ⟨h.nk, h.rg, fun k => (h.at_ k).imp id fun ⟨t, e', a, b, c⟩ => ⟨t, e', a, b, o _ _ c⟩⟩
/-- the law's own books beside a flood -/
structure Kb (CF : Addr) (G0 H0 G H : Hp) (x pa la LB LC : Addr) (n m : Nat) (B : Nat → Bk) (cs : Nat → Option Nat) (dr : Nat → Addr) (D : Nat → Bk) (cl : Nat → Option Nat) : Prop where
  g0 : Gm x pa G0 H0 G H
  fd : FdA CF G H x pa la n m B cs
  lb : H LB = some (.lst (waV n dr))
  db : ∀ r, r < n → BkAt H (dr r) n (D r)
  gd : ∀ r, r < n → G (dr r) = none ∧ H0 (dr r) = none
  dj : ∀ r s, r < n → s < n → r ≠ s → dr r ≠ dr s
  lc : H LC = some (.lst (cV n cl))
  gc : G LC = none ∧ H0 LC = none
  ne : LB ≠ pa ∧ LC ≠ pa ∧ LB ≠ LC
section
variable {CF : Addr} {G0 H0 G H : Hp} {x pa la LB LC : Addr} {n m : Nat} {B : Nat → Bk} {cs : Nat → Option Nat} {dr : Nat → Addr} {D : Nat → Bk} {cl : Nat → Option Nat}
theorem Kb.ext {H' : Hp} (h : Kb CF G0 H0 G H x pa la LB LC n m B cs dr D cl) (e : Ex H H') : Kb CF G0 H0 G H' x pa la LB LC n m B cs dr D cl :=
  ⟨h.g0.post e, h.fd.ext e, e _ _ h.lb, fun r hr => (h.db r hr).mono e, h.gd, h.dj, e _ _ h.lc, h.gc, h.ne⟩
theorem Kb.gm {G' H' : Hp} {m' : Nat} {B' : Nat → Bk} {cs' : Nat → Option Nat} (h : Kb CF G0 H0 G H x pa la LB LC n m B cs dr D cl) (g : Gm x pa G H G' H') (hF : FdA CF G' H' x pa la n m' B' cs') : Kb CF G0 H0 G' H' x pa la LB LC n m' B' cs' dr D cl := by
  obtain ⟨dx, fs, st, hx, _⟩ := h.fd.ob
  obtain ⟨us, hpa, _⟩ := h.fd.ps
  have nx : ∀ {b u}, H b = some u → (∀ C d f, u ≠ .ins C d f) → b ≠ x := fun {b u} hb hu z => by
    rw [z, hx] at hb; cases hb; exact hu _ _ _ rfl
  have tk : ∀ t xs, H t = some (.tup xs) → H' t = some (.tup xs) := fun t xs ht => g.off _ _ (nx ht (fun _ _ _ z => by cases z)) (fun z => by rw [z, hpa] at ht; cases ht) ht
  refine ⟨h.g0.trans g hF.gx hF.gp, hF, g.off _ _ (nx h.lb (fun _ _ _ z => by cases z)) h.ne.1 h.lb, fun r hr => ?_, fun r hr => ?_, h.dj, g.off _ _ (nx h.lc (fun _ _ _ z => by cases z)) h.ne.2.1 h.lc, ⟨g.nw _ _ h.gc.1 h.lc (fun _ z => by cases z), h.gc.2⟩, h.ne⟩
  · obtain ⟨kvs, ks, h1, h2⟩ := h.db r hr
    exact ⟨kvs, ks, g.off _ _ (nx h1 (fun _ _ _ z => by cases z)) (fun z => by rw [z, hpa] at h1; cases h1) h1, h2.keep tk⟩
  · obtain ⟨kvs, ks, h1, h2⟩ := h.db r hr
    exact ⟨g.nw _ _ (h.gd r hr).1 h1 (fun _ z => by cases z), (h.gd r hr).2⟩
theorem Kb.tup {t : Addr} {xs : List V} (h : Kb CF G0 H0 G H x pa la LB LC n m B cs dr D cl) (hF0 : FdA CF G0 H0 x pa la n m B cs ∨ True) (hx : t ≠ x) (hp : t ≠ pa) (ht : H0 t = some (.tup xs)) : H t = some (.tup xs) := h.g0.off _ _ hx hp ht
theorem Kb.putB {r k : Nat} {t : Addr} {e : Ent} {kvs : List (L2.Key × V)} {ks : List Int} (h : Kb CF G0 H0 G H x pa la LB LC n m B cs dr D cl) (hr : r < n) (hk : k < n) (ht : H t = some (.tup (entV e))) (h1 : H (dr r) = some (.dK kvs)) (h2 : BkD H kvs ks n (D r)) :
    Kb CF G0 H0 G (upd H (dr r) (.dK (putK kvs (.inl (k : Int)) (.ref t)))) x pa la LB LC n m B cs dr (fun s => if s = r then setB (D r) k e else D s) cl := by
  obtain ⟨dx, fs, st, hx, _⟩ := h.fd.ob
  obtain ⟨us, hpa, _⟩ := h.fd.ps
  have nk : ∀ {b u}, H b = some u → (∀ kv, u ≠ .dK kv) → b ≠ dr r := fun {b u} hb hu z => by
    rw [z, h1] at hb; cases hb; exact hu _ rfl
  have tk : ∀ t' xs, H t' = some (.tup xs) → (upd H (dr r) (.dK (putK kvs (.inl (k : Int)) (.ref t)))) t' = some (.tup xs) := fun t' xs ht' => by rw [upd_ne (nk ht' (fun _ z => by cases z))]; exact ht'
  refine ⟨⟨h.g0.ex, fun b u hb1 hb2 hb => ?_, Ex.mut h.g0.sub (h.gd r hr).1, h.g0.nw⟩, h.fd.off1 (Of1.upd (dr r) H _) (nk hx (fun _ z => by cases z)) (nk hpa (fun _ z => by cases z)), by rw [upd_ne (nk h.lb (fun _ z => by cases z))]; exact h.lb, fun s hs => ?_, h.gd, h.dj, by rw [upd_ne (nk h.lc (fun _ z => by cases z))]; exact h.lc, h.gc, h.ne⟩
  · rw [upd_ne (fun z => by rw [z, (h.gd r hr).2] at hb; cases hb)]
    exact h.g0.off _ _ hb1 hb2 hb
  · by_cases c : s = r
    · rw [if_pos c, c]
      exact ⟨_, _, upd_same, (h2.keep tk).put hk (tk _ _ ht)⟩
    · rw [if_neg c]
      obtain ⟨kv2, ks2, g1, g2⟩ := h.db s hs
      exact ⟨kv2, ks2, by rw [upd_ne (h.dj s r hs hr c)]; exact g1, g2.keep tk⟩
theorem Kb.putC {r c : Nat} (h : Kb CF G0 H0 G H x pa la LB LC n m B cs dr D cl) : Kb CF G0 H0 G (upd H LC (.lst ((cV n cl).set r (.int (c : Int))))) x pa la LB LC n m B cs dr D (fun k => if k = r then some c else cl k) := by
  obtain ⟨dx, fs, st, hx, _⟩ := h.fd.ob
  have nk : ∀ {b u}, H b = some u → (∀ xs, u ≠ .lst xs) → b ≠ LC := fun {b u} hb hu z => by
    rw [z, h.lc] at hb; cases hb; exact hu _ rfl
  have tk : ∀ t' xs, H t' = some (.tup xs) → (upd H LC (.lst ((cV n cl).set r (.int (c : Int))))) t' = some (.tup xs) := fun t' xs ht' => by rw [upd_ne (nk ht' (fun _ z => by cases z))]; exact ht'
  refine ⟨⟨h.g0.ex, fun b u hb1 hb2 hb => ?_, Ex.mut h.g0.sub h.gc.1, h.g0.nw⟩, h.fd.off1 (Of1.upd LC H _) (nk hx (fun _ z => by cases z)) (Ne.symm h.ne.2.1), by rw [upd_ne h.ne.2.2]; exact h.lb, fun s hs => ?_, h.gd, h.dj, by rw [upd_same, cV_set], h.gc, h.ne⟩
  · rw [upd_ne (fun z => by rw [z, h.gc.2] at hb; cases hb)]
    exact h.g0.off _ _ hb1 hb2 hb
  · obtain ⟨kv2, ks2, g1, g2⟩ := h.db s hs
    exact ⟨kv2, ks2, by rw [upd_ne (nk g1 (fun _ z => by cases z))]; exact g1, g2.keep tk⟩
/-- books[r][k] = an entry -/
theorem q_bk {K : PySem.W.Frag} {tv : TE} {tz : TS} {E : Ends} {σ : L2.St} {i j r k : Nat} {t : Addr} {e : Ent} (h : Kb CF G0 H0 G H x pa la LB LC n m B cs dr D cl) (hv : Ev tv σ H (.ref t)) (ht : H t = some (.tup (entV e))) (h7 : σ[7]? = some (some (.ref LB))) (hi : σ[i]? = some (some (.int (r : Int)))) (hj : σ[j]? = some (some (.int (k : Int)))) (hr : r < n) (hk : k < n) (hn : n ≤ 8)
    (kk : ∀ H', Kb CF G0 H0 G H' x pa la LB LC n m B cs dr (fun s => if s = r then setB (D r) k e else D s) cl → (∀ t' xs, H t' = some (.tup xs) → H' t' = some (.tup xs)) → tz E σ H') : tSeq (tAsg tv (gSub (tOp (rIxL K) (tVar 7) (tVar i)) (tVar j) rSetD)) tz E σ H :=
  hv H (Ex.refl _) _ fun H1 e1 => by
    have h1 := h.ext e1
    obtain ⟨kvs, ks, a1, a2⟩ := h1.db r hr
    have hl := a2.vlen
    refine ⟨.ref LB, h7, .int (r : Int), hi, LB, waV n dr, (r : Int), .ref (dr r), rfl, rfl, sq_of h1.lb, atI_nat (waV_at hr), .int (k : Int), hj, dr r, _, rfl, .inl ⟨kvs, .inl (k : Int), a1, rfl, by rw [sizeLine_eq]; omega, rfl⟩, ?_⟩
    refine kk _ (h1.putB hr hk (e1 _ _ ht) a1 a2) fun t' xs ht' => ?_
    have := e1 _ _ ht'
    rw [upd_ne (fun z => by rw [z, a1] at this; cases this)]
    exact this
/-- contents[r] = c -/
theorem q_ct {tv : TE} {tz : TS} {E : Ends} {σ : L2.St} {i r c : Nat} (h : Kb CF G0 H0 G H x pa la LB LC n m B cs dr D cl) (hv : Ev tv σ H (.int (c : Int))) (h8 : σ[8]? = some (some (.ref LC))) (hi : σ[i]? = some (some (.int (r : Int)))) (hr : r < n)
    (kk : ∀ H', Kb CF G0 H0 G H' x pa la LB LC n m B cs dr D (fun k => if k = r then some c else cl k) → (∀ t' xs, H t' = some (.tup xs) → H' t' = some (.tup xs)) → tz E σ H') : tSeq (tAsg tv (gSub (tVar 8) (tVar i) rSetL)) tz E σ H :=
  hv H (Ex.refl _) _ fun H1 e1 => by
    have h1 := h.ext e1
    refine ⟨.ref LC, h8, .int (r : Int), hi, LC, cV n cl, (r : Int), r, rfl, rfl, h1.lc, ixNat (x := (r : Int)) (by omega) (by rw [cV_len]; omega), ?_⟩
    refine kk _ h1.putC fun t' xs ht' => ?_
    have := e1 _ _ ht'
    rw [upd_ne (fun z => by rw [z, h1.lc] at this; cases this)]
    exact this
end
/-! the law's books of two routers -/
theorem put_aa {a b : Nat} {oa ob ba bb : Option Ent} {e : Ent} : (fun s => if s = a then setB (SB a b oa ob ba bb a) a e else SB a b oa ob ba bb s) = SB a b (some e) ob ba bb := by
  funext s k
  unfold SB setB
  by_cases h : s = a
  · subst h
    by_cases h2 : k = s <;> simp [h2]
  · simp [h]
theorem put_ab {a b : Nat} (hab : a ≠ b) {oa ob ba bb : Option Ent} {e : Ent} : (fun s => if s = a then setB (SB a b oa ob ba bb a) b e else SB a b oa ob ba bb s) = SB a b oa (some e) ba bb := by
  have hba : b ≠ a := Ne.symm hab
  funext s k
  unfold SB setB
  by_cases h : s = a
  · subst h
    by_cases h2 : k = b
    · simp [h2, hba]
    · simp [h2]
  · simp [h]
theorem put_ba {a b : Nat} (hab : a ≠ b) {oa ob ba bb : Option Ent} {e : Ent} : (fun s => if s = b then setB (SB a b oa ob ba bb b) a e else SB a b oa ob ba bb s) = SB a b oa ob (some e) bb := by
  have hba : b ≠ a := Ne.symm hab
  funext s k
  unfold SB setB
  by_cases h : s = b
  · subst h
    by_cases h2 : k = a <;> simp [h2, hba]
  · simp [h]
theorem put_bb {a b : Nat} (hab : a ≠ b) {oa ob ba bb : Option Ent} {e : Ent} : (fun s => if s = b then setB (SB a b oa ob ba bb b) b e else SB a b oa ob ba bb s) = SB a b oa ob ba (some e) := by
  have hba : b ≠ a := Ne.symm hab
  funext s k
  unfold SB setB
  by_cases h : s = b
  · subst h
    by_cases h2 : k = s
    · simp [h2, hba]
    · simp [h2, hba]
  · simp [h]
theorem put_ca {a b c : Nat} {ca cb : Option Nat} : (fun k => if k = a then some c else SC a b ca cb k) = SC a b (some c) cb := stepc_a
theorem put_cb {a b c : Nat} (hab : a ≠ b) {ca cb : Option Nat} : (fun k => if k = b then some c else SC a b ca cb k) = SC a b ca (some c) := stepc_b hab
theorem SB_none (a b : Nat) : (fun _ _ => none) = SB a b none none none none := by
  funext s k
  unfold SB
  by_cases h : s = a
  · simp [h]
  · by_cases h2 : s = b <;> simp [h, h2]
theorem SC_none (a b : Nat) : (fun _ => none) = SC a b none none := by
  funext s
  unfold SC
  split
  · rfl
  · split <;> rfl
def oE (ws : List Nat) : Option Ent := (ws[ws.length - 1]?).map fun c => (ws.length, c)
def oC (ws : List Nat) : Option Nat := ws[ws.length - 1]?
end Wk

set_option Elab.async false
set_option linter.all false
set_option maxRecDepth 100000
set_option maxHeartbeats 4000000
namespace Wk
open PySem PySem.Spec PyProof.Rows L2 Evl
theorem Kb.same {CF : Addr} {G0 H0 G H : Hp} {x pa la LB LC : Addr} {n m : Nat} {B : Nat → Bk} {cs : Nat → Option Nat} {dr : Nat → Addr} {Q : VK} {E : XK} (h : Kb CF G0 H0 G H x pa la LB LC n m B cs dr B cs) (hn : n ≤ 8) (k : ∀ H', Ex H H' → Q (.bl true) H') : spSame CF [.ref x, .ref LB, .ref LC] H Q E :=
  ⟨G, x, pa, la, LB, LC, n, m, B, cs, dr, rfl, h.g0.sub, h.fd, hn, h.lb, h.db, h.lc, k⟩
theorem q_asgL {te : TE} {tz : TS} {E : Ends} {σ : L2.St} {H : Hp} {i : Nat} {xs : List V} (h : EvL te σ H xs) (k : ∀ l H1, H l = none → Ex H H1 → H1 l = some (.lst xs) → tz E (σ.set i (some (.ref l))) H1) : tSeq (tAsg te (gName i)) tz E σ H := h H (Ex.refl _) _ fun l H1 a b c => k l H1 a b c
theorem q_asgS {te : TE} {tz : TS} {E : Ends} {σ : L2.St} {H : Hp} {g : TG} {xs : List V} (h : EvS te σ H xs) (k : ∀ t H1, Ex H H1 → H1 t = some (.tup xs) → tSeq (tAsg (tC (.ref t)) g) tz E σ H1) : tSeq (tAsg te g) tz E σ H := h H (Ex.refl _) _ fun t H1 e ht => k t H1 e ht
theorem s_of {t : TS} {E : Ends} {σ : L2.St} {H : Hp} (h : tSeq t tNext E σ H) : t E σ H := h
theorem overE_no (o : Option Ent) : overE none o = o := by
  unfold overE
  cases o <;> rfl
theorem oE_no {ws : List Nat} (h : ws.length = 0) : oE ws = none ∧ oC ws = none := by
  have : ws = [] := List.length_eq_zero_iff.mp h
  rw [this]
  exact ⟨rfl, rfl⟩
theorem oE_yes {ws : List Nat} (h : 0 < ws.length) : ∃ c, ws[ws.length - 1]? = some c ∧ oE ws = some (ws.length, c) ∧ oC ws = some c := by
  refine ⟨ws[ws.length - 1], List.getElem?_eq_getElem (by omega), ?_, ?_⟩
  · unfold oE
    rw [List.getElem?_eq_getElem (by omega)]
    rfl
  · unfold oC
    rw [List.getElem?_eq_getElem (by omega)]
theorem nV_last {ws : List Nat} {c : Nat} (h : ws[ws.length - 1]? = some c) : atI (nV ws) (-1) = some (.int (c : Int)) := by
  have hl : (nV ws).length = ws.length := nV_len _
  have h3 := nV_at h
  have hpos : 0 < ws.length := by have := (List.getElem?_eq_some_iff.mp h).1; omega
  obtain ⟨l, y, hly⟩ : ∃ l y, nV ws = l ++ [y] := ⟨(nV ws).dropLast, (nV ws).getLast (by intro z; rw [z] at hl; simp at hl; omega), (List.dropLast_concat_getLast _).symm⟩
  have hll : l.length = ws.length - 1 := by
    have := congrArg List.length hly
    rw [hl, List.length_append] at this
    simp at this
    omega
  rw [hly, ← hll, List.getElem?_append_right (Nat.le_refl _), Nat.sub_self] at h3
  have hy : y = .int (c : Int) := by simpa using h3
  rw [hly, hy]
  exact atI_last l _
theorem backE_eq {own th : Ent} : backE own th = own ↔ gtN th own = false := by
  unfold backE
  by_cases h : gtN th own = true
  · rw [if_pos h]
    constructor
    · intro e
      have := congrArg Prod.fst e
      have : th.1 + 1 = own.1 := this
      have := gt_le h
      omega
    · intro e; rw [h] at e; cases e
  · rw [if_neg h]
    exact ⟨fun _ => by simpa using h, fun _ => rfl⟩
theorem backE_c (own th : Ent) : (backE own th).2 = own.2 := by
  unfold backE
  split <;> rfl
theorem wd_ent {x y : Ent} : decide ([(x.1 : Int), (x.2 : Int)] = [(y.1 : Int), (y.2 : Int)]) = decide (x = y) := by
  rw [decide_eq_decide]
  constructor
  · intro h
    injection h with h1 h2
    injection h2 with h2 _
    exact Prod.ext (by omega) (by omega)
  · intro h; rw [h]
/-- the arrows between two routers -/
structure Jab (js : List Wy) (n a b : Nat) : Prop where
  ok : ∀ w ∈ js, PrOk n w
  len : js.length ≤ 64
  ab : [(a : Int), (b : Int)] ∈ js
  ba : [(b : Int), (a : Int)] ∈ js
  on : ∀ u v : Nat, [(u : Int), (v : Int)] ∈ js → (u = a ∧ v = b) ∨ (u = b ∧ v = a)
theorem SB_at {a b : Nat} (hab : a ≠ b) {oa ob ba bb : Option Ent} : SB a b oa ob ba bb a a = oa ∧ SB a b oa ob ba bb a b = ob ∧ SB a b oa ob ba bb b a = ba ∧ SB a b oa ob ba bb b b = bb := by
  have hba : b ≠ a := Ne.symm hab
  unfold SB
  simp [hab, hba]
theorem newer_self {own given : Bk} {k : Nat} (h : given k = own k) : newer own given k = false := by
  unfold newer
  rw [h]
  cases own k with
  | none => rfl
  | some e => exact gt_irr e
theorem calm_two {js : List Wy} {n a b : Nat} (hab : a ≠ b) (J : Jab js n a b) {o e : Option Ent} {ca cb : Option Nat} : calmB n (SB a b o e o e) (SC a b ca cb) js = true := by
  unfold calmB
  rw [List.all_eq_true]
  intro w hw
  obtain ⟨u, v, rfl, _, _, _⟩ := J.ok w hw
  have h := J.on u v hw
  show eqSb n (stepB (SB a b o e o e) (SC a b ca cb) (.pas ((u : Int)).toNat ((v : Int)).toNat)) (SC a b ca cb) (SB a b o e o e) (SC a b ca cb) = true
  rw [Int.toNat_natCast, Int.toNat_natCast]
  rcases h with ⟨rfl, rfl⟩ | ⟨rfl, rfl⟩
  · rw [step_ab hab, overE_self, overO_self]
    exact eqSb_yes ⟨fun _ _ => rfl, fun _ _ => rfl⟩
  · rw [step_ba hab, overE_self, overO_self]
    exact eqSb_yes ⟨fun _ _ => rfl, fun _ _ => rfl⟩
section
variable {P : Program} {w : World} {K : PySem.W.Frag} {mg : Str → Option Value} {base : Heap} {f : Addr} {fd : FuncData} {CF : Addr}
/-! _law_back -/
def spBack (CF : Addr) : Sp := fun vs H Q _ => ∃ (G : Hp) (x pa la to tt ol : Addr) (n m a b : Nat) (own th : Ent) (ws : List Nat) (us : List V) (js : List Wy), vs = [.ref x, .int (n : Int), .int (a : Int), .int (b : Int), .ref to, .ref tt, .ref ol] ∧ Ex G H ∧ FdA CF G H x pa la n m (SB a b (some own) none (some th) (oE ws)) (SC a b (some own.2) (oC ws)) ∧ n ≤ 8 ∧ a < n ∧ b < n ∧ a ≠ b ∧ m + 2 < 10000 ∧
  H to = some (.tup (entV own)) ∧ H tt = some (.tup (entV th)) ∧ H ol = some (.lst (nV ws)) ∧ ws.length ≤ 1000 ∧ ol ≠ pa ∧ G la = some (.lst us) ∧ DqA G us (js.map wd) ∧ Jab js n a b ∧
  ∀ G' H' t', Gm x pa G H G' H' → FdA CF G' H' x pa la n (m + 2) (SB a b (some (backE own th)) (oE ws) (some (backE own th)) (oE ws)) (SC a b (some own.2) (oC ws)) → H' t' = some (.tup (entV (backE own th))) → Q (.ref t') H'
abbrev sBack : Stmt := top 40
abbrev pBack : List Str := ["_law_flood", "_law_size", "_law_a", "_law_b", "_law_own", "_law_theirs", "_law_others"]
abbrev nBack : List Str := ["_law_flood", "_law_size", "_law_a", "_law_b", "_law_own", "_law_theirs", "_law_others", "_law_books", "_law_contents_here", "_law_router", "_law_changed"]
theorem scBack : FnScope nBack pBack (defScope sBack) := ⟨rfl, rfl, rfl, by decide +kernel, rfl, by decide +kernel, by decide +kernel⟩
theorem ok_back (B0 : Bl mg) (X : FX K CF) (CS : Cal P w K mg base "_law_same" ["_law_flood", "_law_books", "_law_contents_here"] 6 (spSame CF)) (CFl : Cal P w K mg base "_law_flag" ["_law_actual", "_law_due"] 1 spFlag) (MD : Msk P w K mg base CF "do" ["self", "deed"] 5 (spDo CF)) (MCm : Msk P w K mg base CF "is_calm" ["self"] 4 (spCalm CF))
    (F : FnP K "_law_back" sBack f fd) : FnOk P w K mg base CX0 7 f fd pBack (spBack CF) := by
  obtain ⟨f1, fd1, me1, F1, b1⟩ := MD.ex
  obtain ⟨f2, fd2, me2, F2, b2⟩ := MCm.ex
  refine F.ok scBack (fun vs H Q E h => ?_) (fun cdv A outer s H vs Q E hr h => ?_)
  · obtain ⟨G, x, pa, la, to, tt, ol, n, m, a, b, own, th, ws, us, js, rfl, _⟩ := h
    rfl
  · obtain ⟨G, x, pa, la, to, tt, ol, n, m, a, b, own, th, ws, us, js, rfl, eG, hF, hn, han, hbn, hab, hm, hto, htt, hol, hwl, olp, gla, hus, J, k⟩ := h
    have hu : (A.deeper (envOfC "_law_back" (defScope sBack) s.heap.objs.size f cdv)).units + 64 < cLine := by have := hr.un; omega
    have hu1 : (A.deeper (envOfC "_law_back" (defScope sBack) s.heap.objs.size f cdv)).units + 1 < cLine := by omega
    have hu0 : (A.deeper (envOfC "_law_back" (defScope sBack) s.heap.objs.size f cdv)).units < cLine := by omega
    have r5 : Room 5 _ := hr.mono (by decide)
    have r4 : Room 4 _ := hr.mono (by decide)
    refine ⟨_, pss_cons (ps_setLc (i := 7) (own := [("_law_router", 9)]) (g := gName 9) (tt := tYes) (te := tDNewK) rfl scBack.nd rfl rfl (sw_true rfl rfl rfl (by decide +kernel)) (pi_range1 (by rfl) B0.range (pa_cons (pv 1) pa_nil)) (blkOk_by (N := nBack) (sc := defScope sBack) (by decide +kernel))
          (fun _ _ _ _ _ => pg_name (i := 9) scBack.nd rfl (Or.inl rfl)) (fun _ _ _ _ _ => pts_nil) (fun _ _ _ _ _ => pe_dnewK))
      (pss_cons (ps_setLc (i := 8) (own := [("_law_router", 9)]) (g := gName 9) (tt := tYes) (te := tC .non) rfl scBack.nd rfl rfl (sw_true rfl rfl rfl (by decide +kernel)) (pi_range1 (by rfl) B0.range (pa_cons (pv 1) pa_nil)) (blkOk_by (N := nBack) (sc := defScope sBack) (by decide +kernel))
          (fun _ _ _ _ _ => pg_name (i := 9) scBack.nd rfl (Or.inl rfl)) (fun _ _ _ _ _ => pts_nil) (fun _ _ _ _ _ => pe_non))
      (pss_cons (ps_asg (pe_ix ix_tup (pv 4) pe_int (fun _ _ => rfl)) (pg_sub (pv 8) (pv 2) set_list))
      (pss_cons (ps_asg (pv 4) (pg_sub (pe_ix ix_list (pv 7) (pv 2) (fun _ _ => rfl)) (pv 2) (set_dict hu1)))
      (pss_cons (ps_asg (pv 5) (pg_sub (pe_ix ix_list (pv 7) (pv 3) (fun _ _ => rfl)) (pv 2) (set_dict hu1)))
      (pss_cut (ps_if (pt_cmpR op_gt (pe_callB call_len_seq (by rfl) B0.len PySem.boot_len (pa_cons (pv 6) pa_nil)) pe_int (nomark _))
          (pss_cons (ps_asg (pe_tup (pa_cons (pe_callB call_len_seq (by rfl) B0.len PySem.boot_len (pa_cons (pv 6) pa_nil)) (pa_cons (pe_ix ix_list (pv 6) (pe_un un_neg pe_int) (fun _ _ => rfl)) pa_nil))) (pg_sub (pe_ix ix_list (pv 7) (pv 3) (fun _ _ => rfl)) (pv 3) (set_dict hu1)))
          (pss_one (ps_asg (pe_ix ix_list (pv 6) (pe_un un_neg pe_int) (fun _ _ => rfl)) (pg_sub (pv 8) (pv 3) set_list)))) pss_nil)
      (pss_cons (ps_if (pt_not (pt_val (pe_cal CS hr (by rfl) (pa_cons (pv 0) (pa_cons (pv 7) (pa_cons (pv 8) pa_nil)))))) (pss_one (ps_ret pe_non)) pss_nil)
      (pss_cons (ps_set (i := 10) scBack.nd rfl (Or.inl rfl) (pe_cmpR op_gt (pe_callB call_len_seq (by rfl) B0.len PySem.boot_len (pa_cons (pv 6) pa_nil)) pe_int (nomark _)))
      (pss_cut (ps_if (pt_val (pv 10)) (pss_one (ps_asg (pe_dget hu1 (pe_ix ix_list (pv 7) (pv 3) (fun _ _ => rfl)) (pv 3) (fun _ _ => rfl)) (pg_sub (pe_ix ix_list (pv 7) (pv 2) (fun _ _ => rfl)) (pv 3) (set_dict hu1)))) pss_nil)
      (pss_cut (ps_if (pt_cmpR (op_gtP (K := K) rfl hu0) (pv 5) (pv 4) (nomark _))
          (pss_cons (ps_set (i := 4) scBack.nd rfl (Or.inl rfl) (pe_tup (pa_cons (pe_op op_add (pe_ix ix_tup (pv 5) pe_int (fun _ _ => rfl)) pe_int) (pa_cons (pe_ix ix_tup (pv 4) pe_int (fun _ _ => rfl)) pa_nil))))
          (pss_cons (ps_asg (pv 4) (pg_sub (pe_ix ix_list (pv 7) (pv 2) (fun _ _ => rfl)) (pv 2) (set_dict hu1)))
          (pss_one (ps_set (i := 10) scBack.nd rfl (Or.inl rfl) pe_bl)))) pss_nil)
      (pss_cons (ps_if (PW.pt (pw_or (pt_not (pt_val (pe_cal CFl hr (by rfl) (pa_cons (pe_meth (pv 0) X.cl me1 F1 r5 b1 .nil pass0 (pa_cons (pe_tup (pa_cons pe_str (pa_cons (pv 3) (pa_cons (pv 2) pa_nil)))) pa_nil)) (pa_cons (pv 10) pa_nil)))))
          (pw_or1 (pt_not (pt_val (pe_cal CS hr (by rfl) (pa_cons (pv 0) (pa_cons (pv 7) (pa_cons (pv 8) pa_nil))))))))) (pss_one (ps_ret pe_non)) pss_nil)
      (pss_cons (ps_if (pt_not (pt_val (pe_cal CFl hr (by rfl) (pa_cons (pe_meth (pv 0) X.cl me1 F1 r5 b1 .nil pass0 (pa_cons (pe_tup (pa_cons pe_str (pa_cons (pv 2) (pa_cons (pv 3) pa_nil)))) pa_nil)) (pa_cons (pe_cmpR (op_neD hu) (pv 4) (pv 5) (nomark _)) pa_nil))))) (pss_one (ps_ret pe_non)) pss_nil)
      (pss_cons (ps_asg (pv 4) (pg_sub (pe_ix ix_list (pv 7) (pv 3) (fun _ _ => rfl)) (pv 2) (set_dict hu1)))
      (pss_cons (ps_if (PW.pt (pw_or (pt_not (pt_val (pe_cal CS hr (by rfl) (pa_cons (pv 0) (pa_cons (pv 7) (pa_cons (pv 8) pa_nil)))))) (pw_or1 (pt_cmpR op_notBl (pe_meth0 (pv 0) X.cl me2 F2 r4 b2 .nil pass0) pe_bl (nomark _))))) (pss_one (ps_ret pe_non)) pss_nil)
      (pss_one (ps_ret (pv 4)))))))))))))))), ?_⟩
    obtain ⟨dx0, fs0, st0, hx0, _⟩ := hF.ob
    obtain ⟨us0, hpa0, _⟩ := hF.ps
    have tox : to ≠ x := fun z => by rw [z, hx0] at hto; cases hto
    have top' : to ≠ pa := fun z => by rw [z, hpa0] at hto; cases hto
    have ttx : tt ≠ x := fun z => by rw [z, hx0] at htt; cases htt
    have ttp : tt ≠ pa := fun z => by rw [z, hpa0] at htt; cases htt
    have olx : ol ≠ x := fun z => by rw [z, hx0] at hol; cases hol
    -- the law's books
    refine ⟨.int (n : Int), rfl, (n : Int), rfl, by omega, by omega, fun LB hLB => ?_⟩
    refine lc_range (lo := 0) (n := ((n : Int)).toNat) (fun i H' => ∃ dr : Nat → Addr, Ex H H' ∧ H' LB = some (.lst (waV i dr)) ∧ (∀ r, r < i → H' (dr r) = some (.dK []) ∧ H (dr r) = none ∧ dr r ≠ LB) ∧ ∀ r s, r < i → s < i → r ≠ s → dr r ≠ dr s) ⟨fun _ => 0, Ex.new hLB, upd_same, fun r hr => absurd hr (Nat.not_lt_zero _), fun r s hr => absurd hr (Nat.not_lt_zero _)⟩ ?_ ?_
    · rintro i H6 hi ⟨dr, e56, h1, h2, h3⟩
      refine ⟨rfl, fun t ht => ?_⟩
      have Wt : LB ≠ t := fun z => by rw [← z, h1] at ht; cases ht
      refine ⟨waV i dr, by rw [upd_ne Wt]; exact h1, by rw [waV_len, sizeLine_eq]; omega, fun k => if k = i then t else dr k, Ex.mut (e56.trans (Ex.new ht)) hLB, by rw [waV_snoc]; exact upd_same, fun r hr => ?_, fun r s hr hs hrs => ?_⟩
      · dsimp only
        by_cases c : r = i
        · rw [if_pos c, upd_ne (Ne.symm Wt), upd_same]
          exact ⟨rfl, fresh_back e56 ht, Ne.symm Wt⟩
        · rw [if_neg c]
          obtain ⟨a1, a2, a3⟩ := h2 r (by omega)
          have at' : dr r ≠ t := fun z => by rw [z, ht] at a1; cases a1
          rw [upd_ne a3, upd_ne at']
          exact ⟨a1, a2, a3⟩
      · dsimp only
        by_cases c : r = i
        · rw [if_pos c, if_neg (by omega)]
          obtain ⟨a1, _, _⟩ := h2 s (by omega)
          exact fun z => by rw [← z, ht] at a1; cases a1
        · rw [if_neg c]
          obtain ⟨a1, _, _⟩ := h2 r (by omega)
          by_cases c2 : s = i
          · rw [if_pos c2]
            exact fun z => by rw [z, ht] at a1; cases a1
          · rw [if_neg c2]
            exact h3 r s (by omega) (by omega) hrs
    rintro H1 ⟨dr, e1, hLB1, hdr, hdj⟩
    rw [Int.toNat_natCast] at hLB1 hdr hdj
    refine g_name ?_
    dsimp only
    change tSeq _ _ _ [some (.ref x), some (.int (n : Int)), some (.int (a : Int)), some (.int (b : Int)), some (.ref to), some (.ref tt), some (.ref ol), some (.ref LB), none, none, none] H1
    have zc := el_lcR1 (σ := [some (.ref x), some (.int (n : Int)), some (.int (a : Int)), some (.int (b : Int)), some (.ref to), some (.ref tt), some (.ref ol), some (.ref LB), none, none, none]) (H := H1) (ta := tCons (tVar 1) tNil) (j := 9) (vs := [9]) (t := tYes) (te := tC .non) (n := (n : Int)) (fun _ => true) (fun _ => .non) (ea_cons (ev_var rfl) ea_nil) (by omega) (fun x => rfl) (fun _ _ _ _ => et_yes) (fun _ _ _ _ _ => ev_c)
    rw [given_all, Int.toNat_natCast] at zc
    refine q_asgL zc fun LC H2 hLC e2 h2 => ?_
    change tSeq _ _ _ [some (.ref x), some (.int (n : Int)), some (.int (a : Int)), some (.int (b : Int)), some (.ref to), some (.ref tt), some (.ref ol), some (.ref LB), some (.ref LC), none, none] H2
    have e12 := e1.trans e2
    have K2 : Kb CF G H G H2 x pa la LB LC n m (SB a b (some own) none (some th) (oE ws)) (SC a b (some own.2) (oC ws)) dr (SB a b none none none none) (SC a b none none) := by
      rw [← SB_none, ← SC_none]
      refine ⟨Gm.ext eG e12, hF.ext e12, e2 _ _ hLB1, fun r hr => ⟨[], [], e2 _ _ (hdr r hr).1, BkD.nil _ n⟩, fun r hr => ⟨fresh_back eG (hdr r hr).2.1, (hdr r hr).2.1⟩, hdj, h2, ⟨fresh_back (eG.trans e1) hLC, fresh_back e1 hLC⟩, ⟨Ne.symm (ne_of_none hpa0 hLB), Ne.symm (ne_of_none (e1 _ _ hpa0) hLC), ne_of_none hLB1 hLC⟩⟩
    clear zc h2 hLC hLB1 hdr hdj hLB
    have vto : ∀ {G' H' : Hp} {m' : Nat} {B' : Nat → Bk} {cs' : Nat → Option Nat} {D' : Nat → Bk} {cl' : Nat → Option Nat}, Kb CF G H G' H' x pa la LB LC n m' B' cs' dr D' cl' → H' to = some (.tup (entV own)) ∧ H' tt = some (.tup (entV th)) ∧ H' ol = some (.lst (nV ws)) := fun h => ⟨h.g0.off _ _ tox top' hto, h.g0.off _ _ ttx ttp htt, h.g0.off _ _ olx olp hol⟩
    refine q_ct (i := 2) (r := a) (c := own.2) K2 (ev_op (r := rIxT K) (ev_var (i := 4) rfl) (ev_c (v := .int 1)) (rv_ixT (st_of (vto K2).1) rfl)) rfl rfl han fun H3 K3 _ => ?_
    rw [put_ca] at K3
    refine q_bk (K := K) (i := 2) (j := 2) (r := a) (k := a) (e := own) K3 (ev_var (i := 4) rfl) (vto K3).1 rfl rfl rfl han han hn fun H4 K4 _ => ?_
    rw [put_aa] at K4
    refine q_bk (K := K) (i := 3) (j := 2) (r := b) (k := a) (e := th) K4 (ev_var (i := 5) rfl) (vto K4).2.1 rfl rfl rfl hbn han hn fun H5 K5 _ => ?_
    rw [put_ba hab] at K5
    have lst : ∀ {H' : Hp} {o4 o10 : Option V} {c : Nat}, ws[ws.length - 1]? = some c → H' ol = some (.lst (nV ws)) → Ev (tOp (rIxL K) (tVar 6) (tUn (rU fun i => .int (-i)) (tC (.int 1)))) [some (.ref x), some (.int (n : Int)), some (.int (a : Int)), some (.int (b : Int)), o4, some (.ref tt), some (.ref ol), some (.ref LB), some (.ref LC), none, o10] H' (.int (c : Int)) := fun hc h => ev_op (ev_var rfl) (ev_un (r := rU fun i => .int (-i)) (ev_c (v := .int 1)) (fun H1 _ Q q => ⟨1, rfl, q H1 (Ex.refl H1)⟩)) (rv_ixL (sq_of h) (nV_last hc))
    have lnw : ∀ {H' : Hp} {o4 o10 : Option V}, H' ol = some (.lst (nV ws)) → Ev (tCB (rLenS K) (tCons (tVar 6) tNil)) [some (.ref x), some (.int (n : Int)), some (.int (a : Int)), some (.int (b : Int)), o4, some (.ref tt), some (.ref ol), some (.ref LB), some (.ref LC), none, o10] H' (.int (ws.length : Int)) := fun {H' o4 o10} h => by
      have z := ev_len (K := K) (σ := [some (.ref x), some (.int (n : Int)), some (.int (a : Int)), some (.int (b : Int)), o4, some (.ref tt), some (.ref ol), some (.ref LB), some (.ref LC), none, o10]) (H := H') (ta := tVar 6) (ev_var (v := .ref ol) rfl) (sq_of h)
      rw [nV_len] at z
      exact z
    refine q_cut (M := fun σ' H' => σ' = [some (.ref x), some (.int (n : Int)), some (.int (a : Int)), some (.int (b : Int)), some (.ref to), some (.ref tt), some (.ref ol), some (.ref LB), some (.ref LC), none, none] ∧ Kb CF G H G H' x pa la LB LC n m (SB a b (some own) none (some th) (oE ws)) (SC a b (some own.2) (oC ws)) dr (SB a b (some own) none (some th) (oE ws)) (SC a b (some own.2) (oC ws))) ?_ ?_
    · have tl := et_test (ev_op (r := rI0 fun i j => .bl (decide (i > j))) (lnw (o4 := some (.ref to)) (o10 := none) (vto K5).2.2) (ev_c (v := .int 0)) rv_I0)
      refine s_when tl (fun hb H6 e6 => ?_) (fun hb H6 e6 => ?_)
      · have hpos : 0 < ws.length := by have := of_decide_eq_true hb; omega
        obtain ⟨c, hc1, hc2, hc3⟩ := oE_yes hpos
        have K6 := K5.ext e6
        refine q_asgS (es_tup (xs := entV (ws.length, c)) (ea_cons (lnw (o4 := some (.ref to)) (o10 := none) (vto K6).2.2) (ea_cons (lst hc1 (vto K6).2.2) ea_nil)) (by show 2 ≤ 100000; decide)) fun t7 H7 e7 ht7 => ?_
        have K7 := K6.ext e7
        refine q_bk (K := K) (tv := tC (.ref t7)) (i := 3) (j := 3) (r := b) (k := b) (e := (ws.length, c)) K7 ev_c ht7 rfl rfl rfl hbn hbn hn fun H8 K8 _ => ?_
        rw [put_bb hab] at K8
        refine s_of (q_ct (i := 3) (r := b) (c := c) K8 (lst (o4 := some (.ref to)) (o10 := none) hc1 (vto K8).2.2) rfl rfl hbn fun H9 K9 _ => ?_)
        rw [put_cb hab] at K9
        rw [hc2, hc3]
        rw [hc2, hc3] at K9
        exact ⟨rfl, K9⟩
      · have hz : ws.length = 0 := by have := of_decide_eq_false hb; omega
        obtain ⟨z1, z2⟩ := oE_no hz
        have K6 := K5.ext e6
        rw [z1, z2] at K6 ⊢
        exact ⟨rfl, K6⟩
    rintro σ' H6 ⟨rfl, K6⟩
    clear K2 K3 K4 K5
    refine ⟨.ref x, rfl, .ref LB, rfl, .ref LC, rfl, G, x, pa, la, LB, LC, n, m, _, _, dr, rfl, K6.g0.sub, K6.fd, hn, K6.lb, K6.db, K6.lc, fun H7 e7 => ⟨true, rfl, ?_⟩⟩
    simp only [Bool.not_true, Bool.false_eq_true, if_false]
    have K7 := K6.ext e7
    refine q_asg (v := .bl (decide ((ws.length : Int) > 0))) (ev_op (r := rI0 fun i j => .bl (decide (i > j))) (lnw (vto K7).2.2) (ev_c (v := .int 0)) rv_I0) fun H8 e8 => ?_
    have K8 := K7.ext e8
    change tCut _ _ _ [some (.ref x), some (.int (n : Int)), some (.int (a : Int)), some (.int (b : Int)), some (.ref to), some (.ref tt), some (.ref ol), some (.ref LB), some (.ref LC), none, some (.bl (decide ((ws.length : Int) > 0)))] H8
    refine q_cut (M := fun σ' H' => σ' = [some (.ref x), some (.int (n : Int)), some (.int (a : Int)), some (.int (b : Int)), some (.ref to), some (.ref tt), some (.ref ol), some (.ref LB), some (.ref LC), none, some (.bl (decide ((ws.length : Int) > 0)))] ∧ Kb CF G H G H' x pa la LB LC n m (SB a b (some own) none (some th) (oE ws)) (SC a b (some own.2) (oC ws)) dr (SB a b (some own) (oE ws) (some th) (oE ws)) (SC a b (some own.2) (oC ws))) ?_ ?_
    · refine s_when (et_B (b := decide ((ws.length : Int) > 0)) (ev_var (i := 10) rfl)) (fun hb H9 e9 => ?_) (fun hb H9 e9 => ?_)
      · have hpos : 0 < ws.length := by have := of_decide_eq_true hb; omega
        obtain ⟨c, hc1, hc2, hc3⟩ := oE_yes hpos
        have K9 := K8.ext e9
        obtain ⟨kvs, ks, h1, h2⟩ := K9.db b hbn
        have hbb : SB a b (some own) none (some th) (oE ws) b b = some (ws.length, c) := by rw [(SB_at hab).2.2.2, hc2]
        obtain ⟨t, ht1, ht2⟩ := h2.get hbb
        have vv : Ev (tDGet (tOp (rIxL K) (tVar 7) (tVar 3)) (tVar 3)) [some (.ref x), some (.int (n : Int)), some (.int (a : Int)), some (.int (b : Int)), some (.ref to), some (.ref tt), some (.ref ol), some (.ref LB), some (.ref LC), none, some (.bl (decide ((ws.length : Int) > 0)))] H9 (.ref t) := ev_dget (ev_op (ev_var rfl) (ev_var (i := 3) rfl) (rv_ixL (sq_of K9.lb) (atI_nat (waV_at hbn)))) (ev_var (i := 3) rfl) (.inl h1) ht1
        refine s_of (q_bk (K := K) (i := 2) (j := 3) (r := a) (k := b) (e := (ws.length, c)) K9 vv ht2 rfl rfl rfl han hbn hn fun HA KA _ => ?_)
        rw [put_ab hab, ← hc2] at KA
        exact ⟨rfl, KA⟩
      · have hz : ws.length = 0 := by have := of_decide_eq_false hb; omega
        obtain ⟨z1, z2⟩ := oE_no hz
        have K9 := K8.ext e9
        rw [z1, z2] at K9 ⊢
        exact ⟨rfl, K9⟩
    rintro σ' H9 ⟨rfl, K9⟩
    clear K6 K7 K8
    refine q_cut (M := fun σ' H' => ∃ to' : Addr, σ' = [some (.ref x), some (.int (n : Int)), some (.int (a : Int)), some (.int (b : Int)), some (.ref to'), some (.ref tt), some (.ref ol), some (.ref LB), some (.ref LC), none, some (.bl (decide ((ws.length : Int) > 0) || gtN th own))] ∧ H' to' = some (.tup (entV (backE own th))) ∧ Kb CF G H G H' x pa la LB LC n m (SB a b (some own) none (some th) (oE ws)) (SC a b (some own.2) (oC ws)) dr (SB a b (some (backE own th)) (oE ws) (some th) (oE ws)) (SC a b (some own.2) (oC ws))) ?_ ?_
    · have tg := et_test (ev_gt (K := K) (ta := tVar 5) (tb := tVar 4) (σ := [some (.ref x), some (.int (n : Int)), some (.int (a : Int)), some (.int (b : Int)), some (.ref to), some (.ref tt), some (.ref ol), some (.ref LB), some (.ref LC), none, some (.bl (decide ((ws.length : Int) > 0)))]) (ev_var rfl) (ev_var rfl) (vto K9).2.1 (vto K9).1)
      refine s_when tg (fun hb HA eA => ?_) (fun hb HA eA => ?_)
      · have KA := K9.ext eA
        have eb : backE own th = (th.1 + 1, own.2) := by unfold backE; rw [if_pos hb]
        have w1 : Ev (tOp (rI0 fun i j => .int (i + j)) (tOp (rIxT K) (tVar 5) (tC (.int 0))) (tC (.int 1))) [some (.ref x), some (.int (n : Int)), some (.int (a : Int)), some (.int (b : Int)), some (.ref to), some (.ref tt), some (.ref ol), some (.ref LB), some (.ref LC), none, some (.bl (decide ((ws.length : Int) > 0)))] HA (.int ((th.1 + 1 : Nat) : Int)) := by
          rw [show ((th.1 + 1 : Nat) : Int) = (th.1 : Int) + 1 by omega]
          exact ev_op (ev_op (ev_var rfl) ev_c (rv_ixT (i := 0) (v := .int (th.1 : Int)) (st_of (vto KA).2.1) rfl)) ev_c rv_I0
        refine q_asgS (es_tup (xs := entV (th.1 + 1, own.2)) (ea_cons w1 (ea_cons (ev_op (r := rIxT K) (ev_var (i := 4) rfl) (ev_c (v := .int 1)) (rv_ixT (st_of (vto KA).1) rfl)) ea_nil)) (by show 2 ≤ 100000; decide)) fun tn HB0 eB0 htn0 => ?_
        refine q_asg (v := .ref tn) ev_c fun HB eB1 => ?_
        have eB := eB0.trans eB1
        have htn := eB1 _ _ htn0
        have KB := KA.ext eB
        change tSeq _ _ _ [some (.ref x), some (.int (n : Int)), some (.int (a : Int)), some (.int (b : Int)), some (.ref tn), some (.ref tt), some (.ref ol), some (.ref LB), some (.ref LC), none, some (.bl (decide ((ws.length : Int) > 0)))] HB
        refine q_bk (K := K) (i := 2) (j := 2) (r := a) (k := a) (e := (th.1 + 1, own.2)) KB (ev_var (i := 4) rfl) htn rfl rfl rfl han han hn fun HC KC tkC => ?_
        rw [put_aa, ← eb] at KC
        refine s_asg (v := .bl true) ev_c fun HD eD => ?_
        refine ⟨tn, ?_, eD _ _ (tkC _ _ (by rw [eb]; exact htn)), KC.ext eD⟩
        have hb : gtN th own = true := hb
        rw [hb, Bool.or_true]
        rfl
      · have hb : gtN th own = false := hb
        have eb : backE own th = own := backE_eq.mpr hb
        have KA := K9.ext eA
        refine ⟨to, ?_, ?_, ?_⟩
        · rw [hb, Bool.or_false]
        · rw [eb]; exact (vto KA).1
        · rw [eb]; exact KA
    rintro σ' HA ⟨to', rfl, hto', KA⟩
    clear K9
    have keep : ∀ {G1 H1 G2 H2 : Hp} {m1 : Nat} {B1 : Nat → Bk} {cs1 : Nat → Option Nat} {D1 : Nat → Bk} {cl1 : Nat → Option Nat} {t : Addr} {xs : List V}, Kb CF G H G1 H1 x pa la LB LC n m1 B1 cs1 dr D1 cl1 → Gm x pa G1 H1 G2 H2 → H1 t = some (.tup xs) → H2 t = some (.tup xs) := fun {G1 H1 G2 H2 m1 B1 cs1 D1 cl1 t xs} h g ht => by
      obtain ⟨dx, fs, st, hx, _⟩ := h.fd.ob
      obtain ⟨us, hpa, _⟩ := h.fd.ps
      exact g.off _ _ (fun z => by rw [z, hx] at ht; cases ht) (fun z => by rw [z, hpa] at ht; cases ht) ht
    -- b passes to a
    obtain ⟨dxA, fsA, stA, hxA, ffA, _⟩ := KA.fd.ob
    refine ⟨.ref x, rfl, x, dxA, fsA, rfl, hxA, ffA.n1, .int (b : Int), rfl, .int (a : Int), rfl, by show 3 ≤ sizeLine; decide, fun t ht => ?_⟩
    have eN := Ex.new (o := .tup [V.str "pass", .int (b : Int), .int (a : Int)]) ht
    have KN := KA.ext eN
    have may1 : (Deed.pas b a).may n (SB a b (some own) none (some th) (oE ws)) (SC a b (some own.2) (oC ws)) := ⟨hbn, han, fun _ => ⟨own.2, by unfold SC; simp⟩⟩
    refine ⟨G, x, pa, la, t, n, m, _, _, .pas b a, us, js, false, rfl, KN.g0.sub, KN.fd, hn, by omega, upd_same, may1, gla, hus, J.ba, fun G2 H2 gm hF2 => ?_⟩
    have hst : stepB (SB a b (some own) none (some th) (oE ws)) (SC a b (some own.2) (oC ws)) (.pas b a) = SB a b (some (backE own th)) (oE ws) (some th) (oE ws) := by rw [step_ba hab, back_own, overE_no]
    have hfl : (!eqSb n (stepB (SB a b (some own) none (some th) (oE ws)) (SC a b (some own.2) (oC ws)) (.pas b a)) (stepC (SC a b (some own.2) (oC ws)) (.pas b a)) (SB a b (some own) none (some th) (oE ws)) (SC a b (some own.2) (oC ws))) = (decide ((ws.length : Int) > 0) || gtN th own) := by
      rw [hst]
      show (!eqSb n (SB a b (some (backE own th)) (oE ws) (some th) (oE ws)) (SC a b (some own.2) (oC ws)) (SB a b (some own) none (some th) (oE ws)) (SC a b (some own.2) (oC ws))) = _
      by_cases hg : gtN th own = true
      · rw [hg, Bool.or_true, eqSb_no]
        · rfl
        · intro h
          have z := ((SB_eq han hbn hab).mp h).1.1
          injection z with z
          rw [backE_eq.mp z] at hg
          cases hg
      · have hg : gtN th own = false := by simpa using hg
        rw [hg, Bool.or_false]
        by_cases hp : 0 < ws.length
        · obtain ⟨c, _, hc2, _⟩ := oE_yes hp
          rw [decide_eq_true (show (ws.length : Int) > 0 by omega), eqSb_no]
          · rfl
          · intro h
            have z := ((SB_eq han hbn hab).mp h).1.2.1
            rw [hc2] at z
            cases z
        · obtain ⟨z1, z2⟩ := oE_no (show ws.length = 0 by omega)
          rw [decide_eq_false (show ¬ (ws.length : Int) > 0 by omega), eqSb_yes]
          · rfl
          · rw [z1, backE_eq.mpr hg]
            exact ⟨fun _ _ => rfl, fun _ _ => rfl⟩
    rw [hfl]
    rw [hst] at hF2
    have hF2 : FdA CF G2 H2 x pa la n (m + 1) (SB a b (some (backE own th)) (oE ws) (some th) (oE ws)) (SC a b (some own.2) (oC ws)) := hF2
    have hto2 := keep KN gm (eN _ _ hto')
    have K2 := KN.gm gm hF2
    refine ⟨_, rfl, .bl (decide (V.bl (decide ((ws.length : Int) > 0) || gtN th own) = V.bl (decide ((ws.length : Int) > 0) || gtN th own))), ⟨_, _, rfl, rfl⟩, fun H3 e3 => ⟨_, rfl, ?_⟩⟩
    rw [decide_eq_true rfl]
    simp only [Bool.not_true, Bool.false_eq_true, if_false]
    have K3 := K2.ext e3
    refine ⟨.ref x, rfl, .ref LB, rfl, .ref LC, rfl, G2, x, pa, la, LB, LC, n, m + 1, _, _, dr, rfl, K3.g0.sub, K3.fd, hn, K3.lb, K3.db, K3.lc, fun H4 e4 => ⟨true, rfl, ?_⟩⟩
    simp only [Bool.not_true, Bool.false_eq_true, if_false]
    have K4 := K3.ext e4
    have hto4 := e4 _ _ (e3 _ _ hto2)
    clear KA KN K2 K3
    -- a passes to b
    obtain ⟨dxB, fsB, stB, hxB, ffB, _⟩ := K4.fd.ob
    refine ⟨.ref x, rfl, x, dxB, fsB, rfl, hxB, ffB.n1, .int (a : Int), rfl, .int (b : Int), rfl, by show 3 ≤ sizeLine; decide, fun t2 ht2 => ?_⟩
    have eN2 := Ex.new (o := .tup [V.str "pass", .int (a : Int), .int (b : Int)]) ht2
    have KN2 := K4.ext eN2
    have may2 : (Deed.pas a b).may n (SB a b (some (backE own th)) (oE ws) (some th) (oE ws)) (SC a b (some own.2) (oC ws)) := ⟨han, hbn, fun h => by
      rw [newer_self (by rw [(SB_at hab).2.1, (SB_at hab).2.2.2])] at h
      cases h⟩
    refine ⟨G2, x, pa, la, t2, n, m + 1, _, _, .pas a b, us, js, false, rfl, KN2.g0.sub, KN2.fd, hn, by omega, upd_same, may2, KN2.g0.ex _ _ gla, hus.mono KN2.g0.ex, J.ab, fun G5 H5 gm5 hF5 => ?_⟩
    have hst2 : stepB (SB a b (some (backE own th)) (oE ws) (some th) (oE ws)) (SC a b (some own.2) (oC ws)) (.pas a b) = SB a b (some (backE own th)) (oE ws) (some (backE own th)) (oE ws) := by rw [step_ab hab, back_th, overO_self]
    have hfl2 : (!eqSb n (stepB (SB a b (some (backE own th)) (oE ws) (some th) (oE ws)) (SC a b (some own.2) (oC ws)) (.pas a b)) (stepC (SC a b (some own.2) (oC ws)) (.pas a b)) (SB a b (some (backE own th)) (oE ws) (some th) (oE ws)) (SC a b (some own.2) (oC ws))) = (!decide (backE own th = th)) := by
      rw [hst2]
      show (!eqSb n (SB a b (some (backE own th)) (oE ws) (some (backE own th)) (oE ws)) (SC a b (some own.2) (oC ws)) (SB a b (some (backE own th)) (oE ws) (some th) (oE ws)) (SC a b (some own.2) (oC ws))) = _
      by_cases hg : backE own th = th
      · rw [decide_eq_true hg, eqSb_yes]
        rw [hg]
        exact ⟨fun _ _ => rfl, fun _ _ => rfl⟩
      · rw [decide_eq_false hg, eqSb_no]
        intro h
        have z := ((SB_eq han hbn hab).mp h).1.2.2.1
        injection z with z
        exact hg z
    rw [hfl2]
    rw [hst2] at hF5
    have hF5 : FdA CF G5 H5 x pa la n (m + 2) (SB a b (some (backE own th)) (oE ws) (some (backE own th)) (oE ws)) (SC a b (some own.2) (oC ws)) := hF5
    have hto5 := keep KN2 gm5 (eN2 _ _ hto4)
    have K5 := KN2.gm gm5 hF5
    have dn := ev_neT (K := K) (ta := tVar 4) (tb := tVar 5) (σ := [some (.ref x), some (.int (n : Int)), some (.int (a : Int)), some (.int (b : Int)), some (.ref to'), some (.ref tt), some (.ref ol), some (.ref LB), some (.ref LC), none, some (.bl (decide ((ws.length : Int) > 0) || gtN th own))]) (H := H5) (xs := [((backE own th).1 : Int), ((backE own th).2 : Int)]) (ys := [(th.1 : Int), (th.2 : Int)]) (ev_var rfl) hto5 (es_var (ev_var rfl) (vto K5).2.1)
    rw [wd_ent] at dn
    refine dn H5 (Ex.refl _) _ fun H6 e6 => ?_
    refine ⟨.bl (decide (V.bl (!decide (backE own th = th)) = V.bl (!decide (backE own th = th)))), ⟨_, _, rfl, rfl⟩, fun H7 e7 => ⟨_, rfl, ?_⟩⟩
    rw [decide_eq_true rfl]
    simp only [Bool.not_true, Bool.false_eq_true, if_false]
    have K7 := (K5.ext e6).ext e7
    have hto7 := e7 _ _ (e6 _ _ hto5)
    refine q_bk (K := K) (i := 3) (j := 2) (r := b) (k := a) (e := backE own th) K7 (ev_var (i := 4) rfl) hto7 rfl rfl rfl hbn han hn fun H8 K8 tk8 => ?_
    rw [put_ba hab] at K8
    have hto8 := tk8 _ _ hto7
    refine ⟨.ref x, rfl, .ref LB, rfl, .ref LC, rfl, G5, x, pa, la, LB, LC, n, m + 2, _, _, dr, rfl, K8.g0.sub, K8.fd, hn, K8.lb, K8.db, K8.lc, fun H9 e9 => ⟨true, rfl, ?_⟩⟩
    simp only [Bool.not_true, Bool.false_eq_true, if_false]
    have K9 := K8.ext e9
    obtain ⟨dxC, fsC, stC, hxC, ffC, _⟩ := K9.fd.ob
    refine ⟨.ref x, rfl, x, dxC, fsC, rfl, hxC, ffC.n5, G5, x, pa, la, n, m + 2, _, _, us, js, rfl, K9.g0.sub, K9.fd, hn, K9.g0.ex _ _ gla, hus.mono K9.g0.ex, J.ok, J.len, fun u v huv h => ?_, fun HB eB => ?_⟩
    · exfalso
      rcases J.on u v huv with ⟨rfl, rfl⟩ | ⟨rfl, rfl⟩
      · rw [newer_self (by rw [(SB_at hab).2.1, (SB_at hab).2.2.2])] at h
        cases h
      · rw [newer_self (by rw [(SB_at hab).2.2.1, (SB_at hab).1])] at h
        cases h
    · rw [calm_two hab J]
      refine ⟨true, true, rfl, rfl, _, rfl, ?_⟩
      rw [decide_eq_true rfl]
      simp only [Bool.not_true, Bool.false_eq_true, if_false]
      have KB := K9.ext eB
      exact ⟨.ref to', rfl, k G5 HB to' KB.g0 KB.fd (eB _ _ (e9 _ _ hto8))⟩
end
end Wk

set_option Elab.async false
set_option linter.all false
set_option maxRecDepth 100000
set_option maxHeartbeats 4000000
set_option pp.maxSteps 300
namespace Wk
open PySem PySem.Spec PyProof.Rows L2 Evl
def wE (o : Option Ent) (ws : List Nat) : Option Ent := ws.foldl (fun o c => some (numN o, c)) o
def wC (o : Option Nat) (ws : List Nat) : Option Nat := ws.foldl (fun _ c => some c) o
theorem wS_a {a b : Nat} {ob ba bb : Option Ent} {cb : Option Nat} : ∀ (ws : List Nat) (oa : Option Ent) (ca : Option Nat), wS a (SB a b oa ob ba bb, SC a b ca cb) ws = (SB a b (wE oa ws) ob ba bb, SC a b (wC ca ws) cb)
  | [], _, _ => rfl
  | c :: ws, oa, ca => by
    show wS a (stepB (SB a b oa ob ba bb) (SC a b ca cb) (.wri a c), stepC (SC a b ca cb) (.wri a c)) ws = _
    rw [step_wa, stepc_a, wS_a ws]
    rfl
theorem wS_b {a b : Nat} (hab : a ≠ b) {oa ob ba : Option Ent} {ca : Option Nat} : ∀ (ws : List Nat) (bb : Option Ent) (cb : Option Nat), wS b (SB a b oa ob ba bb, SC a b ca cb) ws = (SB a b oa ob ba (wE bb ws), SC a b ca (wC cb ws))
  | [], _, _ => rfl
  | c :: ws, bb, cb => by
    show wS b (stepB (SB a b oa ob ba bb) (SC a b ca cb) (.wri b c), stepC (SC a b ca cb) (.wri b c)) ws = _
    rw [step_wb hab, stepc_b hab, wS_b hab ws]
    rfl
theorem wE_num : ∀ (ws : List Nat) (o : Option Ent), numN (wE o ws) = numN o + ws.length
  | [], o => rfl
  | c :: ws, o => by
    show numN (wE (some (numN o, c)) ws) = _
    rw [wE_num ws, List.length_cons]
    show numN o + 1 + ws.length = _
    omega
theorem wE_app (o : Option Ent) (l r : List Nat) : wE o (l ++ r) = wE (wE o l) r := by unfold wE; rw [List.foldl_append]
theorem wC_app (o : Option Nat) (l r : List Nat) : wC o (l ++ r) = wC (wC o l) r := by unfold wC; rw [List.foldl_append]
theorem wE_last {o : Option Ent} {x : Option Nat} {ws : List Nat} {c : Nat} (h : ws[ws.length - 1]? = some c) : wE o ws = some (numN o + ws.length - 1, c) ∧ wC x ws = some c := by
  have hpos : 0 < ws.length := by have := (List.getElem?_eq_some_iff.mp h).1; omega
  obtain ⟨l, y, rfl⟩ : ∃ l y, ws = l ++ [y] := ⟨ws.dropLast, ws.getLast (by intro z; rw [z] at hpos; exact absurd hpos (by decide)), (List.dropLast_concat_getLast _).symm⟩
  have hy : y = c := by
    rw [List.length_append, show l.length + [y].length - 1 = l.length from rfl, List.getElem?_append_right (Nat.le_refl _), Nat.sub_self] at h
    simpa using h
  subst hy
  constructor
  · rw [wE_app]
    show some (numN (wE o l), y) = _
    rw [wE_num, List.length_append]
    congr 1
  · rw [wC_app]
    rfl
theorem wE_none (ws : List Nat) : wE none ws = oE ws ∧ wC none ws = oC ws := by
  by_cases h : 0 < ws.length
  · obtain ⟨c, h1, h2, h3⟩ := oE_yes h
    obtain ⟨h4, h5⟩ := wE_last (o := none) (x := none) h1
    rw [h2, h3, h4, h5]
    refine ⟨?_, rfl⟩
    congr 2
    show 1 + ws.length - 1 = ws.length
    omega
  · have hz : ws = [] := List.length_eq_zero_iff.mp (by omega)
    subst hz
    exact ⟨rfl, rfl⟩
theorem overO_no (o : Option Ent) (c : Option Nat) : overO o none c = o := rfl
theorem jab_of {n a b : Nat} (hn : n ≤ 8) (ha : a < n) (hb : b < n) (hab : a ≠ b) {prs : List Wy} (h0 : prs ≠ []) (h : ∀ w ∈ prs, w = [(a : Int), (b : Int)] ∨ w = [(b : Int), (a : Int)]) : Jab (joinW prs) n a b := by
  have hpr : ∀ w ∈ prs, PrOk n w := fun w hw => by
    rcases h w hw with e | e
    · exact ⟨a, b, e, ha, hb, hab⟩
    · exact ⟨b, a, e, hb, ha, Ne.symm hab⟩
  have mem : ∀ w, w ∈ joinW prs ↔ w ∈ prs ++ prs.map swW := fun w => asc_mem (PrOk.bd hn (both_ok hpr)) w
  have two : ∀ w ∈ prs ++ prs.map swW, w = [(a : Int), (b : Int)] ∨ w = [(b : Int), (a : Int)] := fun w hw => by
    rcases List.mem_append.mp hw with z | z
    · exact h w z
    · obtain ⟨v, hv, rfl⟩ := List.mem_map.mp z
      rcases h v hv with e | e
      · rw [e]; exact .inr rfl
      · rw [e]; exact .inl rfl
  have both : [(a : Int), (b : Int)] ∈ prs ++ prs.map swW ∧ [(b : Int), (a : Int)] ∈ prs ++ prs.map swW := by
    cases prs with
    | nil => exact absurd rfl h0
    | cons w l =>
      rcases h w List.mem_cons_self with e | e
      · exact ⟨List.mem_append_left _ (by rw [e]; exact List.mem_cons_self), List.mem_append_right _ (by rw [e]; exact List.mem_cons_self)⟩
      · exact ⟨List.mem_append_right _ (by rw [e]; exact List.mem_cons_self), List.mem_append_left _ (by rw [e]; exact List.mem_cons_self)⟩
  refine ⟨join_ok hn hpr, asc_len _, (mem _).mpr both.1, (mem _).mpr both.2, fun u v huv => ?_⟩
  rcases two _ ((mem _).mp huv) with e | e
  · injection e with e1 e2
    injection e2 with e2 _
    exact .inl ⟨by omega, by omega⟩
  · injection e with e1 e2
    injection e2 with e2 _
    exact .inr ⟨by omega, by omega⟩
/-- pool and flood -/
structure Lf (CF : Addr) (G H : Hp) (p q x pa la : Addr) (n m : Nat) (B : Nat → Bk) (cs : Nat → Option Nat) : Prop where
  pm : Pm G H p q
  fd : FdA CF G H x pa la n m B cs
  dp : p ≠ x ∧ p ≠ pa
section
variable {CF : Addr} {G H : Hp} {p q x pa la : Addr} {n m : Nat} {B : Nat → Bk} {cs : Nat → Option Nat}
theorem Lf.off {H' : Hp} (h : Lf CF G H p q x pa la n m B cs) (hP : Pm G H' p q) (o : Of1 p H H') : Lf CF G H' p q x pa la n m B cs := ⟨hP, h.fd.off1 o (Ne.symm h.dp.1) (Ne.symm h.dp.2), h.dp⟩
theorem Lf.ext {H' : Hp} (h : Lf CF G H p q x pa la n m B cs) (e : Ex H H') : Lf CF G H' p q x pa la n m B cs := h.off (h.pm.ext e) (Of1.ex e)
theorem Lf.drawn {H' : Hp} (h : Lf CF G H p q x pa la n m B cs) (d : Pm (Hd1 H p) H' p q) : Lf CF G H' p q x pa la n m B cs := h.off (h.pm.back d) d.off
theorem Lf.gm {G' H' : Hp} {m' : Nat} {B' : Nat → Bk} {cs' : Nat → Option Nat} (h : Lf CF G H p q x pa la n m B cs) (g : Gm x pa G H G' H') (hF : FdA CF G' H' x pa la n m' B' cs') : Lf CF G' H' p q x pa la n m' B' cs' := by
  obtain ⟨a, b, c, p1, p2⟩ := h.pm.at_
  obtain ⟨cl, c1, c2⟩ := h.pm.gq
  exact ⟨⟨g.sub, g.nw p _ h.pm.gp p1 (fun _ z => by cases z), ⟨cl, g.ex _ _ c1, c2⟩, a, b, c, g.off _ _ h.dp.1 h.dp.2 p1, p2⟩, hF, h.dp⟩
theorem Lf.hold {H0 : Hp} {t : Addr} {o : HO} (h : Lf CF G H p q x pa la n m B cs) (h0 : Lf CF G H0 p q x pa la n m B cs) (ht0 : H0 t = none) (ht : H t = some o) : Lf CF (upd G t o) H p q x pa la n m B cs := by
  obtain ⟨dx, fs, st, a1, _⟩ := h0.fd.ob
  obtain ⟨us, a3, a4⟩ := h0.fd.ps
  obtain ⟨_, _, _, p1, _⟩ := h0.pm.at_
  obtain ⟨dx2, fs2, st2, b1, b2, b3⟩ := h.fd.ob
  obtain ⟨cl, c1, c2⟩ := h.pm.gq
  have gt := fresh_back h0.pm.ex ht0
  have e : Ex G (upd G t o) := Ex.new gt
  have ne : ∀ {b u}, H0 b = some u → b ≠ t := fun {b u} hb z => by rw [z, ht0] at hb; cases hb
  refine ⟨⟨fun b u hb => ?_, by rw [upd_ne (ne p1)]; exact h.pm.gp, ⟨cl, e _ _ c1, c2⟩, h.pm.at_⟩, ⟨⟨dx2, fs2, st2, b1, b2, b3.mono e⟩, h.fd.ps, by rw [upd_ne (ne a1)]; exact h.fd.gx, by rw [upd_ne (ne a3)]; exact h.fd.gp, h.fd.ne⟩, h.dp⟩
  by_cases c : b = t
  · rw [c, upd_same] at hb; rw [c, ht]; exact hb
  · rw [upd_ne c] at hb; exact h.pm.ex _ _ hb
theorem Lf.pane {l : Addr} {u : HO} (h : Lf CF G H p q x pa la n m B cs) (hl : G l = some u) : l ≠ pa := fun z => by rw [z, h.fd.gp] at hl; cases hl
end
section
variable {P : Program} {w : World} {K : PySem.W.Frag} {mg : Str → Option Value} {base : Heap} {f : Addr} {fd : FuncData} {CF : Addr}
structure MkF (P : Program) (w : World) (K : PySem.W.Frag) (mg : Str → Option Value) (base : Heap) (CF : Addr) : Prop where
  g : mg "Flood" = some (.ref CF)
  ex : ∃ (fI : Addr) (fd : FuncData), Mk K CF fI ∧ FnOk P w K mg base CX0 7 fI fd nInit (spInit CF) ∧ Binds K fd nInit []
/-! law -/
def spLaw (K : PySem.W.Frag) : Sp := fun vs H Q _ => ∃ (a : Addr) (ns : List Int), vs = [.ref a] ∧ SqL K H a (ns.map V.int) ∧ ns.length ≤ 63 ∧ ∀ H', Q (.bl true) H'
abbrev sLaw : Stmt := top 41
abbrev nLaw : List Str := ["_law_script", "_law_pool_here", "_law_size", "_law_a", "_law_b", "_law_flood", "_law_k", "_law_first", "_law_known", "_law_others", "_law_behind", "_law_later", "_law_own"]
theorem scLaw : FnScope nLaw ["_law_script"] (defScope sLaw) := ⟨rfl, rfl, rfl, by decide +kernel, rfl, by decide +kernel, by decide +kernel⟩
structure Cs (P : Program) (w : World) (K : PySem.W.Frag) (mg : Str → Option Value) (base : Heap) (CF : Addr) : Prop where
  pool : Cal P w K mg base "_law_pool" ["_law_script"] 1 (spPool K)
  draw : Cal P w K mg base "_law_draw" ["_law_pool_here", "_law_limit"] 2 spDraw
  conts : Cal P w K mg base "_law_contents" ["_law_pool_here", "_law_many"] 3 spConts
  writes : Cal P w K mg base "_law_writes" ["_law_flood", "_law_router", "_law_contents_here"] 6 (spWrites CF)
  flag : Cal P w K mg base "_law_flag" ["_law_actual", "_law_due"] 1 spFlag
  back : Cal P w K mg base "_law_back" pBack 7 (spBack CF)
  mkF : MkF P w K mg base CF
  do_ : Msk P w K mg base CF "do" ["self", "deed"] 5 (spDo CF)
theorem ok_law (B0 : Bl mg) (X : FX K CF) (S : Cs P w K mg base CF) (F : FnP K "law" sLaw f fd) : FnOk P w K mg base CX0 9 f fd ["_law_script"] (spLaw K) := by
  obtain ⟨fI, fdI, mk, FI, bI⟩ := S.mkF.ex
  obtain ⟨f1, fd1, me1, F1, b1⟩ := S.do_.ex
  refine F.ok scLaw (fun vs H Q E h => ?_) (fun cdv A outer s H vs Q E hr h => ?_)
  · obtain ⟨a, ns, rfl, _⟩ := h
    rfl
  · obtain ⟨a0, ns, rfl, hS, hns, k⟩ := h
    have r5 : Room 5 _ := hr.mono (by decide)
    refine ⟨_, pss_cons (ps_set (i := 1) scLaw.nd rfl (Or.inr rfl) (pe_cal S.pool hr (by rfl) (pa_cons (pv 0) pa_nil)))
      (pss_cons (ps_set (i := 2) scLaw.nd rfl (Or.inl rfl) (pe_op op_add pe_int (pe_cal S.draw hr (by rfl) (pa_cons (pv 1) (pa_cons pe_int pa_nil)))))
      (pss_cons (ps_set (i := 3) scLaw.nd rfl (Or.inr rfl) (pe_cal S.draw hr (by rfl) (pa_cons (pv 1) (pa_cons (pv 2) pa_nil))))
      (pss_cons (ps_set (i := 4) scLaw.nd rfl (Or.inr rfl) (pe_op op_mod (pe_callTy call_int1 (by rfl) B0.int PyProof.Rows.boot_int (pa_cons (pe_op op_add (pe_op op_add (pv 3) pe_int) (pe_cal S.draw hr (by rfl) (pa_cons (pv 1) (pa_cons (pe_op op_sub (pv 2) pe_int) pa_nil)))) pa_nil)) (pv 2)))
      (pss_cons (ps_set (i := 5) scLaw.nd rfl (Or.inl rfl) (pe_mkAt (CX := CX0) (W := fun _ _ _ _ => False) mk FI hr (by rfl) S.mkF.g bI (fun _ _ _ _ _ _ _ h => h.elim) (pa_cons (pv 2) (pa_cons
          (pe_lc (own := [("_law_k", 6)]) (g := gName 6) (tt := tYes) (te := tOp (rIxL K) (tLst (tCons (tTup (tCons (tVar 3) (tCons (tVar 4) tNil))) (tCons (tTup (tCons (tVar 4) (tCons (tVar 3) tNil))) tNil))) (tCall spDraw [] E0 (tCons (tVar 1) (tCons (tC (.int 2)) tNil)))) rfl scLaw.nd
            (pi_range1 (by rfl) B0.range (pa_cons (pe_op op_add pe_int (pe_cal S.draw hr (by rfl) (pa_cons (pv 1) (pa_cons pe_int pa_nil)))) pa_nil)) (blkOk_by (N := nLaw) (sc := defScope sLaw) (by decide +kernel)) (fun _ _ _ _ _ => pg_name (i := 6) scLaw.nd rfl (Or.inl rfl)) (fun _ _ _ _ _ => pts_nil)
            (fun _ _ _ _ _ => pe_ix (ix_listK (K := K) rfl) (pe_lst (pa_cons (pe_tup (pa_cons (pv 3) (pa_cons (pv 4) pa_nil))) (pa_cons (pe_tup (pa_cons (pv 4) (pa_cons (pv 3) pa_nil))) pa_nil))) (pe_cal S.draw hr (by rfl) (pa_cons (pv 1) (pa_cons pe_int pa_nil))) (fun _ _ => rfl))) pa_nil))))
      (pss_cons (ps_set (i := 7) scLaw.nd rfl (Or.inl rfl) (pe_cal S.conts hr (by rfl) (pa_cons (pv 1) (pa_cons (pe_op op_add pe_int (pe_cal S.draw hr (by rfl) (pa_cons (pv 1) (pa_cons pe_int pa_nil)))) pa_nil))))
      (pss_cons (ps_set (i := 8) scLaw.nd rfl (Or.inl rfl) (pe_op op_add pe_int (pe_cal S.draw hr (by rfl) (pa_cons (pv 1) (pa_cons (pe_callB call_len_seq (by rfl) B0.len PySem.boot_len (pa_cons (pv 7) pa_nil)) pa_nil)))))
      (pss_cons (ps_set (i := 9) scLaw.nd rfl (Or.inl rfl) (pe_cal S.conts hr (by rfl) (pa_cons (pv 1) (pa_cons (pe_cal S.draw hr (by rfl) (pa_cons (pv 1) (pa_cons pe_int pa_nil))) pa_nil))))
      (pss_cons (ps_set (i := 10) scLaw.nd rfl (Or.inl rfl) (pe_cal S.draw hr (by rfl) (pa_cons (pv 1) (pa_cons pe_int pa_nil))))
      (pss_cut (ps_if (PW.pt (pw_and (pt_cmpR op_eq (pv 10) pe_int (nomark _)) (pw_and1 (pt_not (pt_val (pe_cal S.writes hr (by rfl) (pa_cons (pv 5) (pa_cons (pv 4) (pa_cons (pv 9) pa_nil))))))))) (pss_one (ps_ret pe_bl)) pss_nil)
      (pss_cons (ps_if (PW.pt (pw_or (pt_not (pt_val (pe_cal S.writes hr (by rfl) (pa_cons (pv 5) (pa_cons (pv 3) (pa_cons (pe_slice sl_list (pv 7) po_none (po_some (pv 8))) pa_nil)))))) (pw_or1 (pt_cmpR op_notBl (pe_meth (pv 5) X.cl me1 F1 r5 b1 .nil pass0 (pa_cons (pe_tup (pa_cons pe_str (pa_cons (pv 3) (pa_cons (pv 4) pa_nil)))) pa_nil)) pe_bl (nomark _))))) (pss_one (ps_ret pe_bl)) pss_nil)
      (pss_cons (ps_if (pt_not (pt_val (pe_cal S.writes hr (by rfl) (pa_cons (pv 5) (pa_cons (pv 3) (pa_cons (pe_slice sl_list (pv 7) (po_some (pv 8)) po_none) pa_nil)))))) (pss_one (ps_ret pe_bl)) pss_nil)
      (pss_cut (ps_if (PW.pt (pw_and (pt_cmpR op_eq (pv 10) pe_int (nomark _)) (pw_and1 (pt_not (pt_val (pe_cal S.writes hr (by rfl) (pa_cons (pv 5) (pa_cons (pv 4) (pa_cons (pv 9) pa_nil))))))))) (pss_one (ps_ret pe_bl)) pss_nil)
      (pss_cons (ps_if (pt_not (pt_val (pe_cal S.flag hr (by rfl) (pa_cons (pe_meth (pv 5) X.cl me1 F1 r5 b1 .nil pass0 (pa_cons (pe_tup (pa_cons pe_str (pa_cons (pv 3) pa_nil))) pa_nil)) (pa_cons (pe_cmpR op_gt (pe_callB call_len_seq (by rfl) B0.len PySem.boot_len (pa_cons (pv 7) pa_nil)) pe_int (nomark _)) pa_nil))))) (pss_one (ps_ret pe_bl)) pss_nil)
      (pss_cons (ps_set (i := 11) scLaw.nd rfl (Or.inl rfl) (pe_cal S.conts hr (by rfl) (pa_cons (pv 1) (pa_cons (pe_cal S.draw hr (by rfl) (pa_cons (pv 1) (pa_cons pe_int pa_nil))) pa_nil))))
      (pss_cons (ps_if (pt_not (pt_val (pe_cal S.writes hr (by rfl) (pa_cons (pv 5) (pa_cons (pv 3) (pa_cons (pv 11) pa_nil)))))) (pss_one (ps_ret pe_bl)) pss_nil)
      (pss_cons (ps_set (i := 12) scLaw.nd rfl (Or.inl rfl) (pe_tup (pa_cons (pe_op op_add pe_int (pe_callB call_len_seq (by rfl) B0.len PySem.boot_len (pa_cons (pv 11) pa_nil))) (pa_cons (pe_ix ix_list (pe_op op_cat (pv 7) (pv 11)) (pe_un un_neg pe_int) (fun _ _ => rfl)) pa_nil))))
      (pss_cons (ps_set (i := 12) scLaw.nd rfl (Or.inl rfl) (pe_cal S.back hr (by rfl) (pa_cons (pv 5) (pa_cons (pv 2) (pa_cons (pv 3) (pa_cons (pv 4) (pa_cons (pv 12) (pa_cons (pe_tup (pa_cons (pv 8) (pa_cons (pe_ix ix_list (pv 7) (pe_op op_sub (pv 8) pe_int) (fun _ _ => rfl)) pa_nil))) (pa_cons (pv 9) pa_nil)))))))))
      (pss_cons (ps_for (passes_of rfl) rfl (pi_range1 (by rfl) B0.range (pa_cons (pe_cal S.draw hr (by rfl) (pa_cons (pv 1) (pa_cons pe_int pa_nil))) pa_nil)) (pg_name (i := 6) scLaw.nd rfl (Or.inl rfl))
          (pss_cons (ps_if (PW.pt (pw_or (pt_cmp (pc_isN (pv 12))) (pw_or1 (pt_not (pt_val (pe_cal S.flag hr (by rfl) (pa_cons (pe_meth (pv 5) X.cl me1 F1 r5 b1 .nil pass0 (pa_cons (pe_tup (pa_cons pe_str (pa_cons (pv 3) pa_nil))) pa_nil)) (pa_cons (pe_or (pe_cmpR op_gt (pe_ix ix_tup (pv 12) pe_int (fun _ _ => rfl)) pe_int (nomark _)) (pe_one (pe_cmpR op_gt (pe_callB call_len_seq (by rfl) B0.len PySem.boot_len (pa_cons (pv 9) pa_nil)) pe_int (nomark _)))) pa_nil)))))))) (pss_one (ps_ret pe_bl)) pss_nil)
          (pss_one (ps_set (i := 12) scLaw.nd rfl (Or.inl rfl) (pe_cal S.back hr (by rfl) (pa_cons (pv 5) (pa_cons (pv 2) (pa_cons (pv 3) (pa_cons (pv 4) (pa_cons (pe_tup (pa_cons pe_int (pa_cons (pe_ix ix_tup (pv 12) pe_int (fun _ _ => rfl)) pa_nil))) (pa_cons (pv 12) (pa_cons (pv 9) pa_nil))))))))))))
      (pss_one (ps_ret (pe_cmp (pc_notN (pv 12))))))))))))))))))))))), ?_⟩
    refine ⟨.ref a0, rfl, a0, ns, rfl, hS, hns, fun G1 H1 p q _ hP1 => ?_⟩
    refine g_name ?_
    refine ⟨.ref p, rfl, ⟨_, p, q, _, rfl, hP1.hd, by decide, by decide, fun H2 y h2 hy0 hy1 => ⟨2, y, rfl, rfl, ?_⟩⟩⟩
    have hP2 := hP1.back h2
    obtain ⟨n, hn⟩ : ∃ n : Nat, (2 : Int) + y = (n : Int) := ⟨(2 + y).toNat, by omega⟩
    refine g_name ?_
    dsimp only
    rw [hn]
    have hn2 : 2 ≤ n := by omega
    have hn8 : n ≤ 8 := by omega
    refine ⟨.ref p, rfl, .int (n : Int), rfl, ⟨_, p, q, _, rfl, hP2.hd, by omega, by omega, fun H3 ai h3 ha0 ha1 => ?_⟩⟩
    have hP3 := hP2.back h3
    obtain ⟨a, rfl⟩ : ∃ a : Nat, ai = (a : Int) := ⟨ai.toNat, by omega⟩
    have han : a < n := by omega
    refine g_name ?_
    refine ⟨.int (a : Int), rfl, (a : Int), 1, rfl, rfl, .ref p, rfl, .int (n : Int), rfl, (n : Int), 1, rfl, rfl, ⟨_, p, q, _, rfl, hP3.hd, by omega, by omega, fun H4 d h4 hd0 hd1 => ⟨(a : Int) + 1, d, rfl, rfl, .inl ⟨_, rfl, .int (n : Int), rfl, _, (n : Int), rfl, rfl, by omega, ?_⟩⟩⟩⟩
    have hP4 := hP3.back h4
    have mb := modP ((a : Int) + 1 + d) (n : Int) (by omega)
    have nb := next_ne (n := (n : Int)) ha0 ha1 hd0 hd1
    obtain ⟨b, hb⟩ : ∃ b : Nat, ((a : Int) + 1 + d) % (n : Int) = (b : Int) := ⟨(((a : Int) + 1 + d) % (n : Int)).toNat, by omega⟩
    rw [hb] at mb nb
    have hbn : b < n := by omega
    have hab : a ≠ b := by omega
    refine g_name ?_
    dsimp only
    rw [hb]
    change tSeq _ _ _ [some (.ref a0), some (.ref p), some (.int (n : Int)), some (.int (a : Int)), some (.int (b : Int)), none, none, none, none, none, none, none, none] H4
    refine ⟨.int (n : Int), rfl, .ref p, rfl, ⟨_, p, q, _, rfl, hP4.hd, by decide, by decide, fun H5 y5 h5 hy50 hy51 => ⟨1, y5, rfl, rfl, (1 + y5), rfl, by omega, by omega, fun D hD => ?_⟩⟩⟩
    have hP5 := hP4.back h5
    refine lc_range (lo := 0) (n := (1 + y5).toNat) (fun i H' => ∃ (G' : Hp) (us : List V) (prs : List Wy), Pm G' H' p q ∧ G' D = none ∧ D ≠ p ∧ H' D = some (.lst us) ∧ DqA G' us (prs.map wd) ∧ (∀ w ∈ prs, w = [(a : Int), (b : Int)] ∨ w = [(b : Int), (a : Int)]) ∧ prs.length = i) ⟨G1, [], [], hP5.ext (Ex.new hD), fresh_back hP5.ex hD, hP5.np hD, upd_same, .nil, fun w hw => (by cases hw), rfl⟩ ?_ ?_
    · rintro i H6 hi ⟨G6, us, prs, hP6, gD, nD, hD6, hus, hw, hl⟩
      refine ⟨rfl, ?_⟩
      unfold tYes
      dsimp only
      rw [if_pos rfl]
      change tOp _ _ _ [some (.ref a0), some (.ref p), some (.int (n : Int)), some (.int (a : Int)), some (.int (b : Int)), none, some (.int (0 + (i : Int))), none, none, none, none, none, none] H6 _
      refine ⟨.int (a : Int), rfl, .int (b : Int), rfl, by show 2 ≤ sizeLine; decide, fun t1 ht1 => ?_⟩
      have hPa := hP6.new (o := .tup [.int (a : Int), .int (b : Int)]) ht1
      have ea := Ex.new (o := .tup [V.int (a : Int), .int (b : Int)]) (fresh_back hP6.ex ht1)
      have nD1 : D ≠ t1 := ne_of_none hD6 ht1
      refine ⟨.int (b : Int), rfl, .int (a : Int), rfl, by show 2 ≤ sizeLine; decide, fun t2 ht2 => ?_⟩
      have hPb := hPa.new (o := .tup [.int (b : Int), .int (a : Int)]) ht2
      have eb := Ex.new (o := .tup [V.int (b : Int), .int (a : Int)]) (fresh_back hPa.ex ht2)
      have hD7 : (upd H6 t1 (.tup [.int (a : Int), .int (b : Int)])) D = some (.lst us) := by rw [upd_ne nD1]; exact hD6
      have nD2 : D ≠ t2 := ne_of_none hD7 ht2
      have hD8 : (upd (upd H6 t1 (.tup [.int (a : Int), .int (b : Int)])) t2 (.tup [.int (b : Int), .int (a : Int)])) D = some (.lst us) := by rw [upd_ne nD2]; exact hD7
      have g1 : (upd (upd G6 t1 (.tup [.int (a : Int), .int (b : Int)])) t2 (.tup [.int (b : Int), .int (a : Int)])) t1 = some (.tup [.int (a : Int), .int (b : Int)]) := eb _ _ upd_same
      have g2 : (upd (upd G6 t1 (.tup [.int (a : Int), .int (b : Int)])) t2 (.tup [.int (b : Int), .int (a : Int)])) t2 = some (.tup [.int (b : Int), .int (a : Int)]) := upd_same
      have gD2 : (upd (upd G6 t1 (.tup [.int (a : Int), .int (b : Int)])) t2 (.tup [.int (b : Int), .int (a : Int)])) D = none := by rw [upd_ne nD2, upd_ne nD1]; exact gD
      have eab := ea.trans eb
      generalize upd (upd G6 t1 (.tup [.int (a : Int), .int (b : Int)])) t2 (.tup [.int (b : Int), .int (a : Int)]) = G8 at *
      generalize upd (upd H6 t1 (.tup [.int (a : Int), .int (b : Int)])) t2 (.tup [.int (b : Int), .int (a : Int)]) = H8 at *
      refine ⟨by show 2 ≤ sizeLine; decide, fun L hL => ?_⟩
      have eL := Ex.new (o := .lst [V.ref t1, .ref t2]) hL
      have hPL := hPb.ext eL
      refine ⟨.ref p, rfl, ⟨_, p, q, _, rfl, hPL.hd, by decide, by decide, fun H9 j h9 hj0 hj1 => ?_⟩⟩
      have Lp : L ≠ p := hPb.np hL
      have hL9 := h9.off _ _ Lp (show (upd H8 L (.lst [V.ref t1, .ref t2])) L = some (.lst [.ref t1, .ref t2]) from upd_same)
      have hD9 := h9.off _ _ nD (eL _ _ hD8)
      have hP9 := hPL.back h9
      have hul := hus.length
      rw [List.length_map] at hul
      by_cases hj : j = 0
      · subst hj
        refine ⟨L, _, 0, .ref t1, rfl, rfl, sq_of hL9, atI_nat (j := 0) rfl, us, hD9, by rw [sizeLine_eq]; omega, G8, us ++ [.ref t1], prs ++ [[(a : Int), (b : Int)]], hP9.mut gD2 nD, gD2, nD, upd_same, ?_, fun w hw' => ?_, by simp [hl]⟩
        · rw [List.map_append]
          exact (hus.mono eab).append (.cons (wd_of g1) .nil)
        · rcases List.mem_append.mp hw' with c | c
          · exact hw w c
          · exact .inl (List.mem_singleton.mp c)
      · have hj : j = 1 := by omega
        subst hj
        refine ⟨L, _, 1, .ref t2, rfl, rfl, sq_of hL9, atI_nat (j := 1) rfl, us, hD9, by rw [sizeLine_eq]; omega, G8, us ++ [.ref t2], prs ++ [[(b : Int), (a : Int)]], hP9.mut gD2 nD, gD2, nD, upd_same, ?_, fun w hw' => ?_, by simp [hl]⟩
        · rw [List.map_append]
          exact (hus.mono eab).append (.cons (wd_of g2) .nil)
        · rcases List.mem_append.mp hw' with c | c
          · exact hw w c
          · exact .inr (List.mem_singleton.mp c)
    rintro H6 ⟨G6, us0, prs, hP6, gD, nD, hD6, hus0, hw, hpl⟩
    have hP7 := hP6.hold hD6 nD gD
    have eh : Ex G6 (upd G6 D (.lst us0)) := Ex.new gD
    have glk : (upd G6 D (.lst us0)) D = some (.lst us0) := upd_same
    have hus7 := hus0.mono eh
    generalize upd G6 D (.lst us0) = G7 at *
    have J := jab_of hn8 han hbn hab (prs := prs) (fun z => by rw [z] at hpl; simp at hpl; omega) hw
    have hprs : ∀ w ∈ prs, PrOk n w := fun w hww => by
      rcases hw w hww with e | e
      · exact ⟨a, b, e, han, hbn, hab⟩
      · exact ⟨b, a, e, hbn, han, Ne.symm hab⟩
    intro x dx nx ndx nex
    obtain ⟨_, _, _, hpp, _⟩ := hP7.at_
    have xp : p ≠ x := fun z => by rw [← z, hpp] at nx; cases nx
    have nb2 : ∀ b' u, H6 b' = some u → (upd (upd H6 dx (.own x)) x (.ins CF dx [])) b' = some u := fun b' u hb' => by
      rw [upd_ne (ne_of_none hb' nx), upd_ne (ne_of_none hb' ndx)]
      exact hb'
    refine ⟨G7, x, D, dx, n, us0, prs, rfl, upd_same, fun b' o hb' => nb2 _ _ (hP7.ex _ _ hb'), fresh_back hP7.ex nx, glk, hus7, hprs, by omega, by omega, hn8, fun G8 H8 pa la us e78 eS8 off8 nw8 npa hF8 gla husa => ⟨rfl, ?_⟩⟩
    have npa6 : H6 pa = none := by
      cases e : H6 pa with
      | none => rfl
      | some u => rw [nb2 _ _ e] at npa; cases npa
    have ppa : p ≠ pa := fun z => by rw [← z, hpp] at npa6; cases npa6
    have LF : Lf CF G8 H8 p q x pa la n 0 (SB a b none none none none) (SC a b none none) := by
      rw [← SB_none, ← SC_none]
      obtain ⟨cl, c1, c2⟩ := hP7.gq
      obtain ⟨a', b', c', p1, p2⟩ := hP7.at_
      exact ⟨⟨eS8, nw8 p _ hP7.gp (nb2 _ _ p1) (fun _ z => by cases z), ⟨cl, e78 _ _ c1, c2⟩, a', b', c', off8 _ _ xp (nb2 _ _ p1), p2⟩, hF8, xp, ppa⟩
    generalize joinW prs = js at *
    clear hF8 nw8 off8 eS8 e78 npa npa6 nb2 hpp hus7 glk hP7 hP6 hD6 gD hus0 hw hpl hprs hP5 hP4 hP3 hP2 eh
    refine g_name ?_
    dsimp only
    change tSeq _ _ _ [some (.ref a0), some (.ref p), some (.int (n : Int)), some (.int (a : Int)), some (.int (b : Int)), some (.ref x), none, none, none, none, none, none, none] H8
    -- what a writes first
    refine ⟨.ref p, rfl, .ref p, rfl, ⟨_, p, q, _, rfl, LF.pm.hd, by decide, by decide, fun H9 y9 h9 hy90 hy91 => ⟨1, y9, rfl, rfl, ?_⟩⟩⟩
    have LF9 := LF.drawn h9
    refine ⟨Hd1 H9 p, p, q, (1 + y9).toNat, by rw [Int.toNat_of_nonneg (by omega)]; rfl, LF9.pm.hd, by omega, fun HA lf first hPA nlf lfp hlf hfl hfc => ?_⟩
    have LA := (LF9.off (LF9.pm.back hPA) hPA.off).hold LF9 nlf hlf
    have eGA : Ex G8 (upd G8 lf (.lst (nV first))) := Ex.new (fresh_back LF9.pm.ex nlf)
    have glf : (upd G8 lf (.lst (nV first))) lf = some (.lst (nV first)) := upd_same
    have gla := eGA _ _ gla
    have husa := husa.mono eGA
    generalize upd G8 lf (.lst (nV first)) = GA at *
    clear LF LF9 nlf hlf hPA eGA
    refine g_name ?_
    dsimp only
    change tSeq _ _ _ [some (.ref a0), some (.ref p), some (.int (n : Int)), some (.int (a : Int)), some (.int (b : Int)), some (.ref x), none, some (.ref lf), none, none, none, none, none] HA
    refine ⟨.ref p, rfl, .ref lf, rfl, lf, _, rfl, .inl (sq_of (LA.pm.ex _ _ glf)), ⟨_, p, q, _, rfl, LA.pm.hd, by rw [nV_len]; omega, by rw [nV_len]; omega, fun HB yk hk hk0 hk1 => ⟨1, yk, rfl, rfl, ?_⟩⟩⟩
    have LB := LA.drawn hk
    rw [nV_len] at hk1
    obtain ⟨kn, hkn⟩ : ∃ kn : Nat, (1 : Int) + yk = (kn : Int) := ⟨(1 + yk).toNat, by omega⟩
    refine g_name ?_
    dsimp only
    rw [hkn]
    refine ⟨.ref p, rfl, .ref p, rfl, ⟨_, p, q, _, rfl, LB.pm.hd, by decide, by decide, fun HC yo ho ho0 ho1 => ?_⟩⟩
    have LC := LB.drawn ho
    refine ⟨Hd1 HC p, p, q, yo.toNat, by rw [Int.toNat_of_nonneg (by omega)]; rfl, LC.pm.hd, by omega, fun HD lo others hPD nlo lop hlo hol hoc => ?_⟩
    have LD := (LC.off (LC.pm.back hPD) hPD.off).hold LC nlo hlo
    have eGD : Ex GA (upd GA lo (.lst (nV others))) := Ex.new (fresh_back LC.pm.ex nlo)
    have glo : (upd GA lo (.lst (nV others))) lo = some (.lst (nV others)) := upd_same
    have gla := eGD _ _ gla
    have husa := husa.mono eGD
    have glf := eGD _ _ glf
    generalize upd GA lo (.lst (nV others)) = GD at *
    clear LA LB LC nlo hlo hPD eGD
    refine g_name ?_
    dsimp only
    change tSeq _ _ _ [some (.ref a0), some (.ref p), some (.int (n : Int)), some (.int (a : Int)), some (.int (b : Int)), some (.ref x), none, some (.ref lf), some (.int (kn : Int)), some (.ref lo), none, none, none] HD
    refine ⟨.ref p, rfl, ⟨_, p, q, _, rfl, LD.pm.hd, by decide, by decide, fun HE bh hbh hb0 hb1 => ?_⟩⟩
    have LE := LD.drawn hbh
    refine g_name ?_
    dsimp only
    change tCut _ _ _ [some (.ref a0), some (.ref p), some (.int (n : Int)), some (.int (a : Int)), some (.int (b : Int)), some (.ref x), none, some (.ref lf), some (.int (kn : Int)), some (.ref lo), some (.int bh), none, none] HE
    clear LD
    have hfl1 : 1 ≤ first.length := by omega
    have hfl2 : first.length ≤ 40 := by omega
    have hol2 : others.length ≤ 5 := by omega
    have hkn1 : 1 ≤ kn := by omega
    have hkn2 : kn ≤ first.length := by omega
    refine q_cut (M := fun σ' H' => ∃ (G' : Hp) (m : Nat), σ' = [some (.ref a0), some (.ref p), some (.int (n : Int)), some (.int (a : Int)), some (.int (b : Int)), some (.ref x), none, some (.ref lf), some (.int (kn : Int)), some (.ref lo), some (.int bh), none, none] ∧ Ex GD G' ∧ m ≤ 5 ∧ Lf CF G' H' p q x pa la n m (SB a b none none none (if bh = 0 then oE others else none)) (SC a b none (if bh = 0 then oC others else none))) ?_ ?_
    · refine ⟨.int bh, rfl, rfl, _, rfl, ?_⟩
      by_cases hbh0 : bh = 0
      · rw [decide_eq_true (show V.int bh = V.int 0 by rw [hbh0])]
        simp only [if_true]
        refine ⟨.ref x, rfl, .int (b : Int), rfl, .ref lo, rfl, GD, x, pa, la, lo, n, 0, b, _, _, us, js, others, rfl, LE.pm.ex, LE.fd, hn8, hbn, LE.pm.ex _ _ glo, LE.pane glo, by omega, hoc, gla, husa, fun G2 H2 gm2 hF2 => ⟨true, rfl, ?_⟩⟩
        have L2 := LE.gm gm2 hF2
        have e2 := gm2.ex
        simp only [Bool.not_true, Bool.false_eq_true, if_false]
        rw [wS_b hab, (wE_none others).1, (wE_none others).2, Nat.zero_add] at L2
        dsimp only at L2
        refine ⟨G2, _, rfl, e2, by omega, ?_⟩
        rw [if_pos hbh0, if_pos hbh0]
        exact L2
      · rw [decide_eq_false (show ¬ V.int bh = V.int 0 from fun z => hbh0 (by injection z))]
        simp only [Bool.false_eq_true, if_false]
        refine ⟨GD, 0, rfl, Ex.refl _, by omega, ?_⟩
        rw [if_neg hbh0, if_neg hbh0]
        exact LE
    rintro σ' HF ⟨GF, mF, rfl, eF, hmF, LFF⟩
    clear LE
    obtain ⟨us9, hpa9, _⟩ := LFF.fd.ps
    have cutT : cutV (nV first) none (some (kn : Int)) = nV (first.take kn) := by
      rw [cut_to _ kn (by rw [nV_len]; exact hkn2)]
      unfold nV
      rw [List.map_take]
    have cutD : cutV (nV first) (some (kn : Int)) none = nV (first.drop kn) := by
      rw [cut_from _ kn (by rw [nV_len]; exact hkn2)]
      unfold nV
      rw [List.map_drop]
    have sl1 := el_sl (K := K) (te := tVar 7) (tl := tNoPart) (th := tPart (tVar 8)) (σ := [some (.ref a0), some (.ref p), some (.int (n : Int)), some (.int (a : Int)), some (.int (b : Int)), some (.ref x), none, some (.ref lf), some (.int (kn : Int)), some (.ref lo), some (.int bh), none, none]) (H := HF) (lo := none) (hi := some (kn : Int)) (ev_var rfl) eo_none (eo_some (ev_var rfl)) (sq_of (LFF.pm.ex _ _ (eF _ _ glf)))
    rw [cutT] at sl1
    have tkl : (first.take kn).length = kn := by rw [List.length_take]; omega
    refine ⟨.ref x, rfl, .int (a : Int), rfl, sl1 HF (Ex.refl _) _ fun l2 HG hl2 eG2 hl2' => ?_⟩
    have LG := LFF.ext eG2
    refine ⟨GF, x, pa, la, l2, n, mF, a, _, _, us, js, first.take kn, rfl, LG.pm.ex, LG.fd, hn8, han, hl2', Ne.symm (ne_of_none hpa9 hl2), by omega, fun c hc => hfc c (List.mem_of_mem_take hc), eF _ _ gla, husa.mono eF, fun GH HH gmH hFH => ⟨true, rfl, ?_⟩⟩
    have LH := LG.gm gmH hFH
    simp only [Bool.not_true, Bool.false_eq_true, if_false]
    have eH := eF.trans gmH.ex
    obtain ⟨ct, hct⟩ : ∃ ct, (first.take kn)[(first.take kn).length - 1]? = some ct := ⟨_, List.getElem?_eq_getElem (by omega)⟩
    rw [wS_a, (wE_none (first.take kn)).1, (wE_none (first.take kn)).2] at LH
    have hE1 : oE (first.take kn) = some (kn, ct) := by unfold oE; rw [hct, tkl]; rfl
    have hC1 : oC (first.take kn) = some ct := hct
    rw [hE1, hC1, tkl] at LH
    dsimp only at LH
    clear LG LFF
    -- a passes to b
    obtain ⟨dx1, fs1, st1, hx1, ff1, _⟩ := LH.fd.ob
    refine ⟨.ref x, rfl, x, dx1, fs1, rfl, hx1, ff1.n1, .int (a : Int), rfl, .int (b : Int), rfl, by show 3 ≤ sizeLine; decide, fun t1 ht1 => ?_⟩
    have LN := LH.ext (Ex.new (o := .tup [V.str "pass", .int (a : Int), .int (b : Int)]) ht1)
    refine ⟨GH, x, pa, la, t1, n, mF + kn, _, _, .pas a b, us, js, false, rfl, LN.pm.ex, LN.fd, hn8, by omega, upd_same, ⟨han, hbn, fun h => ?_⟩, eH _ _ gla, husa.mono eH, J.ab, fun GI HI gmI hFI => ?_⟩
    · exfalso
      have h : newer (SB a b (some (kn, ct)) none none (if bh = 0 then oE others else none) b) (SB a b (some (kn, ct)) none none (if bh = 0 then oE others else none) a) b = true := h
      unfold newer at h
      rw [(SB_at hab).2.1] at h
      cases h
    have hs1 : stepB (SB a b (some (kn, ct)) none none (if bh = 0 then oE others else none)) (SC a b (some ct) (if bh = 0 then oC others else none)) (.pas a b) = SB a b (some (kn, ct)) none (some (kn, ct)) (if bh = 0 then oE others else none) := by rw [step_ab hab, overO_no, overE_no]
    have hf1 : eqSb n (stepB (SB a b (some (kn, ct)) none none (if bh = 0 then oE others else none)) (SC a b (some ct) (if bh = 0 then oC others else none)) (.pas a b)) (stepC (SC a b (some ct) (if bh = 0 then oC others else none)) (.pas a b)) (SB a b (some (kn, ct)) none none (if bh = 0 then oE others else none)) (SC a b (some ct) (if bh = 0 then oC others else none)) = false := by
      rw [hs1]
      refine eqSb_no fun h => ?_
      have z := ((SB_eq han hbn hab).mp h).1.2.2.1
      cases z
    rw [hf1]
    have LI := LN.gm gmI hFI
    rw [hs1] at LI
    have LI : Lf CF GI HI p q x pa la n (mF + kn + 1) (SB a b (some (kn, ct)) none (some (kn, ct)) (if bh = 0 then oE others else none)) (SC a b (some ct) (if bh = 0 then oC others else none)) := LI
    have eI := eH.trans gmI.ex
    clear LN LH
    refine ⟨true, true, rfl, rfl, _, rfl, ?_⟩
    rw [decide_eq_true rfl]
    simp only [Bool.not_true, Bool.false_eq_true, if_false]
    -- a writes the rest
    obtain ⟨us10, hpa10, _⟩ := LI.fd.ps
    have sl2 := el_sl (K := K) (te := tVar 7) (tl := tPart (tVar 8)) (th := tNoPart) (σ := [some (.ref a0), some (.ref p), some (.int (n : Int)), some (.int (a : Int)), some (.int (b : Int)), some (.ref x), none, some (.ref lf), some (.int (kn : Int)), some (.ref lo), some (.int bh), none, none]) (H := HI) (lo := some (kn : Int)) (hi := none) (ev_var rfl) (eo_some (ev_var rfl)) eo_none (sq_of (LI.pm.ex _ _ (eI _ _ glf)))
    rw [cutD] at sl2
    have dkl : (first.drop kn).length = first.length - kn := by rw [List.length_drop]
    refine ⟨.ref x, rfl, .int (a : Int), rfl, sl2 HI (Ex.refl _) _ fun l3 HJ hl3 eJ0 hl3' => ?_⟩
    have LJ := LI.ext eJ0
    refine ⟨GI, x, pa, la, l3, n, mF + kn + 1, a, _, _, us, js, first.drop kn, rfl, LJ.pm.ex, LJ.fd, hn8, han, hl3', Ne.symm (ne_of_none hpa10 hl3), by omega, fun c hc => hfc c (List.mem_of_mem_drop hc), eI _ _ gla, husa.mono eI, fun GK HK gmK hFK => ⟨true, rfl, ?_⟩⟩
    have LK := LJ.gm gmK hFK
    simp only [Bool.not_true, Bool.false_eq_true, if_false]
    rw [wS_a] at LK
    obtain ⟨cF, hcF⟩ : ∃ cF, first[first.length - 1]? = some cF := ⟨_, List.getElem?_eq_getElem (by omega)⟩
    have hE2 : wE (some (kn, ct)) (first.drop kn) = some (first.length, cF) ∧ wC (some ct) (first.drop kn) = some cF := by
      have z1 := (wE_none (first.take kn)).1
      have z2 := (wE_none (first.take kn)).2
      rw [hE1] at z1
      rw [hC1] at z2
      rw [← z1, ← z2, ← wE_app, ← wC_app, List.take_append_drop, (wE_none first).1, (wE_none first).2]
      unfold oE oC
      rw [hcF]
      exact ⟨rfl, rfl⟩
    rw [hE2.1, hE2.2, dkl] at LK
    dsimp only at LK
    have eK := eI.trans gmK.ex
    clear LI LJ
    refine q_cut (M := fun σ' H' => ∃ (G' : Hp) (m : Nat), σ' = [some (.ref a0), some (.ref p), some (.int (n : Int)), some (.int (a : Int)), some (.int (b : Int)), some (.ref x), none, some (.ref lf), some (.int (kn : Int)), some (.ref lo), some (.int bh), none, none] ∧ Ex GD G' ∧ m ≤ 100 ∧ Lf CF G' H' p q x pa la n m (SB a b (some (first.length, cF)) none (some (kn, ct)) (oE others)) (SC a b (some cF) (oC others))) ?_ ?_
    · refine ⟨.int bh, rfl, rfl, _, rfl, ?_⟩
      by_cases hbh1 : bh = 1
      · have hbh0 : ¬ bh = 0 := by omega
        rw [if_neg hbh0, if_neg hbh0] at LK
        rw [decide_eq_true (show V.int bh = V.int 1 by rw [hbh1])]
        simp only [if_true]
        refine ⟨.ref x, rfl, .int (b : Int), rfl, .ref lo, rfl, GK, x, pa, la, lo, n, _, b, _, _, us, js, others, rfl, LK.pm.ex, LK.fd, hn8, hbn, LK.pm.ex _ _ (eK _ _ glo), LK.pane (eK _ _ glo), by omega, hoc, eK _ _ gla, husa.mono eK, fun G2 H2 gm2 hF2 => ⟨true, rfl, ?_⟩⟩
        have L2 := LK.gm gm2 hF2
        simp only [Bool.not_true, Bool.false_eq_true, if_false]
        rw [wS_b hab, (wE_none others).1, (wE_none others).2] at L2
        dsimp only at L2
        exact ⟨G2, _, rfl, eK.trans gm2.ex, by omega, L2⟩
      · have hbh0 : bh = 0 := by omega
        rw [if_pos hbh0, if_pos hbh0] at LK
        rw [decide_eq_false (show ¬ V.int bh = V.int 1 from fun z => hbh1 (by injection z))]
        simp only [Bool.false_eq_true, if_false]
        exact ⟨GK, _, rfl, eK, by omega, LK⟩
    rintro σ' HL ⟨GL, mL, rfl, eL, hmL, LL⟩
    clear LK sl1 sl2
    -- a starts anew
    obtain ⟨dx2, fs2, st2, hx2, ff2, _⟩ := LL.fd.ob
    refine ⟨.ref x, rfl, x, dx2, fs2, rfl, hx2, ff2.n1, .int (a : Int), rfl, by show 2 ≤ sizeLine; decide, fun t2 ht2 => ?_⟩
    have LM := LL.ext (Ex.new (o := .tup [V.str "restart", .int (a : Int)]) ht2)
    refine ⟨GL, x, pa, la, t2, n, mL, _, _, .rst a, us, js, true, rfl, LM.pm.ex, LM.fd, hn8, by omega, upd_same, han, eL _ _ gla, husa.mono eL, ⟨han, rfl⟩, fun GN HN gmN hFN => ?_⟩
    have hs2 : stepB (SB a b (some (first.length, cF)) none (some (kn, ct)) (oE others)) (SC a b (some cF) (oC others)) (.rst a) = SB a b (some (1, cF)) none (some (kn, ct)) (oE others) := step_r hab
    have hf2 : (!eqSb n (stepB (SB a b (some (first.length, cF)) none (some (kn, ct)) (oE others)) (SC a b (some cF) (oC others)) (.rst a)) (stepC (SC a b (some cF) (oC others)) (.rst a)) (SB a b (some (first.length, cF)) none (some (kn, ct)) (oE others)) (SC a b (some cF) (oC others))) = decide ((first.length : Int) > 1) := by
      rw [hs2]
      by_cases h1 : first.length = 1
      · rw [decide_eq_false (show ¬ (first.length : Int) > 1 by omega), eqSb_yes]
        · rfl
        · rw [h1]
          exact ⟨fun _ _ => rfl, fun _ _ => rfl⟩
      · rw [decide_eq_true (show (first.length : Int) > 1 by omega), eqSb_no]
        · rfl
        · intro h
          have h : eqS n (SB a b (some (1, cF)) none (some (kn, ct)) (oE others)) (SC a b (some cF) (oC others)) (SB a b (some (first.length, cF)) none (some (kn, ct)) (oE others)) (SC a b (some cF) (oC others)) := h
          have z := ((SB_eq han hbn hab).mp h).1.1
          injection z with z
          injection z with z
          omega
    rw [hf2]
    have LN := LM.gm gmN hFN
    rw [hs2] at LN
    have LN : Lf CF GN HN p q x pa la n (mL + 1) (SB a b (some (1, cF)) none (some (kn, ct)) (oE others)) (SC a b (some cF) (oC others)) := LN
    have eN := eL.trans gmN.ex
    clear LM LL
    have lnf : Ev (tOp (rI0 fun i j => .bl (decide (i > j))) (tCB (rLenS K) (tCons (tVar 7) tNil)) (tC (.int 1))) [some (.ref a0), some (.ref p), some (.int (n : Int)), some (.int (a : Int)), some (.int (b : Int)), some (.ref x), none, some (.ref lf), some (.int (kn : Int)), some (.ref lo), some (.int bh), none, none] HN (.bl (decide ((first.length : Int) > 1))) := by
      have z := ev_len (K := K) (σ := [some (.ref a0), some (.ref p), some (.int (n : Int)), some (.int (a : Int)), some (.int (b : Int)), some (.ref x), none, some (.ref lf), some (.int (kn : Int)), some (.ref lo), some (.int bh), none, none]) (H := HN) (ta := tVar 7) (ev_var (v := .ref lf) rfl) (sq_of (LN.pm.ex _ _ (eN _ _ glf)))
      rw [nV_len] at z
      exact ev_op z ev_c rv_I0
    refine lnf HN (Ex.refl _) _ fun HO eO => ?_
    refine ⟨.bl (decide (V.bl (decide ((first.length : Int) > 1)) = V.bl (decide ((first.length : Int) > 1)))), ⟨_, _, rfl, rfl⟩, fun HP eP => ⟨_, rfl, ?_⟩⟩
    rw [decide_eq_true rfl]
    simp only [Bool.not_true, Bool.false_eq_true, if_false]
    have LP := (LN.ext eO).ext eP
    clear LN lnf
    -- what a writes later
    refine ⟨.ref p, rfl, .ref p, rfl, ⟨_, p, q, _, rfl, LP.pm.hd, by decide, by decide, fun HQ yl hl0 hyl0 hyl1 => ?_⟩⟩
    have LQ := LP.drawn hl0
    refine ⟨Hd1 HQ p, p, q, yl.toNat, by rw [Int.toNat_of_nonneg (by omega)]; rfl, LQ.pm.hd, by omega, fun HR ll later hPR nll llp hll hll2 hlc => ?_⟩
    have LR := (LQ.off (LQ.pm.back hPR) hPR.off).hold LQ nll hll
    have eGR : Ex GN (upd GN ll (.lst (nV later))) := Ex.new (fresh_back LQ.pm.ex nll)
    have gll : (upd GN ll (.lst (nV later))) ll = some (.lst (nV later)) := upd_same
    have eR := eN.trans eGR
    generalize upd GN ll (.lst (nV later)) = GR at *
    clear LP LQ nll hll hPR eGR
    refine g_name ?_
    dsimp only
    change tSeq _ _ _ [some (.ref a0), some (.ref p), some (.int (n : Int)), some (.int (a : Int)), some (.int (b : Int)), some (.ref x), none, some (.ref lf), some (.int (kn : Int)), some (.ref lo), some (.int bh), some (.ref ll), none] HR
    refine ⟨.ref x, rfl, .int (a : Int), rfl, .ref ll, rfl, GR, x, pa, la, ll, n, mL + 1, a, _, _, us, js, later, rfl, LR.pm.ex, LR.fd, hn8, han, LR.pm.ex _ _ gll, LR.pane gll, by omega, hlc, eR _ _ gla, husa.mono eR, fun GS HS gmS hFS => ⟨true, rfl, ?_⟩⟩
    have LS := LR.gm gmS hFS
    simp only [Bool.not_true, Bool.false_eq_true, if_false]
    rw [wS_a] at LS
    dsimp only at LS
    have eS := eR.trans gmS.ex
    have gllS := gmS.ex _ _ gll
    obtain ⟨cL, hcL⟩ : ∃ cL, (first ++ later)[(first ++ later).length - 1]? = some cL := ⟨_, List.getElem?_eq_getElem (by rw [List.length_append]; omega)⟩
    have hE3 : wE (some (1, cF)) later = some (1 + later.length, cL) ∧ wC (some cF) later = some cL := by
      by_cases hz : later.length = 0
      · have : later = [] := List.length_eq_zero_iff.mp hz
        subst this
        rw [List.append_nil, hcF] at hcL
        have e : cF = cL := Option.some.inj hcL
        rw [e]
        exact ⟨rfl, rfl⟩
      · have h1 : later[later.length - 1]? = some cL := by
          rw [List.length_append, List.getElem?_append_right (by omega)] at hcL
          rw [← hcL]
          congr 1
          omega
        obtain ⟨h2, h3⟩ := wE_last (o := some (1, cF)) (x := some cF) h1
        rw [h2, h3]
        refine ⟨?_, rfl⟩
        congr 2
        show 2 + later.length - 1 = 1 + later.length
        omega
    rw [hE3.1, hE3.2] at LS
    clear LR
    have hllS := LS.pm.ex _ _ gllS
    have hlfS := LS.pm.ex _ _ (eS _ _ glf)
    refine ⟨.ref ll, rfl, ll, _, rfl, .inl (sq_of hllS), 1, ((nV later).length : Int), rfl, rfl, .ref lf, rfl, .ref ll, rfl, lf, ll, nV first, nV later, rfl, rfl, hlfS, hllS, by rw [nV_len, nV_len, sizeLine_eq]; omega, fun tc htc => ⟨1, rfl, tc, _, -1, .int (cL : Int), rfl, rfl, sq_of upd_same, ?_, by show 2 ≤ sizeLine; decide, fun to hto => ?_⟩⟩
    · have z := nV_last hcL
      unfold nV at z ⊢
      rw [List.map_append] at z
      exact z
    have eT := Ex.trans (Ex.new (o := .lst (nV first ++ nV later)) htc) (Ex.new (o := .tup [V.int (1 + ((nV later).length : Int)), .int (cL : Int)]) hto)
    have hto2 : (upd (upd HS tc (.lst (nV first ++ nV later))) to (.tup [V.int (1 + ((nV later).length : Int)), .int (cL : Int)])) to = some (.tup (entV (1 + later.length, cL))) := by
      rw [upd_same, nV_len]
      show some (L2.HO.tup [V.int (1 + (later.length : Int)), .int (cL : Int)]) = some (L2.HO.tup [V.int ((1 + later.length : Nat) : Int), .int (cL : Int)])
      congr 3
    have LT := LS.ext eT
    generalize upd (upd HS tc (.lst (nV first ++ nV later))) to (.tup [V.int (1 + ((nV later).length : Int)), .int (cL : Int)]) = HT at *
    clear eT hto htc LS hllS hlfS
    refine g_name ?_
    dsimp only
    change tSeq _ _ _ [some (.ref a0), some (.ref p), some (.int (n : Int)), some (.int (a : Int)), some (.int (b : Int)), some (.ref x), none, some (.ref lf), some (.int (kn : Int)), some (.ref lo), some (.int bh), some (.ref ll), some (.ref to)] HT
    have hfk : first[kn - 1]? = some ct := by
      rw [tkl, List.getElem?_take] at hct
      rw [if_pos (by omega)] at hct
      exact hct
    refine ⟨.ref x, rfl, .int (n : Int), rfl, .int (a : Int), rfl, .int (b : Int), rfl, .ref to, rfl, .int (kn : Int), rfl, .ref lf, rfl, .int (kn : Int), rfl, (kn : Int), 1, rfl, rfl, lf, nV first, (kn : Int) - 1, .int (ct : Int), rfl, rfl, sq_of (LT.pm.ex _ _ (eS _ _ glf)), ?_, by show 2 ≤ sizeLine; decide, fun tt htt => ?_⟩
    · rw [show (kn : Int) - 1 = ((kn - 1 : Nat) : Int) by omega]
      exact atI_nat (nV_at hfk)
    have eU := Ex.new (o := .tup [V.int (kn : Int), .int (ct : Int)]) htt
    have LU := LT.ext eU
    refine ⟨.ref lo, rfl, GS, x, pa, la, to, tt, lo, n, _, a, b, (1 + later.length, cL), (kn, ct), others, us, js, rfl, LU.pm.ex, LU.fd, hn8, han, hbn, hab, by omega, eU _ _ hto2, upd_same, LU.pm.ex _ _ (eS _ _ glo), by omega, LU.pane (eS _ _ glo), eS _ _ gla, husa.mono eS, J, fun GV HV tv gmV hFV htv => ?_⟩
    have LV := LU.gm gmV hFV
    have eV := eS.trans gmV.ex
    have hbc := backE_c (1 + later.length, cL) (kn, ct)
    have hb1 : 1 ≤ (backE (1 + later.length, cL) (kn, ct)).1 := by
      unfold backE
      split
      · show 1 ≤ kn + 1; omega
      · show 1 ≤ 1 + later.length; omega
    rw [← hbc] at LV
    generalize backE (1 + later.length, cL) (kn, ct) = ob at *
    clear LT LU
    refine g_name ?_
    dsimp only
    change tSeq _ _ _ [some (.ref a0), some (.ref p), some (.int (n : Int)), some (.int (a : Int)), some (.int (b : Int)), some (.ref x), none, some (.ref lf), some (.int (kn : Int)), some (.ref lo), some (.int bh), some (.ref ll), some (.ref tv)] HV
    have offp : ∀ {G' H' H2 : Hp} {m : Nat} {B : Nat → Bk} {cs : Nat → Option Nat} {t : Addr} {xs : List V}, Lf CF G' H' p q x pa la n m B cs → Of1 p H' H2 → H' t = some (.tup xs) → H2 t = some (.tup xs) := fun {G' H' H2 m B cs t xs} L o ht => o _ _ (fun z => by
      obtain ⟨_, _, _, p1, _⟩ := L.pm.at_
      rw [z, p1] at ht; cases ht) ht
    refine ⟨.ref p, rfl, ⟨_, p, q, _, rfl, LV.pm.hd, by decide, by decide, fun HW yw hw0 hyw0 hyw1 => ⟨yw, rfl, by omega, by omega, ?_⟩⟩⟩
    refine for_range (lo := 0) (n := yw.toNat) (fun i σ' H' => ∃ (G' : Hp) (m : Nat) (o : Ent) (t : Addr) (o6 : Option V), σ' = [some (.ref a0), some (.ref p), some (.int (n : Int)), some (.int (a : Int)), some (.int (b : Int)), some (.ref x), o6, some (.ref lf), some (.int (kn : Int)), some (.ref lo), some (.int bh), some (.ref ll), some (.ref t)] ∧ Ex GD G' ∧ m ≤ 200 + 3 * i ∧ Lf CF G' H' p q x pa la n m (SB a b (some o) (oE others) (some o) (oE others)) (SC a b (some o.2) (oC others)) ∧ H' t = some (.tup (entV o)) ∧ 1 ≤ o.1)
      ⟨GV, _, ob, tv, none, rfl, eV, by omega, LV.drawn hw0, offp LV hw0.off htv, hb1⟩ ?_ ?_
    · rintro i σ' HX hi ⟨GX, mX, o, t, o6, rfl, eX, hmX, LX, hto3, ho1⟩
      refine g_name ?_
      dsimp only
      change tSeq _ _ _ [some (.ref a0), some (.ref p), some (.int (n : Int)), some (.int (a : Int)), some (.int (b : Int)), some (.ref x), some (.int (0 + (i : Int))), some (.ref lf), some (.int (kn : Int)), some (.ref lo), some (.int bh), some (.ref ll), some (.ref t)] HX
      obtain ⟨dx3, fs3, st3, hx3, ff3, _⟩ := LX.fd.ob
      refine ⟨.ref t, rfl, _, rfl, ?_⟩
      rw [decide_eq_false (show ¬ V.ref t = V.non from fun z => by cases z)]
      simp only [Bool.false_eq_true, if_false]
      refine ⟨.ref x, rfl, x, dx3, fs3, rfl, hx3, ff3.n1, .int (a : Int), rfl, by show 2 ≤ sizeLine; decide, fun t3 ht3 => ?_⟩
      have eY := Ex.new (o := .tup [V.str "restart", .int (a : Int)]) ht3
      have LY := LX.ext eY
      refine ⟨GX, x, pa, la, t3, n, mX, _, _, .rst a, us, js, true, rfl, LY.pm.ex, LY.fd, hn8, by omega, upd_same, han, eX _ _ gla, husa.mono eX, ⟨han, rfl⟩, fun GZ HZ gmZ hFZ => ?_⟩
      have hs3 : stepB (SB a b (some o) (oE others) (some o) (oE others)) (SC a b (some o.2) (oC others)) (.rst a) = SB a b (some (1, o.2)) none (some o) (oE others) := step_r hab
      have hf3 : (!eqSb n (stepB (SB a b (some o) (oE others) (some o) (oE others)) (SC a b (some o.2) (oC others)) (.rst a)) (stepC (SC a b (some o.2) (oC others)) (.rst a)) (SB a b (some o) (oE others) (some o) (oE others)) (SC a b (some o.2) (oC others))) = (decide ((o.1 : Int) > 1) || decide ((others.length : Int) > 0)) := by
        rw [hs3]
        by_cases h1 : o.1 = 1
        · rw [decide_eq_false (show ¬ (o.1 : Int) > 1 by omega), Bool.false_or]
          by_cases h2 : 0 < others.length
          · rw [decide_eq_true (show (others.length : Int) > 0 by omega), eqSb_no]
            · rfl
            · intro h
              have h : eqS n (SB a b (some (1, o.2)) none (some o) (oE others)) (SC a b (some o.2) (oC others)) (SB a b (some o) (oE others) (some o) (oE others)) (SC a b (some o.2) (oC others)) := h
              have z := ((SB_eq han hbn hab).mp h).1.2.1
              obtain ⟨c, _, hc2, _⟩ := oE_yes h2
              rw [hc2] at z
              cases z
          · obtain ⟨z1, _⟩ := oE_no (show others.length = 0 by omega)
            rw [decide_eq_false (show ¬ (others.length : Int) > 0 by omega), eqSb_yes]
            · rfl
            · have eo : o = (1, o.2) := Prod.ext h1 rfl
              rw [z1]
              show eqS n (SB a b (some (1, o.2)) none (some o) none) (SC a b (some o.2) (oC others)) (SB a b (some o) none (some o) none) (SC a b (some o.2) (oC others))
              rw [← eo]
              exact ⟨fun _ _ => rfl, fun _ _ => rfl⟩
        · rw [decide_eq_true (show (o.1 : Int) > 1 by omega), Bool.true_or, eqSb_no]
          · rfl
          · intro h
            have h : eqS n (SB a b (some (1, o.2)) none (some o) (oE others)) (SC a b (some o.2) (oC others)) (SB a b (some o) (oE others) (some o) (oE others)) (SC a b (some o.2) (oC others)) := h
            have z := ((SB_eq han hbn hab).mp h).1.1
            injection z with z
            have := congrArg Prod.fst z
            have : 1 = o.1 := this
            omega
      rw [hf3]
      have LZ := LY.gm gmZ hFZ
      rw [hs3] at LZ
      have LZ : Lf CF GZ HZ p q x pa la n (mX + 1) (SB a b (some (1, o.2)) none (some o) (oE others)) (SC a b (some o.2) (oC others)) := LZ
      have eZ := eX.trans gmZ.ex
      have htZ : HZ t = some (.tup (entV o)) := by
        have h1 := eY _ _ hto3
        obtain ⟨dx4, fs4, st4, hx4, _⟩ := LY.fd.ob
        obtain ⟨us4, hpa4, _⟩ := LY.fd.ps
        exact gmZ.off _ _ (fun z => by rw [z, hx4] at h1; cases h1) (fun z => by rw [z, hpa4] at h1; cases h1) h1
      have lno : Ev (tCB (rLenS K) (tCons (tVar 9) tNil)) [some (.ref a0), some (.ref p), some (.int (n : Int)), some (.int (a : Int)), some (.int (b : Int)), some (.ref x), some (.int (0 + (i : Int))), some (.ref lf), some (.int (kn : Int)), some (.ref lo), some (.int bh), some (.ref ll), some (.ref t)] HZ (.int (others.length : Int)) := by
        have z := ev_len (K := K) (σ := [some (.ref a0), some (.ref p), some (.int (n : Int)), some (.int (a : Int)), some (.int (b : Int)), some (.ref x), some (.int (0 + (i : Int))), some (.ref lf), some (.int (kn : Int)), some (.ref lo), some (.int bh), some (.ref ll), some (.ref t)]) (H := HZ) (ta := tVar 9) (ev_var (v := .ref lo) rfl) (sq_of (LZ.pm.ex _ _ (eZ _ _ glo)))
        rw [nV_len] at z
        exact z
      have orv := ev_orV (ev_op (r := rI0 fun i j => .bl (decide (i > j))) (ev_op (r := rIxT K) (σ := [some (.ref a0), some (.ref p), some (.int (n : Int)), some (.int (a : Int)), some (.int (b : Int)), some (.ref x), some (.int (0 + (i : Int))), some (.ref lf), some (.int (kn : Int)), some (.ref lo), some (.int bh), some (.ref ll), some (.ref t)]) (ta := tVar 12) (H := HZ) (ev_var (v := .ref t) rfl) (ev_c (v := .int 0)) (rv_ixT (v := .int (o.1 : Int)) (st_of htZ) rfl)) (ev_c (v := .int 1)) rv_I0) (fun _ => ev_op (r := rI0 fun i j => .bl (decide (i > j))) lno (ev_c (v := .int 0)) rv_I0)
      refine orv HZ (Ex.refl _) _ fun Ha ea => ?_
      refine ⟨.bl (decide (V.bl (decide ((o.1 : Int) > 1) || decide ((others.length : Int) > 0)) = V.bl (decide ((o.1 : Int) > 1) || decide ((others.length : Int) > 0)))), ⟨_, _, rfl, rfl⟩, fun Hb eb => ⟨_, rfl, ?_⟩⟩
      rw [decide_eq_true rfl]
      simp only [Bool.not_true, Bool.false_eq_true, if_false]
      have Lb := (LZ.ext ea).ext eb
      have htb := eb _ _ (ea _ _ htZ)
      refine ⟨.ref x, rfl, .int (n : Int), rfl, .int (a : Int), rfl, .int (b : Int), rfl, .ref t, rfl, t, _, 1, .int (o.2 : Int), rfl, rfl, st_of htb, rfl, by show 2 ≤ sizeLine; decide, fun t5 ht5 => ?_⟩
      have ec := Ex.new (o := .tup [V.int 1, .int (o.2 : Int)]) ht5
      have Lc := Lb.ext ec
      refine ⟨.ref t, rfl, .ref lo, rfl, GZ, x, pa, la, t5, t, lo, n, mX + 1, a, b, (1, o.2), o, others, us, js, rfl, Lc.pm.ex, Lc.fd, hn8, han, hbn, hab, by omega, upd_same, ec _ _ htb, Lc.pm.ex _ _ (eZ _ _ glo), by omega, Lc.pane (eZ _ _ glo), eZ _ _ gla, husa.mono eZ, J, fun Gd Hd td gmd hFd htd => ?_⟩
      have Ld := Lc.gm gmd hFd
      have hbc2 : (backE (1, o.2) o).2 = o.2 := backE_c (1, o.2) o
      refine g_name ?_
      refine ⟨Gd, mX + 1 + 2, backE (1, o.2) o, td, _, rfl, eZ.trans gmd.ex, by omega, ?_, htd, ?_⟩
      · rw [hbc2]
        exact Ld
      · unfold backE
        split
        · show 1 ≤ o.1 + 1; omega
        · exact Nat.le_refl _
    · rintro σ' HX ⟨GX, mX, o, t, o6, rfl, eX, hmX, LX, hto3, ho1⟩
      refine ⟨.ref t, rfl, ?_⟩
      dsimp only
      rw [decide_eq_false (show ¬ V.ref t = V.non from fun z => by cases z)]
      exact k HX
end
end Wk

set_option Elab.async false
set_option linter.all false
set_option maxRecDepth 100000
set_option maxHeartbeats 4000000
namespace Wk
open PySem PySem.Spec PyProof.Rows L2 Evl
/-! the head's facts with more of them -/
abbrev AlX : Type := He.AlD × Bool
def obsX (n : Nat) (fa : List He.Fa) (fn : List He.DefD) (eb : PySem.W.Frag → Bool) (g : Addr → Option Obj) : AlX := (He.obsDG n fa fn g, eb (He.frG g (He.asD g n)))
def hookX (n : Nat) (fa : List He.Fa) (fn : List He.DefD) (eb : PySem.W.Frag → Bool) : PySem.W.Hook where
  α := AlX
  obs := fun s => obsX n fa fn eb s.heap.get?
  val := fun _ => (He.valD fn, true)
  says := fun _ h => ∃ K : PySem.W.Frag, K.In h ∧ He.SaysD fa fn K ∧ eb K = true
  of := fun _ _ e => ⟨_, He.frG_in, congrArg Prod.fst e, congrArg Prod.snd e⟩
  keeps := fun _ _ _ ⟨K, hK, c⟩ k => ⟨K, PySem.W.Frag.In.keeps hK k, c⟩
theorem obsX_eq {n : Nat} {fa : List He.Fa} {fn : List He.DefD} {eb : PySem.W.Frag → Bool} {g : Addr → Option Obj} {s : Shared} (h : ∀ a, g a = s.heap.get? a) : obsX n fa fn eb g = (hookX n fa fn eb).obs s := by
  have e : g = s.heap.get? := funext h
  rw [e]
  rfl
theorem calOf {P : Program} {w : World} {K : PySem.W.Frag} {mg : Str → Option Value} {base : Heap} {x q : Str} {params : Arguments} {body : List Stmt} {scope : Scope} {f : Addr} {fd : FuncData} {ps : List Str} {k : Nat} {sp : Sp} (F : FunD K x q params body scope [] [] f fd) (o : FnOk P w K mg base CX0 k f fd ps sp) (g : mg x = some (.ref f)) (b : Binds K fd ps []) : Cal P w K mg base x ps k sp := ⟨⟨f, fd, o, g, F.kp, b⟩⟩
def dG (x : Str) (i : Nat) : He.DefD := ⟨(x, none), x, x, defArgs (top i), defBody (top i), defScope (top i), [], []⟩
def dM (c m q : Str) (i j : Nat) : He.DefD := ⟨(c, some m), m, q, defArgs (inClass (top i) j), defBody (inClass (top i) j), defScope (inClass (top i) j), [], []⟩
end Wk

set_option Elab.async false
set_option linter.all false
set_option maxRecDepth 100000
set_option maxHeartbeats 0
namespace Wk
open PySem PySem.Spec PyProof.Rows L2 Evl
def fn : List He.DefD := ([dG "is_integer" 8, dG "is_between" 9, dG "is_row" 10, dG "is_tuple_of" 11, dG "is_router" 12, dG "refuse_no_router" 13, dG "is_size" 14, dG "is_router_pair" 15, dG "is_row_of_unlike_pairs" 16, dG "replaced" 17, dG "refuse_wrong_flood" 22, dG "both_ways" 23, dG "is_flood_deed" 24, dG "behind" 25, dG "number_after" 26, dG "with_entry" 27, dG "with_greater" 28, dG "first_book" 29, dG "_law_pool" 31, dG "_law_mixed" 32, dG "_law_draw" 33, dG "_law_flag" 34, dG "_law_is_integer" 35, dG "_law_same_book" 36, dG "_law_same" 37, dG "_law_contents" 38, dG "_law_writes" 39, dG "_law_back" 40, dG "law" 41, dM "Flood" "__init__" "Flood.__init__" 21 0] : List He.DefD) ++ ([dM "Flood" "do" "Flood.do" 21 1, dM "Flood" "book" "Flood.book" 21 2, dM "Flood" "content" "Flood.content" 21 3, dM "Flood" "is_calm" "Flood.is_calm" 21 5, dM "Flood" "_go" "Flood._go" 21 7] : List He.DefD)
def fa : List He.Fa := ([.glo "is_integer", .glo "is_between", .glo "is_row", .glo "is_tuple_of", .glo "is_router", .glo "refuse_no_router", .glo "is_size", .glo "is_router_pair", .glo "is_row_of_unlike_pairs", .glo "replaced", .glo "refuse_wrong_flood", .glo "both_ways", .glo "is_flood_deed", .glo "behind", .glo "number_after", .glo "with_entry", .glo "with_greater", .glo "first_book", .glo "_law_pool", .glo "_law_mixed", .glo "_law_draw", .glo "_law_flag", .glo "_law_is_integer", .glo "_law_same_book", .glo "_law_same", .glo "_law_contents", .glo "_law_writes", .glo "_law_back", .glo "law", .free "isinstance"] : List He.Fa) ++ ([.free "len", .free "tuple", .free "list", .free "int", .free "bool", .free "str", .free "all", .free "set", .free "enumerate", .free "range", .free "abs", .free "min", .free "repr", .free "sorted", .free "dict", .int "MOST_ROUTERS" 8, .int "LEAST_SIZE" 1, .int "MOST_CONTENT" 99, .glo "Flood", .cls "Flood", .mkr "Flood", .meth "Flood" "do", .meth "Flood" "book", .meth "Flood" "content", .meth "Flood" "is_calm", .meth "Flood" "_go", .noat "Flood" "_size", .noat "Flood" "_arrows", .noat "Flood" "_state", .noat "Flood" "many"] : List He.Fa) ++ ([.noat "Flood" "_past"] : List He.Fa)
def eb (K : PySem.W.Frag) : Bool := true
abbrev R : PySem.W.OpenRow := PySem.W.OpenLaw.row PySem.Challenge.rw_wishreels_k67_restart_and_what_comes_bac
abbrev hk : PySem.W.Hook := hookX 4 fa fn eb
def ob (s : PySem.W.SharedT) : AlX := obsX 4 fa fn eb (HandSHeadRun.getT s)
theorem ob_eq (s : PySem.W.SharedT) : ob s = hk.obs s.abs := obsX_eq (HandSHeadRun.getT_eq s)
def loose0 : List Str := ["_wall", "__name__", "WishError", "NoRouter", "BadFlood", "BadDeed", "MOST_ROUTERS", "is_integer", "is_between", "is_row", "is_tuple_of", "is_router", "refuse_no_router", "is_size", "is_router_pair", "is_row_of_unlike_pairs", "replaced", "LEAST_SIZE", "MOST_CONTENT", "Flood", "refuse_wrong_flood", "both_ways", "is_flood_deed", "behind", "number_after", "with_entry", "with_greater", "first_book", "_law_pool", "_law_mixed"]
def loose1 : List Str := ["_law_draw", "_law_flag", "_law_is_integer", "_law_same_book", "_law_same", "_law_contents", "_law_writes", "_law_back"]
def loose : List Str := loose0 ++ loose1
theorem run (w : World) : HandSHeadRun.RunEq R (PySem.W.view R.prog [41]) hk ob 7000 loose w := by
  intro os
  kernel_rfl
end Wk

set_option Elab.async false
set_option linter.all false
set_option maxRecDepth 100000
set_option maxHeartbeats 4000000
namespace Wk
open PySem PySem.Spec PyProof.Rows L2 Evl
theorem facts {P : Program} {w : World} {K : PySem.W.Frag} {h : Heap} {mg : Str → Option Value} {f : Addr} (X : K.In h) (G : h.Ns mainGlobals mg) (hfa : mg ("law" : Str) = some (.ref f)) (c : He.SaysD fa fn K) (cx : eb K = true) :
    ∃ fd : FuncData, (∀ (t : Shared) (u : Value), BindsTo t fd ⟨[u], []⟩ [("_law_script", u)]) ∧ ∀ base : Heap, K.In base → base.Ns mainGlobals mg → FnOk P w K mg base CX0 9 f fd ["_law_script"] (spLaw K) := by
  obtain ⟨d0, F0⟩ := c.def_ 0 (d := dG "is_integer" 8) rfl
  obtain ⟨d1, F1⟩ := c.def_ 1 (d := dG "is_between" 9) rfl
  obtain ⟨d2, F2⟩ := c.def_ 2 (d := dG "is_row" 10) rfl
  obtain ⟨d3, F3⟩ := c.def_ 3 (d := dG "is_tuple_of" 11) rfl
  obtain ⟨d4, F4⟩ := c.def_ 4 (d := dG "is_router" 12) rfl
  obtain ⟨d5, F5⟩ := c.def_ 5 (d := dG "refuse_no_router" 13) rfl
  obtain ⟨d6, F6⟩ := c.def_ 6 (d := dG "is_size" 14) rfl
  obtain ⟨d7, F7⟩ := c.def_ 7 (d := dG "is_router_pair" 15) rfl
  obtain ⟨d8, F8⟩ := c.def_ 8 (d := dG "is_row_of_unlike_pairs" 16) rfl
  obtain ⟨d9, F9⟩ := c.def_ 9 (d := dG "replaced" 17) rfl
  obtain ⟨d10, F10⟩ := c.def_ 10 (d := dG "refuse_wrong_flood" 22) rfl
  obtain ⟨d11, F11⟩ := c.def_ 11 (d := dG "both_ways" 23) rfl
  obtain ⟨d12, F12⟩ := c.def_ 12 (d := dG "is_flood_deed" 24) rfl
  obtain ⟨d13, F13⟩ := c.def_ 13 (d := dG "behind" 25) rfl
  obtain ⟨d14, F14⟩ := c.def_ 14 (d := dG "number_after" 26) rfl
  obtain ⟨d15, F15⟩ := c.def_ 15 (d := dG "with_entry" 27) rfl
  obtain ⟨d16, F16⟩ := c.def_ 16 (d := dG "with_greater" 28) rfl
  obtain ⟨d17, F17⟩ := c.def_ 17 (d := dG "first_book" 29) rfl
  obtain ⟨d18, F18⟩ := c.def_ 18 (d := dG "_law_pool" 31) rfl
  obtain ⟨d19, F19⟩ := c.def_ 19 (d := dG "_law_mixed" 32) rfl
  obtain ⟨d20, F20⟩ := c.def_ 20 (d := dG "_law_draw" 33) rfl
  obtain ⟨d21, F21⟩ := c.def_ 21 (d := dG "_law_flag" 34) rfl
  obtain ⟨d22, F22⟩ := c.def_ 22 (d := dG "_law_is_integer" 35) rfl
  obtain ⟨d23, F23⟩ := c.def_ 23 (d := dG "_law_same_book" 36) rfl
  obtain ⟨d24, F24⟩ := c.def_ 24 (d := dG "_law_same" 37) rfl
  obtain ⟨d25, F25⟩ := c.def_ 25 (d := dG "_law_contents" 38) rfl
  obtain ⟨d26, F26⟩ := c.def_ 26 (d := dG "_law_writes" 39) rfl
  obtain ⟨d27, F27⟩ := c.def_ 27 (d := dG "_law_back" 40) rfl
  obtain ⟨d28, F28⟩ := c.def_ 28 (d := dG "law" 41) rfl
  obtain ⟨d29, F29⟩ := c.def_ 29 (d := dM "Flood" "__init__" "Flood.__init__" 21 0) rfl
  obtain ⟨d30, F30⟩ := c.def_ 30 (d := dM "Flood" "do" "Flood.do" 21 1) rfl
  obtain ⟨d31, F31⟩ := c.def_ 31 (d := dM "Flood" "book" "Flood.book" 21 2) rfl
  obtain ⟨d32, F32⟩ := c.def_ 32 (d := dM "Flood" "content" "Flood.content" 21 3) rfl
  obtain ⟨d33, F33⟩ := c.def_ 33 (d := dM "Flood" "is_calm" "Flood.is_calm" 21 5) rfl
  obtain ⟨d34, F34⟩ := c.def_ 34 (d := dM "Flood" "_go" "Flood._go" 21 7) rfl
  have e := hfa.symm.trans (He.glo_ok X G (c.fact 28 (f := .glo "law") rfl))
  cases e
  have bL := FunD.bindsA (ps := ["_law_script"]) F28 fun _ _ _ _ _ _ us hl => match us, hl with | [_], _ => rfl
  have B : Bl mg := ⟨He.free_ok X G (c.fact 29 rfl), He.free_ok X G (c.fact 30 rfl), He.free_ok X G (c.fact 31 rfl), He.free_ok X G (c.fact 32 rfl), He.free_ok X G (c.fact 33 rfl), He.free_ok X G (c.fact 34 rfl), He.free_ok X G (c.fact 35 rfl), He.free_ok X G (c.fact 36 rfl), He.free_ok X G (c.fact 37 rfl), He.free_ok X G (c.fact 38 rfl), He.free_ok X G (c.fact 39 rfl), He.free_ok X G (c.fact 40 rfl), He.free_ok X G (c.fact 41 rfl), He.free_ok X G (c.fact 42 rfl)⟩
  have hso : mg "sorted" = none := He.free_ok X G (c.fact 43 (f := .free "sorted") rfl)
  have hdi : mg "dict" = none := He.free_ok X G (c.fact 44 (f := .free "dict") rfl)
  obtain ⟨t8, m8⟩ := He.int_ok X G (c.fact 45 (f := .int "MOST_ROUTERS" 8) rfl)
  obtain ⟨t1, m1⟩ := He.int_ok X G (c.fact 46 (f := .int "LEAST_SIZE" 1) rfl)
  obtain ⟨t9, m9⟩ := He.int_ok X G (c.fact 47 (f := .int "MOST_CONTENT" 99) rfl)
  have TX : FX K (He.ga K "Flood") := ⟨He.cls_ok (c.fact 49 (f := .cls "Flood") rfl), He.noat_ok (c.fact 56 (f := .noat "Flood" "_size") rfl), He.noat_ok (c.fact 57 (f := .noat "Flood" "_arrows") rfl), He.noat_ok (c.fact 58 (f := .noat "Flood" "_state") rfl), He.noat_ok (c.fact 59 (f := .noat "Flood" "many") rfl), He.noat_ok (c.fact 60 (f := .noat "Flood" "_past") rfl)⟩
  refine ⟨d28, fun t u => bL t [u] rfl, fun base _ _ => ?_⟩
  have C0 : Cal P w K mg base "is_integer" ["thing"] 1 spIsInt := calOf F0 (ok_isInt B F0) (He.glo_ok X G (c.fact 0 rfl)) (F0.bindsN fun _ _ _ _ _ _ us hl => match us, hl with | [_], _ => rfl)
  have C1 : Cal P w K mg base "is_between" ["least", "most", "thing"] 2 spBetween := calOf F1 (ok_between B C0 F1) (He.glo_ok X G (c.fact 1 rfl)) (F1.bindsN fun _ _ _ _ _ _ us hl => match us, hl with | [_, _, _], _ => rfl)
  have C2 : Cal P w K mg base "is_router" ["size", "thing"] 3 spRouter := calOf F4 (ok_router C1 F4) (He.glo_ok X G (c.fact 4 rfl)) (F4.bindsN fun _ _ _ _ _ _ us hl => match us, hl with | [_, _], _ => rfl)
  have C3 : Cal P w K mg base "is_row" ["thing"] 1 spIsRow := calOf F2 (ok_isRow B F2) (He.glo_ok X G (c.fact 2 rfl)) (F2.bindsN fun _ _ _ _ _ _ us hl => match us, hl with | [_], _ => rfl)
  have C4 : Cal P w K mg base "is_tuple_of" ["many", "thing"] 1 spTupOf := calOf F3 (ok_tupOf B F3) (He.glo_ok X G (c.fact 3 rfl)) (F3.bindsN fun _ _ _ _ _ _ us hl => match us, hl with | [_, _], _ => rfl)
  have C5 : Cal P w K mg base "refuse_no_router" ["size", "thing"] 4 spRNR := calOf F5 (ok_rnr C2 F5) (He.glo_ok X G (c.fact 5 rfl)) (F5.bindsN fun _ _ _ _ _ _ us hl => match us, hl with | [_, _], _ => rfl)
  have C6 : Cal P w K mg base "is_size" ["least", "thing"] 3 spSize := calOf F6 (ok_size m8 C1 F6) (He.glo_ok X G (c.fact 6 rfl)) (F6.bindsN fun _ _ _ _ _ _ us hl => match us, hl with | [_, _], _ => rfl)
  have C7 : Cal P w K mg base "is_router_pair" ["size", "thing"] 4 spRPair := calOf F7 (ok_rPair C4 C2 F7) (He.glo_ok X G (c.fact 7 rfl)) (F7.bindsN fun _ _ _ _ _ _ us hl => match us, hl with | [_, _], _ => rfl)
  have C8 : Cal P w K mg base "is_row_of_unlike_pairs" ["size", "thing"] 5 spUnl := calOf F8 (ok_unl B C3 C7 F8) (He.glo_ok X G (c.fact 8 rfl)) (F8.bindsN fun _ _ _ _ _ _ us hl => match us, hl with | [_, _], _ => rfl)
  have C9 : Cal P w K mg base "refuse_wrong_flood" ["size", "links"] 6 spRWF := calOf F10 (ok_rwf m1 C6 C8 F10) (He.glo_ok X G (c.fact 10 rfl)) (F10.bindsN fun _ _ _ _ _ _ us hl => match us, hl with | [_, _], _ => rfl)
  have CA : Cal P w K mg base "replaced" ["row", "place", "item"] 1 spRepl := calOf F9 (ok_repl F9) (He.glo_ok X G (c.fact 9 rfl)) (F9.bindsN fun _ _ _ _ _ _ us hl => match us, hl with | [_, _, _], _ => rfl)
  have CB : Cal P w K mg base "both_ways" ["links"] 1 spPairs := calOf F11 (ok_both B hso F11) (He.glo_ok X G (c.fact 11 rfl)) (F11.bindsN fun _ _ _ _ _ _ us hl => match us, hl with | [_], _ => rfl)
  have CC : Cal P w K mg base "is_flood_deed" ["size", "arrows", "thing"] 4 spFD := calOf F12 (ok_fd B m9 C0 C1 C2 F12) (He.glo_ok X G (c.fact 12 rfl)) (F12.bindsN fun _ _ _ _ _ _ us hl => match us, hl with | [_, _, _], _ => rfl)
  have CD : Cal P w K mg base "number_after" ["entry"] 1 spNum := calOf F14 (ok_num F14) (He.glo_ok X G (c.fact 14 rfl)) (F14.bindsN fun _ _ _ _ _ _ us hl => match us, hl with | [_], _ => rfl)
  have CE : Cal P w K mg base "with_entry" ["book", "router", "entry"] 1 spWE := calOf F15 (ok_we F15) (He.glo_ok X G (c.fact 15 rfl)) (F15.bindsN fun _ _ _ _ _ _ us hl => match us, hl with | [_, _, _], _ => rfl)
  have CG : Cal P w K mg base "with_greater" ["own", "given", "router", "content"] 2 spWG := calOf F16 (ok_wg B CD F16) (He.glo_ok X G (c.fact 16 rfl)) (F16.bindsN fun _ _ _ _ _ _ us hl => match us, hl with | [_, _, _, _], _ => rfl)
  have CI : Cal P w K mg base "first_book" ["router", "content"] 2 spFB := calOf F17 (ok_fb CD F17) (He.glo_ok X G (c.fact 17 rfl)) (F17.bindsN fun _ _ _ _ _ _ us hl => match us, hl with | [_, _], _ => rfl)
  have CH : Cal P w K mg base "behind" ["state", "deed"] 3 spBeh := calOf F13 (ok_beh CA CD CE CG CI F13) (He.glo_ok X G (c.fact 13 rfl)) (F13.bindsN fun _ _ _ _ _ _ us hl => match us, hl with | [_, _], _ => rfl)
  have MG : Msk P w K mg base (He.ga K "Flood") "_go" ["self", "deed"] 4 (spGo (He.ga K "Flood")) := ⟨⟨_, d34, He.meth_ok (c.fact 55 (f := .meth "Flood" "_go") rfl), ok_go TX CH F34, F34.bindsN fun _ _ _ _ _ _ us hl => match us, hl with | [_, _], _ => rfl⟩⟩
  have MD : Msk P w K mg base (He.ga K "Flood") "do" ["self", "deed"] 5 (spDo (He.ga K "Flood")) := ⟨⟨_, d30, He.meth_ok (c.fact 51 (f := .meth "Flood" "do") rfl), ok_do TX CC MG F30, F30.bindsN fun _ _ _ _ _ _ us hl => match us, hl with | [_, _], _ => rfl⟩⟩
  have MB : Msk P w K mg base (He.ga K "Flood") "book" ["self", "router"] 5 (spBook (He.ga K "Flood")) := ⟨⟨_, d31, He.meth_ok (c.fact 52 (f := .meth "Flood" "book") rfl), ok_book TX hso C5 F31, F31.bindsN fun _ _ _ _ _ _ us hl => match us, hl with | [_, _], _ => rfl⟩⟩
  have MC : Msk P w K mg base (He.ga K "Flood") "content" ["self", "router"] 5 (spCont (He.ga K "Flood")) := ⟨⟨_, d32, He.meth_ok (c.fact 53 (f := .meth "Flood" "content") rfl), ok_cont TX C5 F32, F32.bindsN fun _ _ _ _ _ _ us hl => match us, hl with | [_, _], _ => rfl⟩⟩
  have MM : Msk P w K mg base (He.ga K "Flood") "is_calm" ["self"] 4 (spCalm (He.ga K "Flood")) := ⟨⟨_, d33, He.meth_ok (c.fact 54 (f := .meth "Flood" "is_calm") rfl), ok_calm B TX CH F33, F33.bindsN fun _ _ _ _ _ _ us hl => match us, hl with | [_], _ => rfl⟩⟩
  have MI : MkF P w K mg base (He.ga K "Flood") := ⟨He.glo_ok X G (c.fact 48 (f := .glo "Flood") rfl), ⟨_, d29, He.mkr_ok (c.fact 50 (f := .mkr "Flood") rfl), ok_init TX C9 CB F29, F29.bindsN fun _ _ _ _ _ _ us hl => match us, hl with | [_, _, _], _ => rfl⟩⟩
  have D0 : Cal P w K mg base "_law_pool" ["_law_script"] 1 (spPool K) := calOf F18 (ok_pool B F18) (He.glo_ok X G (c.fact 18 rfl)) (F18.bindsN fun _ _ _ _ _ _ us hl => match us, hl with | [_], _ => rfl)
  have D1 : Cal P w K mg base "_law_mixed" ["_law_cell", "_law_many"] 1 spMixed := calOf F19 (ok_mixed B F19) (He.glo_ok X G (c.fact 19 rfl)) (F19.bindsN fun _ _ _ _ _ _ us hl => match us, hl with | [_, _], _ => rfl)
  have D2 : Cal P w K mg base "_law_draw" ["_law_pool_here", "_law_limit"] 2 spDraw := calOf F20 (ok_draw B D1 F20) (He.glo_ok X G (c.fact 20 rfl)) (F20.bindsN fun _ _ _ _ _ _ us hl => match us, hl with | [_, _], _ => rfl)
  have D3 : Cal P w K mg base "_law_flag" ["_law_actual", "_law_due"] 1 spFlag := calOf F21 (ok_flag B F21) (He.glo_ok X G (c.fact 21 rfl)) (F21.bindsN fun _ _ _ _ _ _ us hl => match us, hl with | [_, _], _ => rfl)
  have D4 : Cal P w K mg base "_law_is_integer" ["_law_thing"] 1 spIsInt := calOf F22 (ok_lInt B F22) (He.glo_ok X G (c.fact 22 rfl)) (F22.bindsN fun _ _ _ _ _ _ us hl => match us, hl with | [_], _ => rfl)
  have D5 : Cal P w K mg base "_law_same_book" ["_law_actual", "_law_due"] 2 spSB := calOf F23 (ok_sb B hso hdi D4 F23) (He.glo_ok X G (c.fact 23 rfl)) (F23.bindsN fun _ _ _ _ _ _ us hl => match us, hl with | [_, _], _ => rfl)
  have D6 : Cal P w K mg base "_law_same" ["_law_flood", "_law_books", "_law_contents_here"] 6 (spSame (He.ga K "Flood")) := calOf F24 (ok_same B TX MB MC D4 D5 F24) (He.glo_ok X G (c.fact 24 rfl)) (F24.bindsN fun _ _ _ _ _ _ us hl => match us, hl with | [_, _, _], _ => rfl)
  have D7 : Cal P w K mg base "_law_contents" ["_law_pool_here", "_law_many"] 3 spConts := calOf F25 (ok_conts B D2 F25) (He.glo_ok X G (c.fact 25 rfl)) (F25.bindsN fun _ _ _ _ _ _ us hl => match us, hl with | [_, _], _ => rfl)
  have D8 : Cal P w K mg base "_law_writes" ["_law_flood", "_law_router", "_law_contents_here"] 6 (spWrites (He.ga K "Flood")) := calOf F26 (ok_writes TX MD F26) (He.glo_ok X G (c.fact 26 rfl)) (F26.bindsN fun _ _ _ _ _ _ us hl => match us, hl with | [_, _, _], _ => rfl)
  have D9 : Cal P w K mg base "_law_back" ["_law_flood", "_law_size", "_law_a", "_law_b", "_law_own", "_law_theirs", "_law_others"] 7 (spBack (He.ga K "Flood")) := calOf F27 (ok_back B TX D6 D3 MD MM F27) (He.glo_ok X G (c.fact 27 rfl)) (F27.bindsN fun _ _ _ _ _ _ us hl => match us, hl with | [_, _, _, _, _, _, _], _ => rfl)
  exact ok_law B TX ⟨D0, D2, D7, D8, D3, D9, MI, MD⟩ F28
end Wk
open PySem PySem.W PySem.Calls PyProof.Rows
set_option maxHeartbeats 0
theorem PySem.Challenge.cw_wishreels_k67_restart_and_what_comes_bac_holds : PySem.Challenge.rw_wishreels_k67_restart_and_what_comes_bac.Holds := by
  w_on; o_law
  refine HandSHeadRun.head_any (r := Wk.R) (q := view Wk.R.prog [41]) (H := Wk.hk) (ob := Wk.ob) (M := 7000) (loose := Wk.loose) (d := HandSHeadRun.topDef Wk.R.prog 41) (kwd := []) Wk.ob_eq
    (by kernel_rfl) (fun s => by kernel_rfl) Wk.run (by kernel_rfl) (by kernel_rfl) (by kernel_rfl) (by rfl) (by first | assumption | decide +kernel) (by decide +kernel) ⟨rfl, rfl, rfl, rfl, rfl, by decide +kernel⟩ ?hw ?hc
  case hw => w_witness2
  case hc =>
    refine L2.walk_ofE (l := PySem.Challenge.rw_wishreels_k67_restart_and_what_comes_bac) (n := 63) (k := 9) (x := "_law_script") (CX := L2.CX0) rfl (by decide) (by kernel_rfl) ⟨rfl, by decide, by decide⟩ ?F (fun _ _ _ _ z => z)
    intro w mg fa h Y G hmg0
    obtain ⟨K, kx, c, cx⟩ := Y
    have hmg : mg ("law" : PySem.Str) = some (.ref fa) := by
      have e : (HandSHeadRun.topDef Wk.R.prog 41).name = ("law" : PySem.Str) := by kernel_rfl
      rw [← e]
      exact hmg0
    obtain ⟨fd, hb, hF⟩ := Wk.facts (P := (PySem.Challenge.rw_wishreels_k67_restart_and_what_comes_bac).prog) (w := w) kx G hmg c cx
    exact ⟨K, fd, Wk.spLaw K, kx, hb, fun H a ns hl _ hS => ⟨a, ns, rfl, hS, hl, fun _ => rfl⟩, hF⟩

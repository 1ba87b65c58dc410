import PyProof.Rows.All
import Wide.All
import OpenK.AllK
import Wide.FinOn
import KE.KStateDown
import HandS.ForMost
import HandS.More
import HandS.WordsExc
import HandS.Defaults
import HandS.Deep
import HandS.IsInst
import HandS.Evl
import HandS.Walk
import HandS.TupSets
import HandS.TupAny
import HandS.Conv
import PyProof.P3In
import HandS.SetFor
import HandS.Strs
import KE.GoesMore
import KE.GoesEnum
import HandS.ExcInit
import HandS.ExcField
import HandS.ExcOwn
import PyProof.NeKinds
import PyProof.EqKinds
import PyProof.FactsAll.subtypes_4
import PyProof.FactsAll.dict_1
import HandS.WideBits
import HandS.Wide
import HandS.DictComp
import HandS.Comp
import HandS.TupLe
import HandS.TupMul
import KE.KEqNest
import HandS.Small
import HandS.TryOnly
import HandS.TryMany
import HandS.ExcIs
import HandS.ExcBuiltin
import KE.KExcIs
import PyProof.Rows.SortShell
import HandS.Ends
import HandS.HeadEnd
import PyProof.ReprRoads
import PyProof.CallFns
import HandS.Style
import HandS.Head0
import HandS.Head1
import HandS.Head2
import HandS.HeadHook1
import HandS.HeadHook2
import PySem.Challenge.RW_wishreels_k73_whole_latest_chains_and_bo
set_option Elab.async false
set_option linter.all false
set_option maxRecDepth 100000
set_option maxHeartbeats 2000000
namespace Wk
open PySem PySem.Spec PyProof.Rows L2 Evl
/-! data that stand in a heap -/
mutual
inductive Dq (G : Hp) : V → PyData → Prop
  | non : Dq G .non .none
  | bl (b : Bool) : Dq G (.bl b) (.bool b)
  | int (i : Int) : Dq G (.int i) (.int i)
  | str (x : Str) : Dq G (.str x) (.str x)
  | lst {a : Addr} {xs : List V} {ds : List PyData} : G a = some (.lst xs) → DqA G xs ds → Dq G (.ref a) (.list ds)
  | tup {a : Addr} {xs : List V} {ds : List PyData} : G a = some (.tup xs) → DqA G xs ds → Dq G (.ref a) (.tuple ds)
  | dic {a : Addr} : G a = some (.dK []) → Dq G (.ref a) (.dict [])
inductive DqA (G : Hp) : List V → List PyData → Prop
  | nil : DqA G [] []
  | cons {v : V} {vs : List V} {d : PyData} {ds : List PyData} : Dq G v d → DqA G vs ds → DqA G (v :: vs) (d :: ds)
end
mutual
theorem Dq.mono {G H : Hp} (e : Ex G H) : ∀ {d : PyData} {v : V}, Dq G v d → Dq H v d
  | .none, _, .non => .non
  | .bool _, _, .bl b => .bl b
  | .int _, _, .int i => .int i
  | .str _, _, .str x => .str x
  | .list _, _, .lst h a => .lst (e _ _ h) (DqA.mono e a)
  | .tuple _, _, .tup h a => .tup (e _ _ h) (DqA.mono e a)
  | .dict _, _, .dic h => .dic (e _ _ h)
theorem DqA.mono {G H : Hp} (e : Ex G H) : ∀ {ds : List PyData} {vs : List V}, DqA G vs ds → DqA H vs ds
  | [], _, .nil => .nil
  | _ :: _, _, .cons h t => .cons (Dq.mono e h) (DqA.mono e t)
end
mutual
theorem Dq.dp {K : PySem.W.Frag} {G : Hp} : ∀ {d : PyData} {v : V}, d.canLay0 = true → Dq G v d → Dp K G v d
  | .none, _, _, .non => .non
  | .bool _, _, _, .bl b => .bl b
  | .int _, _, _, .int i => .int i
  | .str _, _, _, .str x => .str x
  | .list ds, _, c, .lst h a => .lst (sq_of h) (DqA.dp (by simpa [PyData.canLay0] using c) a)
  | .tuple ds, _, c, .tup h a => .tup (st_of h) (DqA.dp (by simpa [PyData.canLay0] using c) a)
  | .dict _, _, c, .dic h => by simp [PyData.canLay0] at c
theorem DqA.dp {K : PySem.W.Frag} {G : Hp} : ∀ {ds : List PyData} {vs : List V}, PyData.canLayAll0 ds = true → DqA G vs ds → DpAll K G vs ds
  | [], _, _, .nil => .nil
  | d :: ds, _, c, .cons h t => by
    have c' : d.canLay0 = true ∧ PyData.canLayAll0 ds = true := by simpa [PyData.canLayAll0] using c
    exact .cons (Dq.dp c'.1 h) (DqA.dp c'.2 t)
end
theorem DqA.length {G : Hp} : ∀ {ds : List PyData} {vs : List V}, DqA G vs ds → vs.length = ds.length
  | [], _, .nil => rfl
  | _ :: _, _, .cons _ t => congrArg Nat.succ t.length
theorem DqA.get {G : Hp} : ∀ {ds : List PyData} {vs : List V} {i : Nat} {v : V}, DqA G vs ds → vs[i]? = some v → ∃ d, ds[i]? = some d ∧ Dq G v d
  | [], _, i, v, .nil, e => by simp at e
  | d :: _, _, 0, v, .cons h t, e => ⟨d, rfl, by simp at e; subst e; exact h⟩
  | _ :: _, _, i + 1, v, .cons h t, e => by
    obtain ⟨d, e1, e2⟩ := t.get (i := i) (by simpa using e)
    exact ⟨d, by simpa using e1, e2⟩
theorem DqA.at {G : Hp} {ds : List PyData} {vs : List V} {i : Nat} {d : PyData} (h : DqA G vs ds) (e : ds[i]? = some d) : ∃ v, vs[i]? = some v ∧ Dq G v d := by
  have hl := h.length
  obtain ⟨hi, _⟩ := List.getElem?_eq_some_iff.mp e
  have hv : vs[i]? = some (vs[i]'(by omega)) := List.getElem?_eq_getElem (by omega)
  obtain ⟨d', e1, e2⟩ := h.get hv
  rw [e] at e1
  cases e1
  exact ⟨_, hv, e2⟩
theorem DqA.append {G : Hp} : ∀ {ds es : List PyData} {vs us : List V}, DqA G vs ds → DqA G us es → DqA G (vs ++ us) (ds ++ es)
  | [], _, _, _, .nil, h => h
  | _ :: _, _, _, _, .cons h t, u => .cons h (t.append u)
theorem DqA.take {G : Hp} : ∀ {ds : List PyData} {vs : List V} (n : Nat), DqA G vs ds → DqA G (vs.take n) (ds.take n)
  | [], _, n, .nil => by simp; exact .nil
  | _ :: _, _, 0, .cons h t => .nil
  | _ :: _, _, n + 1, .cons h t => .cons h (t.take n)
theorem DqA.drop {G : Hp} : ∀ {ds : List PyData} {vs : List V} (n : Nat), DqA G vs ds → DqA G (vs.drop n) (ds.drop n)
  | [], _, n, .nil => by simp; exact .nil
  | _ :: _, _, 0, .cons h t => .cons h t
  | _ :: _, _, n + 1, .cons h t => t.drop n
theorem DqA.ints {G : Hp} : ∀ (ns : List Int), DqA G (ns.map V.int) (ns.map PyData.int)
  | [] => .nil
  | n :: ns => .cons (.int n) (DqA.ints ns)
theorem DqA.int_inv {G : Hp} : ∀ {ns : List Int} {vs : List V}, DqA G vs (ns.map PyData.int) → vs = ns.map V.int
  | [], _, .nil => rfl
  | _ :: _, _, .cons (.int n) t => by
    have := DqA.int_inv t
    subst this
    rfl
/-- the name of a datum's type -/
def tyN : PyData → String
  | .none => "NoneType"
  | .bool _ => "bool"
  | .int _ => "int"
  | .str _ => "str"
  | .list _ => "list"
  | .tuple _ => "tuple"
  | .dict _ => "dict"
theorem Dq.ty {K : PySem.W.Frag} {G : Hp} {d : PyData} {v : V} (h : Dq G v d) : TyX K G v (.type (tyN d)) := by
  cases h with
  | non => exact .base .non
  | bl b => exact .base (.bl b)
  | int i => exact .base (.int i)
  | str x => exact .base (.str x)
  | lst h _ => exact .base (.lst h)
  | tup h _ => exact .base (.tup h)
  | dic h => exact .base (.dK h)
/-- a call's callee: the def that a global name holds -/
structure Cal (P : Program) (w : World) (K : PySem.W.Frag) (mg : Str → Option Value) (base : Heap) (x : Str) (ps : List Str) (k : Nat) (sp : Sp) : Prop where
  ex : ∃ (f : Addr) (fd : FuncData), FnOk P w K mg base CX0 k f fd ps sp ∧ mg x = some (.ref f) ∧ PySem.W.keepIn K (.ref f) = true ∧ Binds K fd ps []
section
variable {X : Cx}
theorem pe_cal {x : Str} {p pos : Pos} {e : Expr} {es : List Expr} {ps : List Str} {k j : Nat} {sp : Sp} {t : TA} (C : Cal X.prog X.w X.K X.mg X.base x ps k sp) (hr : Room j X.A) (hg : Gl X x) (ha : PA X (e :: es) t) (hk : k ≤ j := by decide)
    (hdb : (x == ("__debug__" : Str)) = false := by decide) (he : starEach (e :: es) X.env = (false, eval e X.env) :: starEach es X.env := by rfl) (hpl : (backTo pos (starEach es X.env)).any (·.1) = false := by rfl) :
    PE X (.Call (.Name x p) (e :: es) [] pos) (tCall sp [] E0 t) := by
  obtain ⟨f, fd, F, g, kp, b⟩ := C.ex
  exact pe_call F (hr.mono hk) hg g kp b .nil pass0 ha hdb he hpl
end
section
variable {K : PySem.W.Frag} {σ : L2.St} {H : Hp} {ta tb tc te : TE}
/-- isinstance(x, T), T a built-in type -/
theorem ev_isi {v : V} {d : PyData} {n : String} {b : Bool} (h : Ev ta σ H v) (hd : Dq H v d) (hk : kitB (tyN d) n = some b) : Ev (tCB (rIsi K) (tCons ta (tCons (tC (.ty n)) tNil))) σ H (.bl b) := fun H1 e Q q =>
  h H1 e _ fun H2 e2 => ⟨v, .ty n, .type (tyN d), .type n, b, rfl, .ty n, (hd.mono (e.trans e2)).ty, kit_ty hk, q H2 e2⟩
/-- a <= b <= c of ints -/
theorem ev_chain {i j k : Int} {r r' : R2} {b1 b2 : Bool} (ha : Ev ta σ H (.int i)) (hb : Ev tb σ H (.int j)) (hc : Ev tc σ H (.int k)) (h1 : RV r (.int i) (.int j) H (.bl b1)) (h2 : RV r' (.int j) (.int k) H (.bl b2)) :
    Ev (tChain r r' ta tb tc) σ H (.bl (b1 && b2)) := fun H1 e Q q =>
  ha H1 e _ fun H2 e2 => hb H2 (e.trans e2) _ fun H3 e3 => h1 H3 ((e.trans e2).trans e3) _ fun H4 e4 => ⟨b1, rfl, by
    cases b1 with
    | false => exact q H4 ((e2.trans e3).trans e4)
    | true => exact hc H4 (((e.trans e2).trans e3).trans e4) _ fun H5 e5 => h2 H5 ((((e.trans e2).trans e3).trans e4).trans e5) _ fun H6 e6 => q H6 ((((e2.trans e3).trans e4).trans e5).trans e6)⟩
end
end Wk

set_option Elab.async false
set_option linter.all false
set_option maxRecDepth 100000
set_option maxHeartbeats 4000000
namespace Wk
open PySem PySem.Spec PyProof.Rows L2 Evl
/-! how many are unlike -/
theorem nd_le {α : Type} [DecidableEq α] : ∀ (l D : List α), l.Nodup → (∀ x ∈ l, x ∈ D) → l.length ≤ D.length
  | [], _, _, _ => Nat.zero_le _
  | x :: l, D, hn, hs => by
    have hn' := List.nodup_cons.mp hn
    have hx : x ∈ D := hs x List.mem_cons_self
    have ih := nd_le l (D.erase x) hn'.2 fun y hy => (List.mem_erase_of_ne (fun (e : y = x) => hn'.1 (by rw [← e]; exact hy))).2 (hs y (List.mem_cons_of_mem _ hy))
    have e := List.length_erase_of_mem hx
    have hp : 0 < D.length := List.length_pos_of_mem hx
    simp only [List.length_cons]
    omega
theorem dup_less {α : Type} [DecidableEq α] : ∀ (D : List α), ¬ D.Nodup → ∃ D' : List α, (∀ x ∈ D, x ∈ D') ∧ D'.length < D.length
  | [], h => absurd List.nodup_nil h
  | x :: D, h => by
    by_cases hx : x ∈ D
    · exact ⟨D, fun y hy => (List.mem_cons.mp hy).elim (fun e => by rw [e]; exact hx) id, Nat.lt_succ_self _⟩
    · have hD : ¬ D.Nodup := fun z => h (List.nodup_cons.mpr ⟨hx, z⟩)
      obtain ⟨D', h1, h2⟩ := dup_less D hD
      exact ⟨x :: D', fun y hy => (List.mem_cons.mp hy).elim (fun e => by rw [e]; exact List.mem_cons_self) (fun e => List.mem_cons_of_mem _ (h1 y e)), Nat.succ_lt_succ h2⟩
theorem nd_iff {α : Type} [DecidableEq α] {l D : List α} (hn : l.Nodup) (h : ∀ x, x ∈ l ↔ x ∈ D) : l.length = D.length ↔ D.Nodup := by
  constructor
  · intro e
    apply Classical.byContradiction
    intro hD
    obtain ⟨D', h1, h2⟩ := dup_less D hD
    have := nd_le l D' hn fun x hx => h1 x ((h x).mp hx)
    omega
  · intro hD
    have h1 := nd_le l D hn fun x hx => (h x).mp hx
    have h2 := nd_le D l hD fun x hx => (h x).mpr hx
    omega
section
variable {X : Cx}
/-- len(set(t)), t a tuple of ints -/
def tLenSU (K : PySem.W.Frag) (ta : TE) : TE := fun σ H Q => ta σ H fun x H1 => ∃ (l : Addr) (ns : List Int), x = V.ref l ∧ SqT K H1 l (ns.map V.int) ∧ ns.length < 64 ∧ ∀ n : Nat, (n = ns.length ↔ ns.Nodup) → Q (.int n) H1
theorem pe_lenSU {a : Expr} {ta : TE} {p p2 q pos : Pos} (hc : X.calm = true) (hg : Gl X "len") (hm : X.mg "len" = none) (hg2 : Gl X "set") (hm2 : X.mg "set" = none) (ha : PE X a ta)
    (na : starEach [a] X.env = (false, eval a X.env) :: starEach [] X.env := by rfl) : PE X (.Call (.Name "len" p) [.Call (.Name "set" p2) [a] [] q] [] pos) (tLenSU X.K ta) := by
  refine ⟨fun pins s σ H Q I h => ?_⟩
  refine Call_ (ld_blt I hg hm PySem.boot_len ?_)
  refine PyProof.Rows.callWith_builtin1 (PyProof.Rows.args_cons ?_ rfl) rfl rfl
  refine Call_ (ld_blt I hg2 hm2 PyProof.Rows.boot_set ?_)
  refine PyProof.Rows.callWith_type1 (PyProof.Rows.args_cons (thn (ha.run pins s σ H _ I h) fun v s1 hh => PyProof.Rows.args_nil ?_) na) na rfl
  obtain ⟨x, H1, I1, r1, l, ns, rfl, hq, hlt, q1⟩ := hh
  cases r1
  obtain ⟨its, r, pl, hz⟩ := I1.tuple hq
  refine call_set_tupI (w := X.w) ns (I1.ok.hd hc) pl (by simpa using r.ints) (by unfold scanBound; omega) fun h' tk c hS hc2 hk => ?_
  refine PyProof.Rows.args_nil ?_
  obtain ⟨o, es, ep, t, ho, hex, hd, _, hnd, hiff, _, hf, hn, _⟩ := hS
  have I2 : Inv X pins σ H1 { s1 with heap := h', toks := tk } := I1.kept fun b o e => hk b o e
  refine call_len_set ho hex hd hf (by rw [hn] <;> omega) ⟨.int es.size, H1, I2.tok _, ⟨_, rfl⟩, q1 es.size ?_⟩
  have hl : (es.toList.map keyOf).length = es.size := by simp
  rw [← hl]
  exact nd_iff hnd fun k => by
    have := hiff k
    simp only [decide_eq_true_eq] at this
    exact this.symm
end
/-- the set that set() lays -/
abbrev sO (w : World) : Obj := { cls := .type "set", dict := none, data := .set #[] 0 (.fresh 0 0 (!w.params.followText "set-order")) }
section
variable {P : Program} {w : World} {A : Around} {E : Value → Shared → Prop} {s : Shared}
/-- set(t), t a tuple of tuples of ints -/
theorem set_of_tup2 {l : Addr} {its : Array Value} (ks : List (Addr × List Int)) {Q : Value → Shared → Prop} (nh : A.handled = none) (tl : s.heap.IsTuple l its) (eq : its.toList = ks.map fun p => Value.ref p.1)
    (ki : ∀ p ∈ ks, IsT P w s.heap p.2 p.1) (few : ks.length < 64) (un : A.units + 3 < cLine)
    (fin : ∀ (h' : Heap) (tk : Nat) L es ep t, SetTR P w h' s.heap.objs.size L es ep t → Got ks ks.length L → (∀ b o, s.heap.get? b = some o → h'.get? b = some o) → Q (.ref s.heap.objs.size) { s with heap := h', toks := tk }) :
    wpAny (model P w) A (call (.type "set") [.ref l]) Q E s := by
  have size : its.size = ks.length := by have q := congrArg List.length eq; simpa using q
  obtain ⟨c, rest, mro⟩ := F.called_set.mro
  have made := F.called_set.made; have sub := F.called_set.sub
  refine wpAny_call (codeAny_of_tree (show wpAny _ _ (callAny (.type "set") _) _ _ _ from ?_))
  refine wpAny_pure ⟨Code.quiet_builtin _ (by decide +kernel), codeAny_builtin F.entry_type_call (by
    rw [Around.under_plain (weight_type_call_type "set" [.ref l] []) rfl]
    have nt := F.called_set.notType; have cc := F.called_set.canCreate; have tc := F.typeCall_set_1 (.ref l)
    repeat (any_goals (first | assumption | wp_step))
    refine codeAny_mono (code_set_led1 (.ref l) (E := E) (Q₁ := fun ob s1 => ob = .ref s.heap.objs.size ∧ s1 = { s with heap := s.heap.push (sO w) }) ⟨rfl, rfl⟩) fun r s1 hr => ?_
    cases r with
    | error e => exact hr
    | ok fl =>
      cases fl with
      | ret ob =>
        obtain ⟨rfl, rfl⟩ := hr
        have hS : (s.heap.push (sO w)).get? s.heap.objs.size = some (sO w) := Heap.get?_push_size _ rfl
        have hT : Shared.TypeIs { s with heap := s.heap.push (sO w) } (.ref s.heap.objs.size) "set" := ⟨_, hS, rfl⟩
        have li := F.called_set.init.lookup; have bi := F.called_set.init.bind (.ref s.heap.objs.size)
        repeat (any_goals (first | assumption | wp_step))
        refine codeAny_mono (codeAny_call_builtin (R := wants (fun r s2 => r = .none ∧ ∃ h' tk L es ep t, s2 = { s with heap := h', toks := tk } ∧ SetTR P w h' s.heap.objs.size L es ep t ∧ Got ks ks.length L ∧ (∀ b o, s.heap.get? b = some o → h'.get? b = some o)) E)
          F.called_set.init.plain F.entry_set_init (check_set_init_1 hT ?_)) fun r2 s2 hr2 => ?_
        · obtain ⟨⟨oc, od, dt, sl⟩, ol, cl, n, dl⟩ := tl
          simp only at cl dl; subst cl; subst dl
          have ol1 : (s.heap.push (sO w)).get? l = some { cls := .type "tuple", dict := od, data := .seq its n, slots := sl } := Heap.get?_push_of_some _ ol
          have b1 := F.sub_tuple_set; have b2 := F.sub_tuple_frozenset
          have b3 : (Value.type "tuple" == Value.type "dict") = false := by decide
          have tl1 : (s.heap.push (sO w)).IsTuple l its := ⟨_, ol1, rfl, n, rfl⟩
          unfold Builtin.«set.__init__» noKeywords Builtin.Frozenset.updateFrom
          generalize hPI : pyIter = PI
          wp_walk
          subst hPI
          refine wpAny_pyIter_tuple tl1 (wpAny_bind (wpAny_runValue ?_))
          have lt : l < s.heap.objs.size := Heap.lt_size ol
          have nh3 : A.in1.in1.in1.handled = none := by simp [nh]
          have ne1 : l ≠ (s.heap.push (sO w)).objs.size := by rw [Heap.size_push]; exact Nat.ne_of_lt (Nat.lt_succ_of_lt lt)
          have nin : s.heap.objs.size ∉ [(s.heap.push (sO w)).objs.size, l] := by
            rw [Heap.size_push]
            intro z
            rcases List.mem_cons.mp z with z | z
            · exact absurd z (Nat.ne_of_lt (Nat.lt_succ_self _))
            · exact absurd (List.mem_singleton.mp z) (Nat.ne_of_gt lt)
          have val : ∀ (i : Nat) (v : Value), its[i]? = some v → ∃ p, ks[i]? = some p ∧ v = .ref p.1 := fun i v hv => by
            have q : its.toList[i]? = some v := (Array.getElem?_toList ..).trans hv
            rw [eq, List.getElem?_map] at q
            cases hq : ks[i]? with
            | none => rw [hq] at q; cases q
            | some p => rw [hq] at q; exact ⟨p, rfl, (Option.some.inj q).symm⟩
          have out : ∀ b, s.heap.objs.size ≤ b → s.heap.get? b = none := fun b hb => by
            cases q : s.heap.get? b with
            | none => rfl
            | some o => exact absurd (Nat.lt_of_lt_of_le (Heap.lt_size q) hb) (Nat.lt_irrefl _)
          refine set_update_tups ((Walks.tuple nh3 _ l ne1 its).toS) s.heap.objs.size nin ks size few val s.heap ki (out _ (Nat.le_refl _)) (fun b hb => out b (by rw [List.mem_singleton.mp hb, Heap.size_push]; exact Nat.le_succ _)) un (its.size - 0) 0 _ (by omega) (Nat.zero_le _)
            ⟨⟨_, Heap.get?_push_size _ rfl, rfl, rfl⟩, (tl1.push _)⟩ (fun b o e => Heap.get?_push_of_some _ (Heap.get?_push_of_some _ e)) ⟨[], #[], 0, _, setTR_fresh (Heap.get?_push_of_some _ hS), Got.zero ks⟩ ?_
          intro s' L es ep t hm hS' g' kp
          obtain ⟨h', g2, d', tk', os'⟩ := s'
          have eg : g2 = s.gens := hm.gens
          have ed : d' = s.drawn := hm.drawn
          have eo : os' = s.os := hm.os
          subst eg; subst ed; subst eo
          show wpAny _ _ _ _ _ _
          refine wpAny_pure (show wpAny _ _ (ret Value.none) _ _ _ from ?_)
          rw [size] at g'
          exact wpAny_pure ⟨rfl, h', tk', L, es, ep, t, rfl, hS', g', kp⟩
        · cases r2 with
          | error e => exact hr2
          | ok fl2 =>
            cases fl2 with
            | ret r =>
              obtain ⟨rfl, h', tk, L, es, ep, t, rfl, hS', g', k'⟩ := hr2
              repeat (any_goals (first | assumption | wp_step))
              exact fin _ _ _ _ _ _ hS' g' k'
            | _ => exact hr2.elim
      | _ => exact hr.elim)⟩
end
section
variable {X : Cx}
/-- len(set(t)), t a tuple of tuples of ints -/
def tLenSUU (K : PySem.W.Frag) (ta : TE) : TE := fun σ H Q => ta σ H fun x H1 => ∃ (l : Addr) (ks : List (Addr × List Int)), x = V.ref l ∧ SqT K H1 l (ks.map fun p => V.ref p.1) ∧ (∀ p ∈ ks, SqT K H1 p.1 (p.2.map V.int)) ∧ ks.length < 64 ∧
  ∀ n : Nat, (n = ks.length ↔ (ks.map (·.2)).Nodup) → Q (.int n) H1
theorem pe_lenSUU {a : Expr} {ta : TE} {p p2 q pos : Pos} (hc : X.calm = true) (hu : X.A.units + 64 < cLine) (hg : Gl X "len") (hm : X.mg "len" = none) (hg2 : Gl X "set") (hm2 : X.mg "set" = none) (ha : PE X a ta)
    (na : starEach [a] X.env = (false, eval a X.env) :: starEach [] X.env := by rfl) : PE X (.Call (.Name "len" p) [.Call (.Name "set" p2) [a] [] q] [] pos) (tLenSUU X.K ta) := by
  refine ⟨fun pins s σ H Q I h => Call_ (ld_blt I hg hm PySem.boot_len (PyProof.Rows.callWith_builtin1 (PyProof.Rows.args_cons (Call_ (ld_blt I hg2 hm2 PyProof.Rows.boot_set ?_)) rfl) rfl rfl))⟩
  refine PyProof.Rows.callWith_type1 (PyProof.Rows.args_cons (thn (ha.run pins s σ H _ I h) fun v s1 hh => PyProof.Rows.args_nil ?_) na) na rfl
  obtain ⟨x, H1, I1, r1, l, ks, rfl, hq, hk, few, q1⟩ := hh
  cases r1
  obtain ⟨its, r, pl, hz⟩ := I1.tuple hq
  refine set_of_tup2 (P := X.prog) (w := X.w) ks (I1.ok.hd hc) pl (by simpa using refs_of_vals r) (fun p hp => I1.isT (hk p hp)) few (by omega) fun h' tk L es ep t R g k => PyProof.Rows.args_nil ?_
  have I2 : Inv X pins σ H1 { s1 with heap := h', toks := tk } := I1.kept fun b o e => k b o e
  have hes : es.size = L.length := R.size (s := { s1 with heap := h', toks := tk })
  have hf := R.fits (s := { s1 with heap := h', toks := tk })
  obtain ⟨o, ho, hex, hd⟩ := R.ob
  refine call_len_set (s := { s1 with heap := h', toks := tk }) ho hex hd hf (by have := R.few; omega) ⟨.int es.size, H1, I2.tok _, ⟨_, rfl⟩, q1 es.size ?_⟩
  have e1 : (L.map (·.2)).length = es.size := by simp [hes]
  have e2 : (ks.map (·.2)).length = ks.length := by simp
  rw [← e1, ← e2]
  refine nd_iff R.nd fun k => ⟨fun z => ?_, fun z => ?_⟩
  · obtain ⟨p, hp, rfl⟩ := List.mem_map.mp z
    exact List.mem_map.mpr ⟨p, List.mem_of_mem_take (g.sub p hp), rfl⟩
  · obtain ⟨p, hp, rfl⟩ := List.mem_map.mp z
    exact g.all p (by rw [List.take_length]; exact hp)
end
end Wk

set_option Elab.async false
set_option linter.all false
set_option maxRecDepth 100000
set_option maxHeartbeats 4000000
namespace Wk
open PySem PySem.Spec PyProof.Rows L2 Evl
/-- the walk of a tuple's iterator under an enumerate -/
abbrev itO (l : Addr) : Obj := { cls := .type "tuple_iterator", data := .fields #[.ref l, .int 0 0] }
abbrev enO (it : Addr) : Obj := { cls := .type "enumerate", data := .fields #[.none, .bool false, .ref it, rawInt 0, .none, .none] }
theorem enumNewT (l : Addr) (its : Array Value) (n : Nat) (od : Option Addr) (sl : Array (Option Value)) :
    Meets (Builtin.«enumerate.__new__» ⟨[.type "enumerate", .ref l], []⟩) (fun _ R s => s.heap.get? l = some { cls := .type "tuple", dict := od, data := .seq its n, slots := sl } ∧
      R (.ok (.ret (.ref (s.heap.push (itO l)).objs.size))) { s with heap := (s.heap.push (itO l)).push (enO s.heap.objs.size) }) :=
  .of_wp fun prog w A R s h => by
    obtain ⟨hp, g, d, tk, os⟩ := s; obtain ⟨hl, h⟩ := h
    have su := sub_enumerate
    have tl : Heap.IsTuple (Shared.heap ⟨hp, g, d, tk, os⟩) l its := ⟨_, hl, rfl, n, rfl⟩
    wp_walk using wpAny_loadPart' hl
    refine wpAny_stack_any fun st => wpAny_pure ?_
    split
    · rename_i c _ _ _ _ _
      cases (c == Value.type "enumerate") <;> (wp_walk using wpAny_loadPart' hl, wpAny_pyIter_tuple tl; exact ⟨_, rfl, h⟩)
    · wp_walk using wpAny_loadPart' hl, wpAny_pyIter_tuple tl
      exact ⟨_, rfl, h⟩
section
variable {prog : Program} {w : World} {A : Around} {E : Value → Shared → Prop} {s : Shared}
theorem enumT_call {l : Addr} {its : Array Value} {Q : Value → Shared → Prop} (tl : s.heap.IsTuple l its)
    (h : ∀ h', IsEnum h' (s.heap.objs.size + 1) s.heap.objs.size 0 .none → h'.IsTupleIter s.heap.objs.size l 0 → h'.objs.size = s.heap.objs.size + 2 → (∀ b o, s.heap.get? b = some o → h'.get? b = some o) → Q (.ref (s.heap.objs.size + 1)) { s with heap := h' }) :
    wpAny (model prog w) A (call (.type "enumerate") [.ref l]) Q E s := by
  obtain ⟨⟨c, od, dt, sl⟩, hl, hc, n, hd⟩ := tl
  replace hc : c = .type "tuple" := hc
  replace hd : dt = .seq its n := hd
  subst hc hd
  refine callType_new F.called_enumerate (by decide) (F.typeCall_enumerate_1 _) (F.newCall_enumerate_1 _) (fun ob => F.args_object_init_2 ob _) F.entry_enumerate_new (enumNewT l its n od sl) ⟨hl, ?_⟩
  have hz : (s.heap.push (itO l)).objs.size = s.heap.objs.size + 1 := Heap.size_push ..
  show _ ∧ _
  rw [hz]
  have he : IsEnum ((s.heap.push (itO l)).push (enO s.heap.objs.size)) (s.heap.objs.size + 1) s.heap.objs.size 0 .none := by
    have q := Heap.get?_push_size (s.heap.push (itO l)) (o := enO s.heap.objs.size) rfl
    rw [hz] at q; exact q
  exact ⟨⟨_, he, rfl⟩, h _ he ⟨_, Heap.get?_push_of_some _ (Heap.get?_push_size _ rfl), rfl, rfl⟩ (by rw [Heap.size_push, hz]) fun b o x => Heap.get?_push_of_some _ (Heap.get?_push_of_some _ x)⟩
end
/-- the tuple at a, each item in a new pair with its place -/
def IteT (K : PySem.W.Frag) (a : Addr) : It :=
  ⟨fun i H => ∃ (xs : List V) (x : V), SqT K H a xs ∧ xs[i]? = some x, fun i H v H' => ∃ T x, v = .ref T ∧ H T = none ∧ H' = upd H T (.tup [.int (i : Nat), x]) ∧ ∀ xs, SqT K H a xs → xs[i]? = some x, fun i H => ∃ xs : List V, SqT K H a xs ∧ xs.length = i⟩
theorem turn_enumT {P : Program} {w : World} {K : PySem.W.Frag} {elts : List Expr} {kk : Nat} {tpos : Pos} (a e it : Addr) :
    Turn P w K (.Tuple elts kk tpos) (IteT K a) [e, it] e (fun i h => (∃ old, IsEnum h e it ((i : Nat) : Int) old) ∧ h.IsTupleIter it a i ∧ e ≠ it) where
  mem := List.mem_cons_self
  obj := fun i h st b hb => by
    obtain ⟨⟨old, he⟩, ⟨o, ho, hc, hd⟩, _⟩ := st
    rcases List.mem_cons.mp hb with z | z
    · rw [z]; exact ⟨_, he, fun v q => nomatch q⟩
    · rw [List.mem_singleton.mp z]; exact ⟨o, ho, fun v q => by rw [hd] at q; cases q⟩
  keep := fun i h h' st k => by
    obtain ⟨⟨old, he⟩, ⟨o, ho, r⟩, hne⟩ := st
    exact ⟨⟨old, k e (by simp) _ he⟩, ⟨o, k it (by simp) o ho, r⟩, hne⟩
  item := by
    intro X hP hw hK hc i pins s σ H E I hf st hg
    subst hP hw hK
    obtain ⟨⟨old, he⟩, hit, hne⟩ := st
    obtain ⟨xs, x, hq, hx⟩ := hg
    obtain ⟨its, rv, p, hz⟩ := I.tuple hq
    obtain ⟨u, hu, ru⟩ := rv.get hx
    have el : e < s.heap.objs.size := Heap.lt_size he
    have il : it < s.heap.objs.size := by obtain ⟨_, q, _⟩ := hit; exact Heap.lt_size q
    have nai : a ≠ it := fun z => by
      obtain ⟨o, ho, oc, _⟩ := p
      obtain ⟨o2, ho2, oc2, _⟩ := hit
      rw [z, ho2] at ho
      cases ho
      rw [oc2] at oc
      injection oc with q
      exact absurd q (by decide)
    have nae : e ≠ a := fun z => by
      obtain ⟨o, ho, oc, _⟩ := p
      have he2 := he
      unfold IsEnum at he2
      rw [z, ho] at he2
      cases he2
      injection oc with q
      exact absurd q (by decide)
    have hi : i < its.toArray.size := by
      have q := (List.getElem?_eq_some_iff.mp hu).1
      simpa using q
    refine wpAny_pyNext_enum_itemD (Draws.tuple (by simpa using I.ok.hd hc) it a nai its.toArray) he ⟨hit, p⟩ hi hne (by simp [hne, nae]) fun y h' tk hy ho hst hT hsz hk => ?_
    have ey : y = u := by
      have q : its.toArray[i]? = some y := hy
      rw [List.getElem?_toArray, hu] at q
      exact (Option.some.inj q).symm
    subst ey
    refine ⟨_, rfl, wpAny_letOwnedTupleGo_enum (s := { s with heap := h', toks := tk + 1 }) ho fun h2 he' sb => ?_⟩
    have hT2 : h2.get? s.heap.objs.size = some { cls := .type "tuple", data := .seq #[.int i tk, y] } := (sb.2 _ (Nat.ne_of_gt el)).trans hT
    have nw : ObjOk X.prog X.w (upd H s.heap.objs.size (.tup [.int (i : Nat), x])) h2 s.heap.objs.size (.tup [.int (i : Nat), x]) := ⟨by show 2 ≤ sizeLine; decide, [.int i tk, y], .cons ⟨_, rfl⟩ (.cons ru .nil), ⟨_, hT2, rfl, _, rfl⟩⟩
    have I1 : Inv X pins σ (upd H s.heap.objs.size (.tup [.int (i : Nat), x])) { s with heap := h2, toks := tk + 1 } := I.turnedNew (ch := [e, it]) (fun b ob hb q => by
        have b1 : b ≠ e := fun z => hb (by simp [z])
        have b2 : b ≠ it := fun z => hb (by simp [z])
        exact (sb.2 b b1).trans (hk b ob b1 b2 q)) hf (Nat.le_refl _) nw
    refine ⟨.ref s.heap.objs.size, _, I1, rfl, ⟨_, x, rfl, I.hok.fresh (Nat.le_refl _), rfl, fun ys hy => by rw [I.tuple_inj hy hq]; exact hx⟩, ⟨⟨y, ?_⟩, ?_, hne⟩, fun b hb => ?_⟩
    · rw [show ((i + 1 : Nat) : Int) = (i : Int) + 1 by omega]; exact he'
    · obtain ⟨o, ho2, r2⟩ := hst.1
      exact ⟨o, (sb.2 it (Ne.symm hne)).trans ho2, r2⟩
    · have hb2 : b < s.heap.objs.size := by
        rcases List.mem_cons.mp hb with z | z
        · rw [z]; exact el
        · rw [List.mem_singleton.mp z]; exact il
      rw [upd_ne (Nat.ne_of_lt hb2)]
      exact (hf b hb).1
  done := by
    intro X hP hw hK hc i pins s σ H E I hf st hg
    subst hP hw hK
    obtain ⟨⟨old, he⟩, hit, hne⟩ := st
    obtain ⟨xs, hq, hx⟩ := hg
    obtain ⟨its, rv, p, hz⟩ := I.tuple hq
    obtain ⟨f0, f1, f2, f3, f4, f5⟩ := hf it (by simp)
    have hl := rv.length
    have ei : i = its.toArray.size := by simp; omega
    have nai : a ≠ it := fun z => by
      obtain ⟨o, ho, oc, _⟩ := p
      obtain ⟨o2, ho2, oc2, _⟩ := hit
      rw [z, ho2] at ho
      cases ho
      rw [oc2] at oc
      injection oc with q
      exact absurd q (by decide)
    subst ei
    exact wpAny_pyNext_enum_endD (Draws.tuple (by simpa using I.ok.hd hc) it a nai its.toArray) he ⟨hit, p⟩ fun h' eb => ⟨rfl, I.turned (t' := s.toks) (fun b o hb q => eb b o hb q) f0 f1 f3 f4 f5⟩
  self := fun A i s Q E st h => let ⟨⟨_, he⟩, _⟩ := st; wpAny_pyIter_enum he h

def iEnumT (K : PySem.W.Frag) (ta : TA) : TI := fun σ H R => ta σ H fun vs H1 => ∃ a xs, vs = [.ref a] ∧ SqT K H1 a xs ∧ R (IteT K a) H1
/-- for i, x in enumerate(t), t a tuple -/
theorem pi_enumT {X : Cx} {e : Expr} {ta : TA} {p pos tpos : Pos} {elts : List Expr} {kk : Nat} (hg : Gl X "enumerate") (hm : X.mg "enumerate" = none) (ha : PA X [e] ta) (hs : starEach [e] X.env = [(false, eval e X.env)] := by rfl) :
    PI X (.Tuple elts kk tpos) (.Call (.Name "enumerate" p) [e] [] pos) (iEnumT X.K ta) := by
  refine ⟨fun pins s σ H R I h => Call_ (ld_blt I hg hm boot_enumerate (PyProof.Rows.callWith_type1 (thn (ha.run pos pins s σ H _ I h) fun us s1 hh => ?_) hs rfl))⟩
  obtain ⟨vs, H1, I1, r1, a, xs, rfl, hq, q⟩ := hh
  cases r1 with
  | cons r rr =>
    cases rr
    cases r
    obtain ⟨its, rv, pt, hz⟩ := I1.tuple hq
    refine enumT_call pt fun h' he hit hsz hk => wpAny_pyIter_enum he ?_
    refine ⟨s1.heap.objs.size + 1, [s1.heap.objs.size + 1, s1.heap.objs.size], _, _, H1, rfl, I1.kept (t' := s1.toks) hk, turn_enumT a (s1.heap.objs.size + 1) s1.heap.objs.size, ⟨⟨.none, he⟩, hit, Nat.succ_ne_self _⟩, fun b hb => ?_, q⟩
    have hle : s1.heap.objs.size ≤ b := by
      rcases List.mem_cons.mp hb with z | z
      · rw [z]; exact Nat.le_add_right _ _
      · rw [List.mem_singleton.mp z]; exact Nat.le_refl _
    exact I1.fpOk hle (I1.hok.fresh hle)
theorem walk_enumT {K : PySem.W.Frag} {a : Addr} {xs : List V} : Walk (IteT K a) xs.length (fun H => SqT K H a xs) (YPair (fun i => some (.int (i : Nat))) (fun i => xs[i]?)) := by
  refine ⟨fun i _ hi q => ⟨xs, xs[i], q, by simp [hi]⟩, fun _ q => ⟨xs, q, rfl⟩, fun i H v H' _ q y => ?_⟩
  obtain ⟨T, x, h1, h2, h3, h4⟩ := y
  exact ⟨T, .int (i : Nat), x, h1, h2, h3, rfl, h4 xs q⟩
section
variable {K : PySem.W.Frag} {σ : L2.St} {H : Hp} {t : TT} {te : TE}
/-- [e for x in t], t a tuple -/
theorem el_lcT {a : Addr} {xs : List V} {tl : TE} {j : Nat} {vs : List Nat} (f : Nat → Bool) (v : Nat → V) (h : Ev tl σ H (.ref a)) (hx : SqT K H a xs) (hz : xs.length ≤ 40000) (hw : ∀ x, wipe ((wipe σ vs).set j (some x)) vs = wipe σ vs)
    (ht : ∀ (i : Nat) (x : V) H1, Ex H H1 → xs[i]? = some x → EvT t ((wipe σ vs).set j (some x)) H1 (f i)) (he : ∀ (i : Nat) (x : V) H1, Ex H H1 → xs[i]? = some x → f i = true → Ev te ((wipe σ vs).set j (some x)) H1 (v i)) :
    EvL (tLc (iTup K tl) (gName j) t te vs) σ H (given xs.length f v) := fun H0 e Q q => h H0 e _ fun H1 e1 => ⟨a, rfl, ⟨xs, ex_t (e.trans e1) hx⟩, fun Dl hD =>
  lc_it (walk_tup (K := K) (a := a) (xs := xs)) (Cw H1 f v Dl) ⟨hD, Ex.new hD, upd_same⟩ (fun i H' _ p => ex_t ((e.trans e1).trans p.2.1) hx)
    (fun i x H' H2 hi p y => by
      obtain ⟨rfl, hxi⟩ := y
      exact ⟨hw x, cw_turn p (by omega) (ht i x H1 (e.trans e1) hxi) (fun hf => he i x H1 (e.trans e1) hxi hf)⟩)
    (fun H' p => q Dl H' (fresh_back e1 p.1) (e1.trans p.2.1) p.2.2)⟩
theorem given_all (n : Nat) (v : Nat → V) : given n (fun _ => true) v = (List.range n).map v := by
  unfold given
  rw [List.filter_eq_self.mpr (fun _ _ => rfl)]
theorem et_yes : EvT tYes σ H true := fun H1 _ _ q => q H1 (Ex.refl H1)
/-- all([..]) of flags -/
theorem ev_allL {bs : List Bool} {ta : TE} (h : EvL ta σ H (bs.map V.bl)) : Ev (tCB (rAll K) (tCons ta tNil)) σ H (.bl (bs.all id)) := fun H1 e Q q =>
  h H1 e _ fun p H2 _ e2 hp => ⟨p, bs, rfl, sq_of hp, q H2 e2⟩
/-- all([test(x) for x in t]) -/
theorem ev_allT {a : Addr} {xs : List V} {tl : TE} {j : Nat} {vs : List Nat} (g : Nat → Bool) (h : Ev tl σ H (.ref a)) (hx : SqT K H a xs) (hz : xs.length ≤ 40000) (hw : ∀ x, wipe ((wipe σ vs).set j (some x)) vs = wipe σ vs)
    (he : ∀ (i : Nat) (x : V) H1, Ex H H1 → xs[i]? = some x → Ev te ((wipe σ vs).set j (some x)) H1 (.bl (g i))) :
    Ev (tCB (rAll K) (tCons (tLc (iTup K tl) (gName j) tYes te vs) tNil)) σ H (.bl (((List.range xs.length).map g).all id)) :=
  ev_allL (by
    have q := el_lcT (K := K) (te := te) (fun _ => true) (fun i => .bl (g i)) h hx hz hw (fun _ _ _ _ _ => et_yes) fun i x H1 e hxi _ => he i x H1 e hxi
    rw [given_all] at q
    rw [List.map_map]
    exact q)
end
section
variable {K : PySem.W.Frag} {σ : L2.St} {H : Hp} {ta tb te : TE}
theorem ev_lenT {p : Addr} {xs : List V} (ha : Ev ta σ H (.ref p)) (h : SqT K H p xs) : Ev (tCB (rLenS K) (tCons ta tNil)) σ H (.int (xs.length : Int)) := fun H1 e Q q =>
  ha H1 e _ fun H2 e2 => ⟨p, xs, rfl, Or.inr (ex_t (e.trans e2) h), q H2 e2⟩
theorem all_get {α : Type} (ds : List α) (p : α → Bool) : ((List.range ds.length).map (fun i => ((ds[i]?).map p).getD false)).all id = ds.all p := by
  have e : (List.range ds.length).map (fun i => ((ds[i]?).map p).getD false) = ds.map p := by
    apply List.ext_getElem
    · simp
    · intro i h1 h2
      have hi : i < ds.length := by simpa using h1
      simp [hi]
  rw [e, List.all_map]
  rfl
end
section
variable {K : PySem.W.Frag} {σ : L2.St} {H : Hp} {g : TG} {tu tz : TS} {D : Ends}
/-- for i, x in enumerate(t) -/
theorem s_forEn {a : Addr} {xs : List V} {tl : TE} (h : Ev tl σ H (.ref a)) (hx : SqT K H a xs) (Pv : Nat → L2.St → Hp → Prop) (h0 : ∀ H1, Ex H H1 → Pv 0 σ H1) (hl : ∀ i σ' H', i ≤ xs.length → Pv i σ' H' → SqT K H' a xs)
    (hs : ∀ i y T σ' H', xs[i]? = some y → Pv i σ' H' → H' T = none → g (.ref T) σ' (upd H' T (.tup [.int (i : Nat), y])) fun σ2 H2 => tu { D with nx := Pv (i + 1), ct := Pv (i + 1), bk := D.nx } σ2 H2) (hd : ∀ σ' H', Pv xs.length σ' H' → D.nx σ' H') : tFor (iEnumT K (tCons tl tNil)) g tu D σ H :=
  h H (Ex.refl H) _ fun H1 e => ⟨a, xs, rfl, ex_t e hx, for_it (walk_enumT (K := K) (a := a) (xs := xs)) Pv (h0 H1 e) hl (fun i x σ' H2 H3 hi p y => by
    obtain ⟨T, u, y, rfl, hT, rfl, hu, hy⟩ := y
    cases hu
    exact hs i y T σ' H2 hy p hT) hd⟩
theorem q_forEn {a : Addr} {xs : List V} {tl : TE} (h : Ev tl σ H (.ref a)) (hx : SqT K H a xs) (Pv : Nat → L2.St → Hp → Prop) (h0 : ∀ H1, Ex H H1 → Pv 0 σ H1) (hl : ∀ i σ' H', i ≤ xs.length → Pv i σ' H' → SqT K H' a xs)
    (hs : ∀ i y T σ' H', xs[i]? = some y → Pv i σ' H' → H' T = none → g (.ref T) σ' (upd H' T (.tup [.int (i : Nat), y])) fun σ2 H2 => tu { D with nx := Pv (i + 1), ct := Pv (i + 1), bk := tz D } σ2 H2) (hd : ∀ σ' H', Pv xs.length σ' H' → tz D σ' H') : tSeq (tFor (iEnumT K (tCons tl tNil)) g tu) tz D σ H :=
  s_forEn (D := { D with nx := tz D }) h hx Pv h0 hl hs hd
end
end Wk

set_option Elab.async false
set_option linter.all false
set_option maxRecDepth 100000
set_option maxHeartbeats 2000000
namespace Wk
open PySem PySem.Spec PyProof.Rows L2 Evl
def top (i : Nat) : Stmt := PySem.Challenge.pw_wishreels_k73_whole_latest_chains_and_bo.main.body.getD i (.Pass ⟨0, 0, 0, 0⟩)
abbrev FnP (K : PySem.W.Frag) (x : Str) (st : Stmt) (f : Addr) (fd : FuncData) : Prop := FunD K x x (defArgs st) (defBody st) (defScope st) [] [] f fd
/-- names that are the built-in ones -/
structure Bl (mg : Str → Option Value) : Prop where
  isi : mg "isinstance" = none
  len : mg "len" = none
  tuple : mg "tuple" = none
  list : mg "list" = none
  int : mg "int" = none
  bool : mg "bool" = none
  str : mg "str" = none
  all : mg "all" = none
  set : mg "set" = none
  enum : mg "enumerate" = none
  range : mg "range" = none
  abs : mg "abs" = none
  min : mg "min" = none
  repr : mg "repr" = none
/-- a pure promise: a plain value, what stood stays -/
def spP (R : Hp → List V → V → Prop) : Sp := fun vs H Q _ => ∃ z, R H vs z ∧ ∀ H', Ex H H' → Q z H'
theorem spP_v {R : Hp → List V → V → Prop} {vs : List V} {H : Hp} {z : V} (h : ∀ H1, Ex H H1 → R H1 vs z) : SpV (spP R) vs H z := fun H1 e Q q E => ⟨z, h H1 e, fun H2 e2 => q H2 e2⟩
def isI : PyData → Bool
  | .int _ => true
  | _ => false
/-- what a datum is worth as an int -/
def valI : PyData → Int
  | .int i => i
  | _ => 0
theorem isI_eq {d : PyData} (h : isI d = true) : d = .int (valI d) := by
  cases d <;> first | rfl | (simp [isI] at h)
theorem kit_int (d : PyData) : ∃ b, kitB (tyN d) "int" = some b ∧ (b = true → ∃ c, kitB (tyN d) "bool" = some c ∧ (b && !c) = isI d) ∧ (b = false → isI d = false) := by
  cases d with
  | none => exact ⟨false, show kitB "NoneType" "int" = some false by decide +kernel, fun h => (by cases h), fun _ => rfl⟩
  | bool b => exact ⟨true, show kitB "bool" "int" = some true by decide +kernel, fun _ => ⟨true, show kitB "bool" "bool" = some true by decide +kernel, rfl⟩, fun h => (by cases h)⟩
  | int i => exact ⟨true, show kitB "int" "int" = some true by decide +kernel, fun _ => ⟨false, show kitB "int" "bool" = some false by decide +kernel, rfl⟩, fun h => (by cases h)⟩
  | str z => exact ⟨false, show kitB "str" "int" = some false by decide +kernel, fun h => (by cases h), fun _ => rfl⟩
  | list ds => exact ⟨false, show kitB "list" "int" = some false by decide +kernel, fun h => (by cases h), fun _ => rfl⟩
  | tuple ds => exact ⟨false, show kitB "tuple" "int" = some false by decide +kernel, fun h => (by cases h), fun _ => rfl⟩
  | dict ds => exact ⟨false, show kitB "dict" "int" = some false by decide +kernel, fun h => (by cases h), fun _ => rfl⟩
def isTu : PyData → Bool
  | .tuple _ => true
  | _ => false
def itemsT : PyData → List PyData
  | .tuple ds => ds
  | _ => []
theorem kit_tup (d : PyData) : kitB (tyN d) "tuple" = some (isTu d) := by
  cases d with
  | none => exact show kitB "NoneType" "tuple" = some false by decide +kernel
  | bool b => exact show kitB "bool" "tuple" = some false by decide +kernel
  | int i => exact show kitB "int" "tuple" = some false by decide +kernel
  | str z => exact show kitB "str" "tuple" = some false by decide +kernel
  | list ds => exact show kitB "list" "tuple" = some false by decide +kernel
  | tuple ds => exact show kitB "tuple" "tuple" = some true by decide +kernel
  | dict ds => exact show kitB "dict" "tuple" = some false by decide +kernel
def isR (n : Int) (d : PyData) : Bool := isI d && (decide (0 ≤ valI d) && decide (valI d ≤ n - 1))
section
variable {P : Program} {w : World} {K : PySem.W.Frag} {mg : Str → Option Value} {base : Heap} {f : Addr} {fd : FuncData}
/-! is_integer, _law_is_int -/
abbrev spIsInt : Sp := spP fun H vs z => ∃ v d, vs = [v] ∧ Dq H v d ∧ z = .bl (isI d)
abbrev sIsInt : Stmt := top 9
theorem scIsInt : FnScope ["thing"] ["thing"] (defScope sIsInt) := ⟨rfl, rfl, rfl, by decide +kernel, rfl, by decide +kernel, by decide +kernel⟩
theorem ok_isInt (B : Bl mg) (F : FnP K "is_integer" sIsInt f fd) : FnOk P w K mg base CX0 1 f fd ["thing"] spIsInt := by
  refine F.ok scIsInt (fun vs H Q E h => ?_) (fun cdv A outer s H vs Q E hr h => ?_)
  · obtain ⟨z, ⟨v, d, rfl, _⟩, _⟩ := h
    rfl
  · obtain ⟨z, ⟨v, d, rfl, hd, rfl⟩, k⟩ := h
    refine ⟨_, pss_one (ps_ret (pe_and (pe_callB call_isi (by rfl) B.isi boot_isinstance (pa_cons (pv 0) (pa_cons (pe_bltn (v := .ty "int") (by rfl) B.int PyProof.Rows.boot_int rfl) pa_nil)))
      (pe_one (pe_not (pe_callB call_isi (by rfl) B.isi boot_isinstance (pa_cons (pv 0) (pa_cons (pe_bltn (v := .ty "bool") (by rfl) B.bool PyProof.Rows.boot_bool rfl) pa_nil))))))), ?_⟩
    obtain ⟨b, hb, h1, h2⟩ := kit_int d
    have v0 : Ev (tVar 0) (start ["thing"] [v]) H v := ev_var rfl
    cases b with
    | true =>
      obtain ⟨c, hc, e⟩ := h1 rfl
      rw [← e] at k
      exact s_ret (ev_andV (ev_isi v0 hd hb) fun _ => ev_notV (ev_isi v0 hd hc)) k
    | false =>
      rw [h2 rfl] at k
      exact s_ret (ev_andV (b := false) (ev_isi v0 hd hb) fun z => (by cases z)) k

/-! is_between, is_router -/
abbrev spBetween : Sp := spP fun H vs z => ∃ (a b : Int) (v : V) (d : PyData), vs = [.int a, .int b, v] ∧ Dq H v d ∧ z = .bl (isI d && (decide (a ≤ valI d) && decide (valI d ≤ b)))
abbrev sBetween : Stmt := top 10
theorem scBetween : FnScope ["least", "most", "thing"] ["least", "most", "thing"] (defScope sBetween) := ⟨rfl, rfl, rfl, by decide +kernel, rfl, by decide +kernel, by decide +kernel⟩
theorem ok_between (B : Bl mg) (C : Cal P w K mg base "is_integer" ["thing"] 1 spIsInt) (F : FnP K "is_between" sBetween f fd) : FnOk P w K mg base CX0 2 f fd ["least", "most", "thing"] spBetween := by
  refine F.ok scBetween (fun vs H Q E h => ?_) (fun cdv A outer s H vs Q E hr h => ?_)
  · obtain ⟨z, ⟨a, b, v, d, rfl, _⟩, _⟩ := h
    rfl
  · obtain ⟨z, ⟨a, b, v, d, rfl, hd, rfl⟩, k⟩ := h
    refine ⟨_, pss_one (ps_ret (pe_and (pe_cal C hr (by rfl) (pa_cons (pv 2) pa_nil)) (pe_one (pe_chain op_le op_le (pv 0) (pv 2) (pv 1))))), ?_⟩
    have v0 : Ev (tVar 0) (start ["least", "most", "thing"] [.int a, .int b, v]) H (.int a) := ev_var rfl
    have v1 : Ev (tVar 1) (start ["least", "most", "thing"] [.int a, .int b, v]) H (.int b) := ev_var rfl
    have v2 : Ev (tVar 2) (start ["least", "most", "thing"] [.int a, .int b, v]) H v := ev_var rfl
    refine s_ret (ev_andV (a := isI d) (ev_call (ea_cons v2 ea_nil) (spP_v fun H1 e => ⟨v, d, rfl, hd.mono e, rfl⟩)) fun hi => ?_) k
    rw [isI_eq hi] at hd
    cases hd
    exact ev_chain v0 v2 v1 rv_I0 rv_I0
abbrev spRouter : Sp := spP fun H vs z => ∃ (n : Int) (v : V) (d : PyData), vs = [.int n, v] ∧ Dq H v d ∧ z = .bl (isR n d)
abbrev sRouter : Stmt := top 13
theorem scRouter : FnScope ["size", "thing"] ["size", "thing"] (defScope sRouter) := ⟨rfl, rfl, rfl, by decide +kernel, rfl, by decide +kernel, by decide +kernel⟩
theorem ok_router (C : Cal P w K mg base "is_between" ["least", "most", "thing"] 2 spBetween) (F : FnP K "is_router" sRouter f fd) : FnOk P w K mg base CX0 3 f fd ["size", "thing"] spRouter := by
  refine F.ok scRouter (fun vs H Q E h => ?_) (fun cdv A outer s H vs Q E hr h => ?_)
  · obtain ⟨z, ⟨n, v, d, rfl, _⟩, _⟩ := h
    rfl
  · obtain ⟨z, ⟨n, v, d, rfl, hd, rfl⟩, k⟩ := h
    refine ⟨_, pss_one (ps_ret (pe_cal C hr (by rfl) (pa_cons pe_int (pa_cons (pe_op op_sub (pv 0) pe_int) (pa_cons (pv 1) pa_nil))))), ?_⟩
    exact s_ret (ev_call (ea_cons ev_c (ea_cons (ev_op (ev_var rfl) ev_c rv_I0) (ea_cons (ev_var rfl) ea_nil))) (spP_v fun H1 e => ⟨0, n - 1, v, d, rfl, hd.mono e, rfl⟩)) k
end
end Wk

set_option Elab.async false
set_option linter.all false
set_option maxRecDepth 100000
set_option maxHeartbeats 4000000
namespace Wk
open PySem PySem.Spec PyProof.Rows L2 Evl
/-! an object made, a method called, where what is raised is wished for at the caller's slots -/
section
variable {X : Cx} {CX : CXT} {k : Nat} {f C : Addr} {fd : FuncData} {ps : List Str} {sp : Sp} {W : L2.St → XK} {x m : Str} {p pos apos : Pos} {e o : Expr} {es : List Expr} {ta : TE} {t : TA}
def tMkAt (C : Addr) (sp : Sp) (W : L2.St → XK) (t : TA) : TE := fun σ H Q => t σ H fun vs H1 => ∀ x dx, H1 x = none → H1 dx = none → dx ≠ x → sp (.ref x :: vs) (upd (upd H1 dx (.own x)) x (.ins C dx [])) (fun v H2 => v = .non ∧ Q (.ref x) H2) (W σ)
theorem pe_mkAt (M : Mk X.K C f) (Fn : FnOk X.prog X.w X.K X.mg X.base CX k f fd ps sp) (hr : Room (k + 1) X.A) (hg : Gl X x) (hm : X.mg x = some (.ref C)) (hb : Binds X.K fd ps []) (hx : ∀ σ, PassesAt CX X σ (W σ)) (ha : PA X (e :: es) t)
    (hdb : (x == ("__debug__" : Str)) = false := by decide) (he : starEach (e :: es) X.env = (false, eval e X.env) :: starEach es X.env := by rfl) (hpl : (backTo pos (starEach es X.env)).any (·.1) = false := by rfl) :
    PE X (.Call (.Name x p) (e :: es) [] pos) (tMkAt C sp W t) := by
  refine ⟨fun pins s σ H Q I h => wpAny_Call_Name_kw (ld_glob I hg hm (PySem.W.callWith_K (h₀ := X.base) I.ok.mod.kin M.kp (thn (ha.run pos pins s σ H _ I h) fun us s1 hh => ?_) he hpl) hdb)⟩
  obtain ⟨vs, H1, I1, r, q⟩ := hh
  refine ⟨I1.kIn, ?_⟩
  have hq := q (s1.heap.objs.size + 1) s1.heap.objs.size (I1.hok.fresh (Nat.le_succ _)) (I1.hok.fresh (Nat.le_refl _)) (Nat.ne_of_lt (Nat.lt_succ_self _))
  have J := Inv.made (C := C) I1
  have rr : Vals (V.ref (s1.heap.objs.size + 1) :: vs) (Value.ref (s1.heap.objs.size + 1) :: us) := .cons rfl r
  have hl : (Value.ref (s1.heap.objs.size + 1) :: us).length = ps.length := rr.length.symm.trans (Fn.len _ _ _ _ hq)
  have bd := hb _ (Value.ref (s1.heap.objs.size + 1) :: us) J.kIn (by rw [List.append_nil]; exact hl)
  rw [List.append_nil] at bd
  refine wpAny_call (make_map (f := f) I1.kIn M.makes M.init (beq_iff_eq.mp M.fn) (codeAny_mono (Fn.run _ X.stack _ _ ⟨_, []⟩ _ _ _ (W σ) (hr.make C us []) (J.env0.make C us []) bd rr hq) fun r s' out => ?_))
  cases r with
  | error er => exact hx σ pins _ _ er s' J out
  | ok fl =>
    cases fl with
    | ret u =>
      obtain ⟨v, H', I3, rv, ev, q3⟩ := J.after out
      subst ev
      exact ⟨rv, ⟨V.ref (s1.heap.objs.size + 1), H', I3, rfl, q3⟩⟩
    | next => exact False.elim out
    | brk => exact False.elim out
    | cont => exact False.elim out
def tMeAt (C : Addr) (m : Str) (sp : Sp) (W : L2.St → XK) (ta : TE) (t : TA) : TE := fun σ H Q => ta σ H fun x H1 => ∃ a dx fs, x = .ref a ∧ H1 a = some (.ins C dx fs) ∧ fs.lookup m = none ∧ t σ H1 fun vs H2 => sp (x :: vs) H2 Q (W σ)
theorem pe_meAt {pl : Sem Bool} (ho : PE X o ta) (c : Cls X.K C) (hm : Meth X.K C m f) (Fn : FnOk X.prog X.w X.K X.mg X.base CX k f fd ps sp) (hr : Room k X.A) (hb : Binds X.K fd ps []) (hx : ∀ σ, PassesAt CX X σ (W σ)) (ha : PA X (e :: es) t)
    (hst : starEach (e :: es) X.env = (false, eval e X.env) :: starEach es X.env := by rfl) (hpl : (backTo pos (starEach es X.env)).any (·.1) = false := by rfl)
    (ht : eval (.Call (.Attribute o m apos) (e :: es) [] pos) X.env = (do
      let ov ← eval o X.env
      standAt apos.atName
      let (f, first) ← holding [ov] (getMethod ov m pl)
      callWith pos f first (backTo pos (starEach (e :: es) X.env)) (backToKw pos (keywordEach [] X.env))) := by rfl) :
    PE X (.Call (.Attribute o m apos) (e :: es) [] pos) (tMeAt C m sp W ta t) := by
  refine ⟨fun pins s σ H Q I h => PySem.W.methodCall_KW (pl := pl) (thn (ho.run pins s σ H _ I h) fun u s1 hh => ?_) ht⟩
  obtain ⟨x, H1, I1, rx, a, dx, fs, ex, ea, l, q⟩ := hh
  subst ex
  obtain rfl : u = Value.ref a := rx
  refine getmeth_ok I1 ea c hm l (PySem.W.callWith_K (first := [.ref a]) (h₀ := X.base) I.ok.mod.kin hm.kp (thn (ha.run pos pins s1 σ H1 _ I1 q) fun us s2 hh => ?_) hst hpl)
  obtain ⟨vs, H2, I2, r, q2⟩ := hh
  exact ⟨I2.kIn, run_fnS (us := .ref a :: us) (vs := .ref a :: vs) Fn hr hb (hx σ) I2 (.cons rfl r) q2⟩
end
/-! an own error with one field -/
/-- __init__ of such an error: self.router = router -/
def spXI (C : Addr) : Sp := fun vs H Q _ => ∃ (a : Addr) (y : V), vs = [.ref a, y] ∧ H a = some (exo a C none) ∧ ∀ dx, H dx = none → dx ≠ a → Q .non (upd (upd H dx (exd dx [("router", y)])) a (exo a C (some dx)))
/-- X(e) is made: where the error's dict is -/
theorem mk_err {C : Addr} {te : TE} {σ : L2.St} {H : Hp} {y : V} {W : XK} (h : Ev te σ H y) (k : ∀ d H', H d = none → Ex H H' → H' d = some (.xd [("router", y)]) → W (.ref C) (some d) H') : tMkO C (spXI C) [] (tCons te tNil) σ H W := by
  refine h H (Ex.refl H) _ fun H1 e => ⟨by show 1 ≤ 1000; decide, fun a ha => ?_⟩
  refine ⟨a, y, rfl, upd_same, fun dx hd hne => ⟨rfl, dx, [("router", y)], upd_same, by rw [upd_ne hne, upd_same], ?_, ?_⟩⟩
  · rw [upd_ne hne] at hd
    exact hd
  · have hd1 : H1 dx = none := by rw [upd_ne hne] at hd; exact hd
    refine k dx _ (fresh_back e hd1) (fun b o hb => ?_) upd_same
    have hb1 := e b o hb
    have nb : b ≠ dx := ne_of_none hb1 hd1
    have na : b ≠ a := ne_of_none hb1 ha
    rw [upd_ne nb, del_ne na, upd_ne na, upd_ne nb, upd_ne na]
    exact hb1
/-! parts of tuples -/
section
variable {K : PySem.W.Frag} {σ : L2.St} {H : Hp} {ta tb te : TE}
/-- what stands in a tuple (an old one or a new one) -/
def EvS (te : TE) (σ : L2.St) (H : Hp) (xs : List V) : Prop := ∀ H1, Ex H H1 → ∀ Q : VK, (∀ p H2, Ex H1 H2 → H2 p = some (.tup xs) → Q (.ref p) H2) → te σ H1 Q
theorem es_sl {a : Addr} {xs : List V} {tl th : TO} {lo hi : Option Int} (h : Ev te σ H (.ref a)) (h1 : EvO tl σ H lo) (h2 : EvO th σ H hi) (hs : H a = some (.tup xs)) : EvS (tSl (rSlA K) te tl th) σ H (cutV xs lo hi) := fun H1 e Q q =>
  h H1 e _ fun H2 e2 => h1 H2 (e.trans e2) _ fun H3 e3 => h2 H3 ((e.trans e2).trans e3) _ fun H4 e4 => by
    have hs4 := (((e.trans e2).trans e3).trans e4) _ _ hs
    refine ⟨a, xs, rfl, st_of hs4, fun hw => ?_, fun hw p hp => q p _ (((e2.trans e3).trans e4).trans (Ex.new hp)) upd_same⟩
    have ec : cutV xs lo hi = xs := by
      unfold cutV
      rw [hw.1, hw.2]
      simp
    rw [ec] at q
    exact q a H4 ((e2.trans e3).trans e4) hs4
theorem es_cat {xs ys : List V} (ha : EvS ta σ H xs) (hb : EvS tb σ H ys) (hz : xs.length + ys.length ≤ 100000) : EvS (tOp (rCatA K) ta tb) σ H (xs ++ ys) := fun H1 e Q q =>
  ha H1 e _ fun p H2 e2 hp => hb H2 (e.trans e2) _ fun p' H3 e3 hp' => by
    have hp3 := e3 _ _ hp
    refine ⟨p, p', xs, ys, rfl, rfl, st_of hp3, st_of hp', sz_of hz, fun hx => ?_, fun _ hy => ?_, fun _ _ r hr => q r _ ((e2.trans e3).trans (Ex.new hr)) upd_same⟩
    · rw [hx] at q
      exact q p' H3 (e2.trans e3) hp'
    · rw [hy, List.append_nil] at q
      exact q p H3 (e2.trans e3) hp3
theorem es_tup {t : TA} {xs : List V} (h : EvA t σ H xs) (hz : xs.length ≤ 100000) : EvS (tTup t) σ H xs := fun H1 e Q q => eu_tup h hz H1 e Q fun p H2 _ e2 hp => q p H2 e2 hp
theorem es_var {a : Addr} {xs : List V} (h : Ev te σ H (.ref a)) (hs : H a = some (.tup xs)) : EvS te σ H xs := fun H1 e Q q => h H1 e _ fun H2 e2 => q a H2 e2 ((e.trans e2) _ _ hs)
theorem es_mono {xs : List V} {H' : Hp} (e : Ex H H') (h : EvS te σ H xs) : EvS te σ H' xs := fun H1 e1 Q q => h H1 (e.trans e1) Q q
end
/-! x in t, t a tuple of data -/
section
variable {X : Cx}
def rInU (K : PySem.W.Frag) : R2 := fun x y H Q => ∃ d ds, Dp K H x d ∧ Dp K H y (.tuple ds) ∧ SeqAt.shaped d = true ∧ PyData.canLayAll0 ds = true ∧ Q (.bl (ds.any fun z => PyData.eqv z d)) H
def rNotInU (K : PySem.W.Frag) : R2 := fun x y H Q => ∃ d ds, Dp K H x d ∧ Dp K H y (.tuple ds) ∧ SeqAt.shaped d = true ∧ PyData.canLayAll0 ds = true ∧ Q (.bl (!ds.any fun z => PyData.eqv z d)) H
theorem op_inU (hu : X.A.units + 66 < cLine) : OpR X (compareOp .In) (rInU X.K) := fun pins s σ H x y v u Q I rx ry h => by
  obtain ⟨d, ds, hd, he, sd, se, q⟩ := h
  obtain ⟨as, r1⟩ := Dp.reads I d x v hd rx
  obtain ⟨bs, r2⟩ := Dp.reads I (.tuple ds) y u he ry
  have hdp := SeqAt.depth_of_shaped sd
  exact SeqAt.in_tuple_reads r2 r1 se (SeqAt.canLay_of_shaped sd) (by have := Nat.min_le_right (PyData.depthAll ds) d.depth; omega) ⟨.bl _, H, I, rfl, q⟩
theorem op_notInU (hu : X.A.units + 66 < cLine) : OpR X (compareOp .NotIn) (rNotInU X.K) := fun pins s σ H x y v u Q I rx ry h => by
  obtain ⟨d, ds, hd, he, sd, se, q⟩ := h
  obtain ⟨as, r1⟩ := Dp.reads I d x v hd rx
  obtain ⟨bs, r2⟩ := Dp.reads I (.tuple ds) y u he ry
  have hdp := SeqAt.depth_of_shaped sd
  exact SeqAt.notIn_tuple_reads r2 r1 se (SeqAt.canLay_of_shaped sd) (by have := Nat.min_le_right (PyData.depthAll ds) d.depth; omega) ⟨.bl _, H, I, rfl, q⟩
end
end Wk

set_option Elab.async false
set_option linter.all false
set_option maxRecDepth 100000
set_option maxHeartbeats 4000000
namespace Wk
open PySem PySem.Spec PyProof.Rows L2 Evl SeqAt
/-! == of a sequence and the empty one: by the lengths alone -/
section
variable {X : Cx}
def rEqEL (K : PySem.W.Frag) : R2 := fun x y H Q => ∃ a b xs, x = .ref a ∧ y = .ref b ∧ SqL K H a xs ∧ SqL K H b [] ∧ Q (.bl xs.isEmpty) H
theorem op_eqEL (hu : X.A.units < cLine) : OpR X (compareOp .Eq) (rEqEL X.K) := fun pins s σ H x y v u Q I rx ry h => by
  obtain ⟨a, b, xs, rfl, rfl, ha, hb, q⟩ := h
  cases rx
  cases ry
  obtain ⟨its, r1, p1, _⟩ := I.list ha
  obtain ⟨its2, r2, p2, _⟩ := I.list hb
  cases r2
  cases r1 with
  | nil => exact eq_listAt (e := fun _ => true) p1.isList p2.isList rfl hu (fun j h1 _ => absurd h1 (by simp)) ⟨.bl true, H, I, rfl, q⟩
  | cons r rr => exact eq_list_lengthsAt p1.isList p2.isList (by simp) hu ⟨.bl false, H, I, rfl, q⟩
def rEqEU (K : PySem.W.Frag) : R2 := fun x y H Q => ∃ a b xs, x = .ref a ∧ y = .ref b ∧ SqT K H a xs ∧ SqT K H b [] ∧ Q (.bl xs.isEmpty) H
theorem op_eqEU (hu : X.A.units < cLine) : OpR X (compareOp .Eq) (rEqEU X.K) := fun pins s σ H x y v u Q I rx ry h => by
  obtain ⟨a, b, xs, rfl, rfl, ha, hb, q⟩ := h
  cases rx
  cases ry
  obtain ⟨its, r1, p1, _⟩ := I.tuple ha
  obtain ⟨its2, r2, p2, _⟩ := I.tuple hb
  cases r2
  refine eq_tupleAt (e := fun _ => true) p1 p2 hu (fun j _ h2 => absurd h2 (by simp)) ⟨.bl xs.isEmpty, H, I, ?_, q⟩
  cases r1 <;> rfl
def rNeEU (K : PySem.W.Frag) : R2 := fun x y H Q => ∃ a b xs, x = .ref a ∧ y = .ref b ∧ SqT K H a xs ∧ SqT K H b [] ∧ Q (.bl (!xs.isEmpty)) H
theorem op_neEU (hu : X.A.units < cLine) : OpR X (compareOp .NotEq) (rNeEU X.K) := fun pins s σ H x y v u Q I rx ry h => by
  obtain ⟨a, b, xs, rfl, rfl, ha, hb, q⟩ := h
  cases rx
  cases ry
  obtain ⟨its, r1, p1, _⟩ := I.tuple ha
  obtain ⟨its2, r2, p2, _⟩ := I.tuple hb
  cases r2
  refine RcNeAt.tuples (e := fun _ => true) p1 p2 hu (fun j _ h2 => absurd h2 (by simp)) X.prog X.w _ _ ⟨.bl (!xs.isEmpty), H, I, ?_, q⟩
  cases r1 <;> rfl
end
/-! a dict and a tuple are unlike -/
theorem dictEqTup (l b : Addr) (o : Obj) (hoc : o.cls = .type "dict") (its : Array Value) (n : Nat) (dd : Option Addr) (sl : Array (Option Value)) :
    Meets (Builtin.«dict.__eq__» ⟨[.ref l, .ref b], []⟩) (fun _ R s => s.heap.get? l = some o ∧ s.heap.get? b = some { cls := .type "tuple", dict := dd, data := .seq its n, slots := sl } ∧ R (.ok (.ret .notImplemented)) s) :=
  .of_wp fun prog w A R s h => by
    obtain ⟨hp, g, d, tk, os⟩ := s
    obtain ⟨hl, hb, h⟩ := h
    obtain ⟨oc, od, dt, os2⟩ := o
    simp only at hoc
    subst hoc
    have f1 := F.sub_tuple_dict
    wp_walk using wpAny_loadPart' hl, wpAny_loadPart' hb
    exact ⟨_, rfl, h⟩
theorem tupEqDict (l b : Addr) (o : Obj) (hoc : o.cls = .type "dict") (its : Array Value) (n : Nat) (dd : Option Addr) (sl : Array (Option Value)) :
    Meets (Builtin.«tuple.__eq__» ⟨[.ref b, .ref l], []⟩) (fun _ R s => s.heap.get? b = some { cls := .type "tuple", dict := dd, data := .seq its n, slots := sl } ∧ s.heap.get? l = some o ∧ R (.ok (.ret .notImplemented)) s) :=
  .of_wp fun prog w A R s h => by
    obtain ⟨hp, g, d, tk, os⟩ := s
    obtain ⟨hb, hl, h⟩ := h
    obtain ⟨oc, od, dt, os2⟩ := o
    simp only at hoc
    subst hoc
    have f1 := F.sub_dict_tuple
    wp_walk using wpAny_loadPart' hl, wpAny_loadPart' hb
    exact ⟨_, rfl, h⟩
section
variable {A : Around} {s : Shared}
theorem eqAt_dictTup {l b : Addr} {o : Obj} {its : Array Value} (hl : s.heap.get? l = some o) (hoc : o.cls = .type "dict") (hb : s.heap.IsTuple b its) (hu : A.units < cLine) : EqAt A s (.ref l) (.ref b) false := by
  obtain ⟨⟨c2, dd, dt, sl⟩, ho2, hc2, n, hd2⟩ := hb
  simp only at hc2 hd2
  subst hc2 hd2
  have hne : l ≠ b := fun z => by
    rw [z, ho2] at hl
    cases hl
    exact absurd hoc (by simp)
  refine EqAt.of_refs hne fun prog w E Q h => ?_
  exact rc_eq_decline_or (k := false) ⟨_, hl, hoc⟩ ⟨_, ho2, rfl⟩ (by decide) F.sub_tuple_dict F.slot_dict_eq F.slot_tuple_eq_refl
    (fun _ hq => call_meets F.slot_dict_eq ⟨_, hl, hoc⟩ F.entry_dict_eq (F.args_dict_eq_2 _ _) (dictEqTup l b o hoc its n dd sl) ⟨hl, ho2, hq⟩)
    (fun _ hq => call_meets F.slot_tuple_eq_refl ⟨_, ho2, rfl⟩ F.entry_tuple_eq (F.args_tuple_eq_2 _ _) (tupEqDict l b o hoc its n dd sl) ⟨ho2, hl, hq⟩)
    (fun _ hq => wpAny_isSame_ref_other hne hl ho2 (by rw [hoc]; simp) hq) (.inr hu) h
end
/-- an item of an edited row -/
def Itm (d : PyData) : Prop := d = .dict [] ∨ (d.canLay0 = true ∧ d.depth ≤ 8)
section
variable {X : Cx}
/-- x not in l, l a list of such items, x a tuple: a flag -/
def rNotInX (K : PySem.W.Frag) : R2 := fun x y H Q => ∃ a p ds vs es, x = .ref a ∧ y = .ref p ∧ H p = some (.lst vs) ∧ DqA H vs ds ∧ (∀ d ∈ ds, Itm d) ∧ Dq H (.ref a) (.tuple es) ∧ PyData.canLay0 (.tuple es) = true ∧ ∀ b : Bool, Q (.bl b) H
theorem op_notInX (hu : X.A.units + 66 < cLine) : OpR X (compareOp .NotIn) (rNotInX X.K) := fun pins s σ H x y v u Q I rx ry h => by
  obtain ⟨a, p, ds, vs, es, rfl, rfl, hp, hds, hi, hx, cx, q⟩ := h
  cases rx
  cases ry
  obtain ⟨its, r1, p1, _⟩ := I.list (sq_of hp)
  have hxp := hx
  cases hxp with
  | tup h1 h2 =>
    obtain ⟨as, rx⟩ := Dp.reads I (.tuple es) (.ref a) (.ref a) (Dq.dp (K := X.K) cx hx) rfl
    obtain ⟨its2, r2, p2, _⟩ := I.tuple (st_of h1)
    have key : ∀ y ∈ its, ∃ b, EqAt X.A.in1 s y (.ref a) b := fun y hy => by
      obtain ⟨i, hiy⟩ := List.mem_iff_getElem?.mp hy
      have hil : i < vs.length := by
        have := (List.getElem?_eq_some_iff.mp hiy).1
        rw [r1.length]; exact this
      have hv : vs[i]? = some vs[i] := List.getElem?_eq_getElem hil
      obtain ⟨u2, hu2, ru⟩ := r1.get hv
      rw [hiy] at hu2
      cases hu2
      obtain ⟨d, ed, hd⟩ := hds.get hv
      rcases hi d (List.mem_of_getElem? ed) with z | ⟨z, zd⟩
      · subst z
        generalize hvv : vs[i] = vv at *
        cases hd with
        | dic hdd =>
          cases ru
          obtain ⟨_, _, vs2, _, o, es2, ep, g1, g2, _⟩ := (show ObjOk X.prog X.w H s.heap _ (.dK []) from I.hok _ _ hdd)
          exact ⟨false, eqAt_dictTup g1 g2.1 p2 (by show X.A.in1.units < cLine; simp; omega)⟩
      · obtain ⟨bs, ry⟩ := Dp.reads I d vs[i] y (Dq.dp (K := X.K) z hd) ru
        exact ⟨_, eqAt_reads d (.tuple es) X.A.in1 s y (.ref a) bs as ry rx z cx (by
          have hm := Nat.min_le_left d.depth (PyData.tuple es).depth
          show X.A.in1.units + _ < cLine
          simp
          omega)⟩
    have key2 : ∃ e : Value → Bool, ∀ y, y ∈ its.toArray → EqAt X.A.in1 s y (.ref a) (e y) := by
      refine ⟨fun y => @decide (EqAt X.A.in1 s y (.ref a) true) (Classical.propDecidable _), fun y hy => ?_⟩
      obtain ⟨b, hb⟩ := key y (by simpa using hy)
      by_cases c : EqAt X.A.in1 s y (.ref a) true
      · simp only [c, decide_true]
      · simp only [c, decide_false]
        cases b with
        | false => exact hb
        | true => exact absurd hb c
    obtain ⟨e, he⟩ := key2
    exact notIn_listAt e p1.isList he ⟨.bl _, H, I, rfl, q _⟩
end
end Wk

set_option Elab.async false
set_option linter.all false
set_option maxRecDepth 100000
set_option maxHeartbeats 2000000
namespace Wk
open PySem PySem.Spec PyProof.Rows L2 Evl
theorem cut_to (xs : List V) (i : Nat) (h : i ≤ xs.length) : cutV xs none (some (i : Int)) = xs.take i := by
  unfold cutV
  rw [HT.sIx_none, HT.sIx_nat, Nat.min_eq_left h]
  simp
theorem flat_ints (ns : List Int) : (ns.map V.int).all flatV = true := by
  rw [List.all_map, List.all_eq_true]
  intro x _
  rfl
theorem cut_from (xs : List V) (i : Nat) (h : i ≤ xs.length) : cutV xs (some (i : Int)) none = xs.drop i := by
  unfold cutV
  rw [HT.sIx_nat, HT.sIx_none, Nat.min_eq_left h]
  exact List.take_of_length_le (by simp)
theorem seqIx {k n : Nat} (h : k < n) : seqIndex? (k : Int) n = some k := by
  have q := ixN_seq (n := n) (i := (k : Int)) (j := k) (by
    unfold ixN
    rw [if_pos (by omega), if_pos (by omega)]
    simp)
  exact q.1
theorem ix_listK {X : Cx} {K : PySem.W.Frag} (hK : X.K = K) : IxR X (rIxL K) := by
  subst hK
  exact ix_list
theorem ixNat {n : Nat} {x : Int} (h0 : 0 ≤ x) (h1 : x < n) : ixN n x = some x.toNat := by
  unfold ixN
  rw [if_pos h0, if_pos h1]
theorem at_ints {os : List Int} {j : Nat} (h : j < os.length) : atI (os.map V.int) (j : Int) = some (.int os[j]) := atI_nat (by rw [List.getElem?_map, List.getElem?_eq_getElem h]; rfl)
theorem g_name {i : Nat} {x : V} {σ : L2.St} {H : Hp} {k : L2.St → Hp → Prop} (h : k (σ.set i (some x)) H) : gName i x σ H k := h
theorem asg_lst1 {te : TE} {g : TG} {D : Ends} {σ : L2.St} {H : Hp} (h : te σ H fun x H1 => 1 ≤ sizeLine ∧ ∀ b, H1 b = none → g (.ref b) σ (upd H1 b (.lst [x])) D.nx) : tAsg (tLst (tCons te tNil)) g D σ H := h
theorem cb1 {r : List V → Hp → VK → Prop} {ta : TE} {σ : L2.St} {H : Hp} {Q : VK} (h : ta σ H fun x H1 => r [x] H1 Q) : tCB r (tCons ta tNil) σ H Q := h
theorem q_c {i : Nat} {v : V} {tz : TS} {D : Ends} {σ : L2.St} {H : Hp} (h : tz D (σ.set i (some v)) H) : tSeq (tAsg (tC v) (gName i)) tz D σ H := h
theorem call_tupleK {X : Cx} {K : PySem.W.Frag} (hK : X.K = K) : CallR X (.type "tuple") (fun xs H Q => ∃ p ys, xs = [.ref p] ∧ ((SqL K H p ys ∧ ∀ l, H l = none → Q (.ref l) (upd H l (.tup ys))) ∨ (SqT K H p ys ∧ Q (.ref p) H))) := by
  subst hK
  exact call_tuple_of
theorem ret_cb {r : List V → Hp → VK → Prop} {ta : TE} {D : Ends} {σ : L2.St} {H : Hp} (h : ta σ H fun x H1 => r [x] H1 D.rt) : tRet (tCB r (tCons ta tNil)) D σ H := h
theorem ret_op {r : R2} {ta tb : TE} {D : Ends} {σ : L2.St} {H : Hp} (h : ta σ H fun x H1 => tb σ H1 fun y H2 => r x y H2 D.rt) : tRet (tOp r ta tb) D σ H := h
theorem call_listK2 {X : Cx} {K : PySem.W.Frag} (hK : X.K = K) : CallR X (.type "list") (fun xs H Q => ∃ p ys, xs = [.ref p] ∧ (SqL K H p ys ∨ SqT K H p ys) ∧ ∀ l, H l = none → Q (.ref l) (upd H l (.lst ys))) := by
  subst hK
  exact call_list_of
theorem take_snoc {α : Type} {l : List α} {i : Nat} {x : α} (h : l[i]? = some x) : l.take (i + 1) = l.take i ++ [x] := by
  rw [List.take_add_one, h]
  rfl
theorem ev_inS {K : PySem.W.Frag} {σ : L2.St} {H : Hp} {ta tb : TE} {x : V} {xs : List V} (ha : Ev ta σ H x) (hb : EvS tb σ H xs) (hx : flatV x = true) (hf : xs.all flatV = true) : Ev (tOp (rIn K false) ta tb) σ H (.bl (inV x xs)) := fun H1 e Q q =>
  ha H1 e _ fun H2 e2 => hb H2 (e.trans e2) _ fun p H3 e3 hp => ⟨p, xs, rfl, .inr (st_of hp), hx, hf, q H3 (e2.trans e3)⟩
theorem modP (a b : Int) (h : 0 < b) : 0 ≤ a % b ∧ a % b < b := ⟨Int.emod_nonneg _ (by omega), Int.emod_lt_of_pos _ h⟩
theorem q_asgW {te : TE} {tz : TS} {D : Ends} {σ : L2.St} {H : Hp} {i : Nat} (h : te σ H fun x H1 => tz D (σ.set i (some x)) H1) : tSeq (tAsg te (gName i)) tz D σ H := h
end Wk

set_option Elab.async false
set_option linter.all false
set_option maxRecDepth 100000
set_option maxHeartbeats 2000000
namespace Wk
open PySem PySem.Spec PyProof.Rows L2 Evl
/-! the pool: the list at p of the list at q that stays, and of three numbers; G is what stays -/
structure Pm (G H : Hp) (p q : Addr) : Prop where
  ex : Ex G H
  gp : G p = none
  gq : ∃ cs : List Int, G q = some (.lst (cs.map V.int)) ∧ cs.length ≤ 63
  at_ : ∃ (a b c : Int), H p = some (.lst [.ref q, .int a, .int b, .int c]) ∧ 0 ≤ a ∧ 0 ≤ b ∧ 0 ≤ c
theorem Pm.np {G H : Hp} {p q a : Addr} (h : Pm G H p q) (ha : H a = none) : a ≠ p := fun z => by
  obtain ⟨a', b, c, h2, _⟩ := h.at_
  rw [z, h2] at ha
  cases ha
theorem Pm.ext {G H H' : Hp} {p q : Addr} (h : Pm G H p q) (e : Ex H H') : Pm G H' p q := by
  obtain ⟨a, b, c, h2, r⟩ := h.at_
  exact ⟨h.ex.trans e, h.gp, h.gq, a, b, c, e _ _ h2, r⟩
theorem Pm.new {G H : Hp} {p q a : Addr} {o : HO} (h : Pm G H p q) (ha : H a = none) : Pm (upd G a o) (upd H a o) p q := by
  obtain ⟨a', b, c, h2, r⟩ := h.at_
  obtain ⟨cs, h0, h1⟩ := h.gq
  have np := h.np ha
  have ga := fresh_back h.ex ha
  refine ⟨fun b u hb => ?_, by rw [upd_ne (Ne.symm np)]; exact h.gp, ⟨cs, (Ex.new ga) _ _ h0, h1⟩, a', b, c, by rw [upd_ne (Ne.symm np)]; exact h2, r⟩
  by_cases c : b = a
  · rw [c, upd_same] at hb ⊢
    exact hb
  · rw [upd_ne c] at hb ⊢
    exact h.ex _ _ hb
theorem Pm.mut {G H : Hp} {p q a : Addr} {o : HO} (h : Pm G H p q) (ga : G a = none) (np : a ≠ p) : Pm G (upd H a o) p q := by
  obtain ⟨a', b, c, h2, r⟩ := h.at_
  exact ⟨Ex.mut h.ex ga, h.gp, h.gq, a', b, c, by rw [upd_ne (Ne.symm np)]; exact h2, r⟩
theorem Pm.hold {G H : Hp} {p q a : Addr} {o : HO} (h : Pm G H p q) (ha : H a = some o) (np : a ≠ p) (ga : G a = none) : Pm (upd G a o) H p q := by
  obtain ⟨cs, h0, h1⟩ := h.gq
  refine ⟨fun b u hb => ?_, by rw [upd_ne (Ne.symm np)]; exact h.gp, ⟨cs, (Ex.new ga) _ _ h0, h1⟩, h.at_⟩
  by_cases c : b = a
  · rw [c, upd_same] at hb
    cases hb
    rw [c]
    exact ha
  · rw [upd_ne c] at hb
    exact h.ex _ _ hb
def Of1 (p : Addr) (H H' : Hp) : Prop := ∀ b o, b ≠ p → H b = some o → H' b = some o
theorem Of1.refl (p : Addr) (H : Hp) : Of1 p H H := fun _ _ _ h => h
theorem Of1.trans {p : Addr} {H H1 H2 : Hp} (a : Of1 p H H1) (b : Of1 p H1 H2) : Of1 p H H2 := fun c o h1 h => b c o h1 (a c o h1 h)
theorem Of1.ex {p : Addr} {H H1 : Hp} (e : Ex H H1) : Of1 p H H1 := fun c o _ h => e c o h
open Classical in
noncomputable def Hd1 (H : Hp) (p : Addr) : Hp := fun b => if b = p then none else H b
theorem hd1_at {H : Hp} {p b : Addr} (hp : b ≠ p) : Hd1 H p b = H b := by
  unfold Hd1
  rw [if_neg hp]
theorem Pm.sub {G H : Hp} {p q : Addr} (h : Pm G H p q) : Ex G (Hd1 H p) := fun b o hb => by
  have hp : b ≠ p := fun z => by rw [z, h.gp] at hb; cases hb
  rw [hd1_at hp]
  exact h.ex _ _ hb
theorem Pm.hd {G H : Hp} {p q : Addr} (h : Pm G H p q) : Pm (Hd1 H p) H p q := by
  obtain ⟨cs, h0, h1⟩ := h.gq
  refine ⟨fun b o hb => ?_, by unfold Hd1; rw [if_pos rfl], ⟨cs, h.sub _ _ h0, h1⟩, h.at_⟩
  unfold Hd1 at hb
  split at hb
  · cases hb
  · exact hb
theorem Pm.off {H H' : Hp} {p q : Addr} (h : Pm (Hd1 H p) H' p q) : Of1 p H H' := fun b o hp hb => h.ex b o (by rw [hd1_at hp]; exact hb)
theorem Pm.back {G H H' : Hp} {p q : Addr} (h0 : Pm G H p q) (h : Pm (Hd1 H p) H' p q) : Pm G H' p q := ⟨h0.sub.trans h.ex, h0.gp, h0.gq, h.at_⟩
/-- less stays -/
theorem Pm.less {G G' H : Hp} {p q : Addr} (h : Pm G H p q) (e : Ex G' G) (hq : ∃ cs : List Int, G' q = some (.lst (cs.map V.int)) ∧ cs.length ≤ 63) : Pm G' H p q := ⟨e.trans h.ex, fresh_back e h.gp, hq, h.at_⟩
theorem rng_getD (ns : List Int) : (List.range ns.length).map (fun i => V.int (ns.getD i 0)) = ns.map V.int := by
  apply List.ext_getElem
  · simp
  · intro i h1 h2
    have h3 : i < ns.length := by simpa using h1
    simp [List.getD_eq_getElem?_getD, List.getElem?_eq_getElem h3]
theorem given_yesAll (n : Nat) (v : Nat → V) : given n (fun _ => true) v = (List.range n).map v := by
  unfold given
  rw [List.filter_eq_self.mpr fun _ _ => rfl]
theorem cut_all {ns : List Int} (h : ns.length ≤ 63) : cutV (ns.map V.int) none (some 63) = ns.map V.int := by
  unfold cutV
  rw [HT.sIx_none, show ((63 : Int)) = ((63 : Nat) : Int) from rfl, HT.sIx_nat, List.length_map, Nat.min_eq_right h]
  simp
  exact List.take_of_length_le (by simp)
theorem ret_lst1 {te : TE} {ta : TA} {D : Ends} {σ : L2.St} {H : Hp} (h : te σ H fun x H1 => ta σ H1 fun vs H2 => (x :: vs).length ≤ sizeLine ∧ ∀ l, H2 l = none → D.rt (.ref l) (upd H2 l (.lst (x :: vs)))) : tRet (tLst (tCons te ta)) D σ H := h
section
variable {P : Program} {w : World} {K : PySem.W.Frag} {mg : Str → Option Value} {base : Heap} {f : Addr} {fd : FuncData}
/-! _law_pool -/
def spPool (K : PySem.W.Frag) : Sp := fun vs H Q _ => ∃ (a : Addr) (ns : List Int), vs = [.ref a] ∧ SqL K H a (ns.map V.int) ∧ ns.length ≤ 63 ∧ ∀ G H' p q, Ex H G → Pm G H' p q → Q (.ref p) H'
abbrev sPool : Stmt := top 36
abbrev nPool : List Str := ["_law_script", "_law_cell"]
theorem scPool : FnScope nPool ["_law_script"] (defScope sPool) := ⟨rfl, rfl, rfl, by decide +kernel, rfl, by decide +kernel, by decide +kernel⟩
theorem ok_pool (B : Bl mg) (F : FnP K "_law_pool" sPool f fd) : FnOk P w K mg base CX0 1 f fd ["_law_script"] (spPool K) := by
  refine F.ok scPool (fun vs H Q E h => ?_) (fun cdv A outer s H vs Q E hr h => ?_)
  · obtain ⟨a, ns, rfl, _⟩ := h
    rfl
  · obtain ⟨a, ns, rfl, hs, hl, k⟩ := h
    refine ⟨_, pss_one (ps_ret (pe_lst (pa_cons (pe_lc (own := [("_law_cell", 1)]) (g := gName 1) (tt := tYes) rfl scPool.nd (pi_list (pe_slice sl_list (pv 0) po_none (po_some pe_int))) (blkOk_by (N := nPool) (sc := defScope sPool) (by decide +kernel))
          (fun _ _ _ _ _ => pg_name (i := 1) scPool.nd rfl (Or.inl rfl)) (fun _ _ _ _ _ => pts_nil)
          (fun _ _ _ _ _ => pe_callTy call_int1 (by rfl) B.int PyProof.Rows.boot_int (pa_cons (pv 1) pa_nil))) (pa_cons pe_int (pa_cons pe_int (pa_cons pe_int pa_nil)))))), ?_⟩
    have hsl : EvL (tSl (rSlL K) (tVar 0) tNoPart (tPart (tC (.int 63)))) (wipe (start nPool [V.ref a]) [1]) H (ns.map V.int) := by
      have q := el_sl (K := K) (te := tVar 0) (σ := wipe (start nPool [V.ref a]) [1]) (H := H) (ev_var rfl) eo_none (eo_some (i := 63) ev_c) hs
      rw [cut_all hl] at q
      exact q
    have hlc := el_lcNL (K := K) (σ := start nPool [V.ref a]) (H := H) (j := 1) (vs := [1]) (te := tCB (fun xs H Q => (∃ i, xs = [.int i] ∧ Q (.int i) H) ∨ ∃ k, xs = [.bl k] ∧ Q (.int (if k then 1 else 0)) H) (tCons (tVar 1) tNil)) (t := tYes) (fun _ => true) (fun i => V.int (ns.getD i 0)) hsl (by rw [List.length_map]; omega) (fun x => rfl) (fun _ _ _ _ _ => et_yes) (fun i x H1 e hx _ => by
      rw [List.getElem?_map] at hx
      cases hn : ns[i]? with
      | none => rw [hn] at hx; cases hx
      | some n =>
        rw [hn] at hx
        have ex : x = .int n := (Option.some.inj hx).symm
        subst ex
        rw [show ns.getD i 0 = n by rw [List.getD_eq_getElem?_getD, hn]; rfl]
        exact ev_cb (ea_cons (ev_var rfl) ea_nil) fun H2 e2 Q2 q => .inl ⟨n, rfl, q H2 (Ex.refl H2)⟩)
    rw [given_yesAll, List.length_map, rng_getD] at hlc
    refine ret_lst1 (hlc H (Ex.refl _) _ fun q H1 hq e1 hq1 => ?_)
    refine ⟨by show 4 ≤ sizeLine; decide, fun p hp => ?_⟩
    exact k H1 _ p q e1 ⟨Ex.new hp, hp, ⟨ns, hq1, hl⟩, 0, 0, 0, upd_same, by decide, by decide, by decide⟩
/-! _law_mixed -/
def mx1 (c m : Int) : Int := ((c + 7919 * m + 1) * 48271) % 2147483647
def mx2 (y : Int) : Int := (y * (y / 1009 + 69621)) % 2147483647
def mx3 (y : Int) : Int := (y * (y / 2003 + 40692)) % 2147483399
def mixI (c m : Int) : Int := mx3 (mx2 (mx1 c m))
theorem mixI_nn (c m : Int) : 0 ≤ mixI c m := (modP _ 2147483399 (by decide)).1
abbrev spMixed : Sp := spP fun _ vs z => ∃ c m : Int, vs = [.int c, .int m] ∧ z = .int (mixI c m)
abbrev sMixed : Stmt := top 37
abbrev nMixed : List Str := ["_law_cell", "_law_many", "_law_number"]
theorem scMixed : FnScope nMixed ["_law_cell", "_law_many"] (defScope sMixed) := ⟨rfl, rfl, rfl, by decide +kernel, rfl, by decide +kernel, by decide +kernel⟩
theorem ok_mixed (B : Bl mg) (F : FnP K "_law_mixed" sMixed f fd) : FnOk P w K mg base CX0 1 f fd ["_law_cell", "_law_many"] spMixed := by
  refine F.ok scMixed (fun vs H Q E h => ?_) (fun cdv A outer s H vs Q E hr h => ?_)
  · obtain ⟨z, ⟨c, m, rfl, _⟩, _⟩ := h
    rfl
  · obtain ⟨z, ⟨c, m, rfl, rfl⟩, k⟩ := h
    refine ⟨_, pss_cons (ps_set (i := 2) scMixed.nd rfl (Or.inl rfl) (pe_op op_mod (pe_callTy call_int1 (by rfl) B.int PyProof.Rows.boot_int (pa_cons (pe_op op_mul (pe_op op_add (pe_op op_add (pv 0) (pe_op op_mul pe_int (pv 1))) pe_int) pe_int) pa_nil)) pe_int))
      (pss_cons (ps_set (i := 2) scMixed.nd rfl (Or.inl rfl) (pe_op op_mod (pe_callTy call_int1 (by rfl) B.int PyProof.Rows.boot_int (pa_cons (pe_op op_mul (pv 2) (pe_op op_add (pe_op op_fdiv (pv 2) pe_int) pe_int)) pa_nil)) pe_int))
      (pss_one (ps_ret (pe_op op_mod (pe_callTy call_int1 (by rfl) B.int PyProof.Rows.boot_int (pa_cons (pe_op op_mul (pv 2) (pe_op op_add (pe_op op_fdiv (pv 2) pe_int) pe_int)) pa_nil)) pe_int)))), ?_⟩
    refine ⟨.int c, rfl, .int m, rfl, 7919, m, rfl, rfl, .inl ⟨by decide, by decide⟩, c, _, rfl, rfl, _, 1, rfl, rfl, _, 48271, rfl, rfl, .inr ⟨by decide, by decide⟩, .inl ⟨_, rfl, _, 2147483647, rfl, rfl, (show (0 : Int) < 2147483647 by decide), ?_⟩⟩
    have m1 := modP ((c + 7919 * m + 1) * 48271) 2147483647 (by decide)
    change tSeq _ _ _ [some (.int c), some (.int m), some (.int (mx1 c m))] H
    have k' : ∀ H', Ex H H' → Q (.int (mx3 (mx2 (mx1 c m)))) H' := k
    have hy1 : 0 ≤ mx1 c m ∧ mx1 c m < 2147483647 := m1
    generalize mx1 c m = y1 at k' hy1 ⊢
    refine ⟨.int y1, rfl, .int y1, rfl, y1, 1009, rfl, rfl, ⟨by decide, by decide⟩, _, 69621, rfl, rfl, y1, _, rfl, rfl, .inl ⟨by omega, by omega⟩, .inl ⟨_, rfl, _, 2147483647, rfl, rfl, (show (0 : Int) < 2147483647 by decide), ?_⟩⟩
    have m2 : 0 ≤ mx2 y1 ∧ mx2 y1 < 2147483647 := modP (y1 * (y1 / 1009 + 69621)) 2147483647 (by decide)
    refine g_name ?_
    exact ⟨.int (mx2 y1), rfl, .int (mx2 y1), rfl, mx2 y1, 2003, rfl, rfl, ⟨by decide, by decide⟩, _, 40692, rfl, rfl, mx2 y1, _, rfl, rfl, .inl ⟨by omega, by omega⟩, .inl ⟨_, rfl, _, 2147483399, rfl, rfl, (show (0 : Int) < 2147483399 by decide), k' H (Ex.refl _)⟩⟩
/-! _law_draw -/
def spDraw : Sp := fun vs H Q _ => ∃ (G : Hp) (p q : Addr) (z : Int), vs = [.ref p, .int z] ∧ Pm G H p q ∧ 0 < z ∧ z ≤ 1000000000 ∧ ∀ H' (i : Int), Pm G H' p q → 0 ≤ i → i < z → Q (.int i) H'
abbrev sDraw : Stmt := top 38
abbrev nDraw : List Str := ["_law_pool_here", "_law_limit", "_law_drawn", "_law_cell", "_law_fresh"]
theorem scDraw : FnScope nDraw ["_law_pool_here", "_law_limit"] (defScope sDraw) := ⟨rfl, rfl, rfl, by decide +kernel, rfl, by decide +kernel, by decide +kernel⟩
theorem ok_draw (B : Bl mg) (C : Cal P w K mg base "_law_mixed" ["_law_cell", "_law_many"] 1 spMixed) (F : FnP K "_law_draw" sDraw f fd) : FnOk P w K mg base CX0 2 f fd ["_law_pool_here", "_law_limit"] spDraw := by
  refine F.ok scDraw (fun vs H Q E h => ?_) (fun cdv A outer s H vs Q E hr h => ?_)
  · obtain ⟨G, p, q, z, rfl, _⟩ := h
    rfl
  · obtain ⟨G, p, q, z, rfl, hP, hz, hz2, k⟩ := h
    refine ⟨_, pss_cons (ps_asg (pe_op op_add (pe_ix ix_list (pv 0) pe_int (fun _ _ => rfl)) pe_int) (pg_sub (pv 0) pe_int set_list))
      (pss_cons (ps_if (pt_cmpR op_ge (pe_ix ix_list (pv 0) pe_int (fun _ _ => rfl)) (pv 1) (nomark _))
          (pss_cons (ps_set (i := 2) scDraw.nd rfl (Or.inl rfl) (pe_op op_mod (pe_callTy call_int1 (by rfl) B.int PyProof.Rows.boot_int (pa_cons (pe_ix ix_list (pv 0) pe_int (fun _ _ => rfl)) pa_nil)) (pv 1)))
          (pss_cons (ps_asg (pe_op op_fdiv (pe_ix ix_list (pv 0) pe_int (fun _ _ => rfl)) (pv 1)) (pg_sub (pv 0) pe_int set_list))
          (pss_one (ps_ret (pv 2))))) pss_nil)
      (pss_cons (ps_set (i := 3) scDraw.nd rfl (Or.inl rfl) pe_int)
      (pss_cons (ps_set (i := 4) scDraw.nd rfl (Or.inl rfl) (pe_cmpR op_lt (pe_ix ix_list (pv 0) pe_int (fun _ _ => rfl)) (pe_callB call_len_seq (by rfl) B.len PySem.boot_len (pa_cons (pe_ix ix_list (pv 0) pe_int (fun _ _ => rfl)) pa_nil)) (nomark _)))
      (pss_cut (ps_if (pt_cmpR op_gt (pe_callB call_len_seq (by rfl) B.len PySem.boot_len (pa_cons (pe_ix ix_list (pv 0) pe_int (fun _ _ => rfl)) pa_nil)) pe_int (nomark _))
          (pss_one (ps_set (i := 3) scDraw.nd rfl (Or.inl rfl) (pe_callB call_abs (by rfl) B.abs boot_abs (pa_cons (pe_ix ix_list (pe_ix ix_list (pv 0) pe_int (fun _ _ => rfl)) (pe_op op_mod (pe_callTy call_int1 (by rfl) B.int PyProof.Rows.boot_int (pa_cons (pe_ix ix_list (pv 0) pe_int (fun _ _ => rfl)) pa_nil)) (pe_callB call_len_seq (by rfl) B.len PySem.boot_len (pa_cons (pe_ix ix_list (pv 0) pe_int (fun _ _ => rfl)) pa_nil))) (fun _ _ => rfl)) pa_nil)))) pss_nil)
      (pss_cons (ps_asg (pe_op op_add (pe_ix ix_list (pv 0) pe_int (fun _ _ => rfl)) pe_int) (pg_sub (pv 0) pe_int set_list))
      (pss_cons (ps_asg pe_int (pg_sub (pv 0) pe_int set_list))
      (pss_cons (ps_if (PW.pt (pw_and (pt_val (pv 4)) (pw_and1 (pt_cmpR op_ge (pv 3) (pe_op op_pow pe_int pe_int) (nomark _)))))
          (pss_cons (ps_asg (pe_op op_fdiv (pv 3) (pv 1)) (pg_sub (pv 0) pe_int set_list))
          (pss_one (ps_ret (pe_op op_mod (pe_callTy call_int1 (by rfl) B.int PyProof.Rows.boot_int (pa_cons (pv 3) pa_nil)) (pv 1))))) pss_nil)
      (pss_one (ps_ret (pe_op op_mod (pe_callTy call_int1 (by rfl) B.int PyProof.Rows.boot_int (pa_cons (pe_op op_fdiv (pe_cal C hr (by rfl) (pa_cons (pv 3) (pa_cons (pe_ix ix_list (pv 0) pe_int (fun _ _ => rfl)) pa_nil))) pe_int) pa_nil)) (pv 1))))))))))), ?_⟩
    obtain ⟨cs, gq, hcs⟩ := hP.gq
    obtain ⟨a, b, c, hp, ha, hb, hc⟩ := hP.at_
    have hzz : z < 2 ^ 30 := by omega
    refine ⟨.ref p, rfl, p, _, 3, .int c, rfl, rfl, sq_of hp, rfl, c, 1, rfl, rfl, .ref p, rfl, p, _, 3, 3, rfl, rfl, hp, rfl, ?_⟩
    have hpa : (upd H p (.lst ([V.ref q, .int a, .int b, .int c].set 3 (.int (c + 1))))) p = some (.lst [.ref q, .int a, .int b, .int (c + 1)]) := upd_same
    have hPa : Ex G (upd H p (.lst ([V.ref q, .int a, .int b, .int c].set 3 (.int (c + 1))))) := Ex.mut hP.ex hP.gp
    generalize upd H p (.lst ([V.ref q, .int a, .int b, .int c].set 3 (.int (c + 1)))) = H1 at *
    have hc1 : 0 ≤ c + 1 := by omega
    generalize c + 1 = c' at *
    have hq1 := hPa _ _ gq
    refine q_when (b := decide (z ≤ b)) (et_test (ev_op (r := rI0 fun i j => .bl (decide (j ≤ i))) (x := .int b) (y := .int z) (ev_op (ev_var rfl) ev_c (rv_ixL (K := K) (i := 2) (sq_of hpa) rfl)) (ev_var rfl) rv_I0)) (fun hbz H2 e2 => ?_) (fun hbz H2 e2 => ?_)
    · have hp2 := e2 _ _ hpa
      have m := modP b z hz
      refine ⟨.ref p, rfl, p, _, 2, .int b, rfl, rfl, sq_of hp2, rfl, .inl ⟨b, rfl, .int z, rfl, b, z, rfl, rfl, hz, ?_⟩⟩
      refine g_name ?_
      dsimp only
      refine ⟨.ref p, rfl, p, _, 2, .int b, rfl, rfl, sq_of hp2, rfl, .int z, rfl, b, z, rfl, rfl, ⟨hz, by omega⟩, .ref p, rfl, p, _, 2, 2, rfl, rfl, hp2, rfl, ?_⟩
      refine ⟨_, rfl, k _ _ ⟨Ex.mut (hPa.trans e2) hP.gp, hP.gp, hP.gq, _, _, _, upd_same, ha, ?_, hc1⟩ m.1 m.2⟩
      exact Int.ediv_nonneg hb (by omega)
    · have hp2 := e2 _ _ hpa
      have hq2 := e2 _ _ hq1
      have hP2 := hPa.trans e2
      refine q_c ?_
      refine q_asg (v := .bl (decide (a < (cs.length : Int)))) (by
        have z := ev_len (K := K) (ta := tOp (rIxL K) (tVar 0) (tC (.int 0))) (σ := [some (.ref p), some (.int z), none, some (.int 0), none]) (H := H2) (ev_op (ev_var rfl) ev_c (rv_ixL (K := K) (i := 0) (sq_of hp2) rfl)) (sq_of hq2)
        rw [List.length_map] at z
        exact ev_op (r := rI0 fun i j => .bl (decide (i < j))) (ev_op (ev_var rfl) ev_c (rv_ixL (K := K) (i := 1) (sq_of hp2) rfl)) z rv_I0) fun H3 e3 => ?_
      have hp3 := e3 _ _ hp2
      have hq3 := e3 _ _ hq2
      have hP3 := hP2.trans e3
      generalize decide (a < (cs.length : Int)) = fr
      change tCut _ _ _ [some (.ref p), some (.int z), none, some (.int 0), some (.bl fr)] H3
      refine q_cut (M := fun σ' H' => ∃ v : Int, 0 ≤ v ∧ σ' = [some (.ref p), some (.int z), none, some (.int v), some (.bl fr)] ∧ Ex H3 H') ?_ ?_
      · refine s_when (b := decide (0 < (cs.length : Int))) (et_test (by
          have z := ev_len (K := K) (ta := tOp (rIxL K) (tVar 0) (tC (.int 0))) (σ := [some (.ref p), some (.int z), none, some (.int 0), some (.bl fr)]) (H := H3) (ev_op (ev_var rfl) ev_c (rv_ixL (K := K) (i := 0) (sq_of hp3) rfl)) (sq_of hq3)
          rw [List.length_map] at z
          exact ev_op (r := rI0 fun i j => .bl (decide (j < i))) z ev_c rv_I0)) (fun h0 H4 e4 => ?_) (fun _ H4 e4 => ⟨0, by decide, rfl, e4⟩)
        have h0 := of_decide_eq_true h0
        have hp4 := e4 _ _ hp3
        have hq4 := e4 _ _ hq3
        have m := modP a (cs.length : Int) h0
        obtain ⟨j, hj⟩ : ∃ j : Nat, a % (cs.length : Int) = (j : Int) := ⟨(a % (cs.length : Int)).toNat, by omega⟩
        have hjl : j < cs.length := by omega
        have hcj : (cs.map V.int)[j]? = some (.int cs[j]) := by rw [List.getElem?_map, List.getElem?_eq_getElem hjl]; rfl
        generalize cs[j] = v at *
        refine ⟨.ref p, rfl, p, _, 0, .ref q, rfl, rfl, sq_of hp4, rfl, .ref p, rfl, p, _, 1, .int a, rfl, rfl, sq_of hp4, rfl, .inl ⟨a, rfl, .ref p, rfl, p, _, 0, .ref q, rfl, rfl, sq_of hp4, rfl, q, _, rfl, .inl (sq_of hq4), a, _, rfl, rfl, by rw [List.length_map]; exact h0, ?_⟩⟩
        rw [List.length_map]
        dsimp only
        rw [hj]
        refine ⟨q, _, (j : Int), .int v, rfl, rfl, sq_of hq4, atI_nat hcj, v, rfl, ?_⟩
        refine g_name ⟨_, ?_, rfl, e4⟩
        split <;> omega
      · rintro σ' H4 ⟨v, hv, rfl, e4⟩
        have hp4 := e4 _ _ hp3
        have hP4 := hP3.trans e4
        refine ⟨.ref p, rfl, p, _, 1, .int a, rfl, rfl, sq_of hp4, rfl, a, 1, rfl, rfl, .ref p, rfl, p, _, 1, 1, rfl, rfl, hp4, rfl, ?_⟩
        have hp5 : (upd H4 p (.lst ([V.ref q, .int a, .int b, .int c'].set 1 (.int (a + 1))))) p = some (.lst [.ref q, .int (a + 1), .int b, .int c']) := upd_same
        have hP5 : Ex G (upd H4 p (.lst ([V.ref q, .int a, .int b, .int c'].set 1 (.int (a + 1))))) := Ex.mut hP4 hP.gp
        generalize upd H4 p (.lst ([V.ref q, .int a, .int b, .int c'].set 1 (.int (a + 1)))) = H5 at *
        refine ⟨.ref p, rfl, p, _, 2, 2, rfl, rfl, hp5, rfl, ?_⟩
        have hp6 : (upd H5 p (.lst ([V.ref q, .int (a + 1), .int b, .int c'].set 2 (.int 0)))) p = some (.lst [.ref q, .int (a + 1), .int 0, .int c']) := upd_same
        have hP6 : Ex G (upd H5 p (.lst ([V.ref q, .int (a + 1), .int b, .int c'].set 2 (.int 0)))) := Ex.mut hP5 hP.gp
        generalize upd H5 p (.lst ([V.ref q, .int (a + 1), .int b, .int c'].set 2 (.int 0))) = H6 at *
        have ha1 : 0 ≤ a + 1 := by omega
        generalize a + 1 = a' at *
        refine q_when (b := fr && decide ((10 : Int) ^ (18 : Int).toNat ≤ v)) (et_and (et_B (ev_var rfl)) fun _ => et_test fun H7 e7 Q7 q7 => ⟨.int v, rfl, 10, 18, rfl, rfl, ⟨by decide, by decide, by decide⟩, v, _, rfl, rfl, q7 H7 (Ex.refl _)⟩) (fun _ H7 e7 => ?_) (fun _ H7 e7 => ?_)
        · have hp7 := e7 _ _ hp6
          have m := modP v z hz
          refine ⟨.int v, rfl, .int z, rfl, v, z, rfl, rfl, ⟨hz, by omega⟩, .ref p, rfl, p, _, 2, 2, rfl, rfl, hp7, rfl, ?_⟩
          refine ⟨.int v, rfl, .inl ⟨v, rfl, .int z, rfl, v, z, rfl, rfl, hz, k _ _ ⟨Ex.mut (hP6.trans e7) hP.gp, hP.gp, hP.gq, _, _, _, upd_same, ha1, Int.ediv_nonneg hv (by omega), hc1⟩ m.1 m.2⟩⟩
        · have hp7 := e7 _ _ hp6
          refine ⟨.int v, rfl, .ref p, rfl, p, _, 3, .int c', rfl, rfl, sq_of hp7, rfl, .int (mixI v c'), ⟨v, c', rfl, rfl⟩, fun H8 e8 => ?_⟩
          have m := modP (mixI v c' / 16) z hz
          refine ⟨_, 16, rfl, rfl, ⟨by decide, by decide⟩, .inl ⟨_, rfl, .int z, rfl, _, z, rfl, rfl, hz, k _ _ ⟨(hP6.trans e7).trans e8, hP.gp, hP.gq, _, _, _, e8 _ _ hp7, ha1, by decide, hc1⟩ m.1 m.2⟩⟩
/-- a draw, as a call -/
theorem ev_draw {G H : Hp} {p q : Addr} {z : Int} {Q : VK} (h : Pm G H p q) (hz : 0 < z) (hz2 : z ≤ 1000000000) (k : ∀ H' (i : Int), Pm G H' p q → Of1 p H H' → 0 ≤ i → i < z → Q (.int i) H') (E : XK) : spDraw [.ref p, .int z] H Q E :=
  ⟨Hd1 H p, p, q, z, rfl, h.hd, hz, hz2, fun H' i hP h0 h1 => k H' i (h.back hP) hP.off h0 h1⟩
end
end Wk


set_option Elab.async false
set_option linter.all false
set_option maxRecDepth 100000
set_option maxHeartbeats 2000000
namespace Wk
open L2 PySem PySem.Spec PyProof.Rows
section
variable {X : Cx}
/-- one entry more by a comprehension, in a dict of either kind of keys -/
theorem put_dp {ps : List (Addr × Obj)} {σ : L2.St} {H Hn : Hp} {s : Shared} {D : Addr} {y z : V} {u r : Value}
    {E : Value → Shared → Prop} {Q : Unit → Shared → Prop} (hu : X.A.units < cLine) (I : Inv X ps σ H s)
    (g : DPut H D y z Hn) (ry : L2.RelV y u) (rz : L2.RelV z r) (h : ∀ s', Inv X ps σ Hn s' → Q () s') :
    wpAny (model X.prog X.w) X.A (dictSet D u r) Q E s := by
  rcases g with ⟨kvs, k, e, rfl, l, rfl⟩ | ⟨kvs, k, b, e, rfl, eb, l, rfl⟩
  · exact d_dictSet I e l ry rz h
  · obtain rfl : u = Value.ref b := ry
    obtain ⟨z1, nd, xs, rel, dd⟩ := dt_of I.hok e
    have l1 := length_putK kvs k z
    refine wpAny_dictSet_heap (hsz := by rw [← Paired.length rel]; exact z1) hu (key_of I.hok eb) dd
      fun h1 d1 sb => h _ ?_
    obtain ⟨q, es, ep, hq, a1, a2, a3, _, a4⟩ := d1
    refine d_write I (by rw [e]; trivial) sb ⟨q, hq⟩ ⟨by omega, nd, _, (rel.put k eb rz).keeps ?_, q, es, ep, hq, a1, a2, a3, a4⟩
    intro c ys ec
    exact (upd_ne (ne_of ec e (by intro z; cases z))).trans ec
end
/-- what one item does: the target, the tests, then key, value and the entry -/
def dqStep (g : TG) (tt : TT) (tk tv : TE) (vs : List Nat) (D : Addr) (Nx : Hp → Prop) (σ : L2.St) (x : V) (H : Hp) : Prop :=
  g x (wipe σ vs) H fun σa Ha => wipe σa vs = wipe σ vs ∧ tt σa Ha fun b Hb =>
    if b = true then tk σa Hb fun y Hc => tv σa Hc fun z Hd => ∃ Hn, DPut Hd D y z Hn ∧ Nx Hn
    else Nx Hb
/-- the walk of such a comprehension by a measure -/
def dqWalk (J : It) (step : (Hp → Prop) → V → Hp → Prop) (Qs : Hp → Prop) (W : Nat → Nat → Hp → Prop) : Prop :=
  ∀ i m H, W i m H → (J.stop i H ∧ Qs H) ∨
    (J.go i H ∧ ∃ Nx : Hp → Prop, (∀ Ha, Nx Ha → ∃ k, k < m ∧ W (i + 1) k Ha) ∧ ∀ x Ha, J.yld i H x Ha → step Nx x Ha)
theorem dq_loop {Y : Cx} {σ : L2.St} {vs : List Nat} {R : Result → Shared → Prop} {J : It} {fp : List Addr} {it D : Addr}
    {tn : Nat → Heap → Prop} {kx vx tg iter : Expr} {ifs : List Expr} {scope : Scope} {pos : Pos} {g : TG} {tt : TT} {tk tv : TE}
    {W : Nat → Nat → Hp → Prop} {Qs : Hp → Prop} (hc : Y.calm = true) (hx : Y.xe = fun _ _ => False) (hu : Y.A.units < cLine)
    (T : Turn Y.prog Y.w Y.K tg J fp it tn) (pg : PG Y tg g) (pt : PTs Y ifs tt) (pk : PE Y kx tk) (pv : PE Y vx tv)
    (own : ∀ {σ' : L2.St} {H' : Hp} {s' : Shared}, Inv Y [] σ' H' s' → (∀ b ∈ fp, H' b = none) → ∀ b ∈ fp, FpOk Y [] H' b)
    (walk : dqWalk J (fun Nx x H => dqStep g tt tk tv vs D Nx σ x H) Qs W)
    (last : ∀ H s, Inv Y [] (wipe σ vs) H s → Qs H → R (.ok .next) s)
    {m : Nat} {H : Hp} {s : Shared} (I : Inv Y [] (wipe σ vs) H s) (st : tn 0 s.heap) (nf : ∀ b ∈ fp, H b = none) (w : W 0 m H) :
    codeAny (model Y.prog Y.w) Y.A
      (.compLoop (.DictComp kx vx [⟨tg, iter, ifs, 0⟩] scope pos) 0 (.ref it) (.ref D) Y.env) R s := by
  refine compLoop_anyD (fun k s1 => ∃ i H1, Inv Y [] (wipe σ vs) H1 s1 ∧ tn i s1.heap ∧ (∀ b ∈ fp, H1 b = none) ∧ W i k H1)
    (fun k s1 hk => ?_) m ⟨0, H, I, st, nf, w⟩
  obtain ⟨i, H1, I1, st1, nf1, w1⟩ := hk
  cases walk i k H1 w1 with
  | inl e =>
    refine thnF (T.done Y rfl rfl rfl hc i [] s1 _ H1 (fun _ _ => False) I1 (own I1 nf1) st1 e.1) ?_
    rintro _ s2 ⟨rfl, I2⟩
    exact last H1 s2 I2 e.2
  | inr e =>
    obtain ⟨go, Nx, less, step⟩ := e
    refine thnF (T.item Y rfl rfl rfl hc i [] s1 _ H1 (fun _ _ => False) I1 (own I1 nf1) st1 go) ?_
    rintro _ s2 ⟨u, rfl, it2⟩
    refine thnF it2 ?_
    rintro _ s3 ⟨x, H3, I3, rx, yx, st3, nf3⟩
    have pin := I3.pinned (own I3 nf3) (T.obj _ _ st3)
    have t1 := pg.run _ s3 _ H3 x u _ pin rx (step x H3 yx)
    rw [hx] at t1
    refine thnF t1 ?_
    rintro _ s4 ⟨σ4, H4, I4, ew, q4⟩
    have back : ∀ {s9 : Shared} {H9 : Hp}, Inv Y ([] ++ pinsAt fp s3.heap) σ4 H9 s9 → Nx H9 →
        ∃ j, j < k ∧ ∃ i' H', Inv Y [] (wipe σ vs) H' s9 ∧ tn i' s9.heap ∧ (∀ b ∈ fp, H' b = none) ∧ W i' j H' := by
      intro s9 H9 I9 nx
      obtain ⟨j, lt, wj⟩ := less H9 nx
      have same : ∀ b ∈ fp, ∀ o, s3.heap.get? b = some o → s9.heap.get? b = some o ∧ H9 b = none := by
        intro b hb o eo
        have a := I9.pin (b, o) (List.mem_append_right _ (List.mem_append_right _ (mem_pinsAt hb eo)))
        exact ⟨a.1, a.2.1⟩
      refine ⟨j, lt, i + 1, H9, ?_, T.keep _ _ _ st3 fun b hb o eo => (same b hb o eo).1, ?_, wj⟩
      · refine (I9.unpinned (pins := [])).weak (by rw [← ew, wipe_length]) ?_
        intro n v en
        rw [← ew] at en
        exact (wipe_some en).1
      · intro b hb
        obtain ⟨o, eo, _⟩ := T.obj _ _ st3 b hb
        exact (same b hb o eo).2
    have t2 := pt.run _ s4 σ4 H4 _ I4 q4
    rw [hx] at t2
    refine thnF t2 ?_
    rintro b s5 ⟨H5, I5, q5⟩
    cases b with
    | false => exact back I5 q5
    | true =>
      have t3 := pk.run _ s5 σ4 H5 _ I5 q5
      rw [hx] at t3
      refine thnF t3 ?_
      rintro ky s6 ⟨y, H6, I6, ry, q6⟩
      have t4 := pv.run _ s6 σ4 H6 _ I6 q6
      rw [hx] at t4
      refine thnF t4 ?_
      rintro vy s7 ⟨z, H7, I7, rz, Hn, put, nx⟩
      exact put_dp hu I7 put ry rz fun s8 I8 => back I8 nx
/-- {k: v for .. in .. if ..}, keys tuples -/
def tDq (wi : TI) (g : TG) (tt : TT) (tk tv : TE) (vs : List Nat) : TE := fun σ H Q => wi σ H fun J H1 => ∀ D, H1 D = none →
  ∃ W : Nat → Nat → Hp → Prop, (∃ m, W 0 m (upd H1 D (.dT []))) ∧
    dqWalk J (fun Nx x Ha => dqStep g tt tk tv vs D Nx σ x Ha) (fun Ha => Q (.ref D) Ha) W
/-- the context of the block -/
abbrev Bq (X : Cx) (scope : Scope) (s : Shared) (H : Hp) (C : Addr) (cl : List (Str × Addr)) (fp : List Addr) : Cx :=
  X.blk s H scope (compEnvC scope cl C X.env) fp
theorem pe_dq {X : Cx} {kx vx tg iter : Expr} {ifs : List Expr} {scope : Scope} {own : List (Str × Nat)} {pos : Pos}
    {wi : TI} {g : TG} {tt : TT} {tk tv : TE} (hc : X.calm = true) (hu : X.A.units + 1 < cLine) (hN : X.N.Nodup)
    (hi : PI X tg iter wi) (ok : BlkOk X.N X.env.scope scope own) (hg : ∀ s H C cl fp, PG (Bq X scope s H C cl fp) tg g)
    (ht : ∀ s H C cl fp, PTs (Bq X scope s H C cl fp) ifs tt) (hk : ∀ s H C cl fp, PE (Bq X scope s H C cl fp) kx tk)
    (he : ∀ s H C cl fp, PE (Bq X scope s H C cl fp) vx tv) (hs : ∀ x, foldedSetIterable iter X.env x = pure x := by intro _; rfl) :
    PE X (.DictComp kx vx [⟨tg, iter, ifs, 0⟩] scope pos) (tDq wi g tt tk tv (own.map (·.2))) := by
  constructor
  intro ps s σ H Q I h
  rw [arm_eval_DictComp]
  have look : ∀ y ∈ scope.names, y.2 = .free → ∃ c, X.env.cells.lookup y.1 = some c := by
    intro y hy e
    exact I.ok.has _ (ok.free y hy e)
  refine wpAny_comprehension_free (use := none) rfl hs (closure_ok look) ok.kind (fun y hy e => (ok.uniq y hy).trans (by rw [e])) ?_
  refine thn (hi.run ps s σ H _ I h) ?_
  intro xv s1 h1
  refine thn h1 ?_
  rintro _ s2 ⟨it, fp, tn, J, H2, rfl, I2, T, st2, f2, q⟩
  refine wpAny_newObj_type ?_
  refine newEnv_comp ?_
  obtain ⟨D, hD⟩ : ∃ D, D = s2.heap.objs.size := ⟨_, rfl⟩
  rw [← hD]
  obtain ⟨W, ⟨m0, w0⟩, walk⟩ := q D (I2.hok.fresh (Nat.le_of_eq hD.symm))
  obtain ⟨s3, e3⟩ : ∃ s3 : Shared, s3 = { s2 with heap := s2.heap.push { cls := .type "dict", data := .dict #[] } } := ⟨_, rfl⟩
  have g3 : ∀ b o, s2.heap.get? b = some o → s3.heap.get? b = some o := by
    intro b o e
    rw [e3]
    exact Heap.get?_push_of_some _ (by exact e)
  have I3 : Inv X ps σ (upd H2 D (.dT [])) s3 := by
    rw [e3, hD]
    exact I2.laid (t' := s2.toks) (fun b o e => Heap.get?_push_of_some _ e) (Nat.le_refl _) (dt_empty s2.heap I2.big)
  rw [← e3]
  obtain ⟨H3, eH3⟩ : ∃ H3, H3 = upd H2 D (.dT []) := ⟨_, rfl⟩
  rw [← eH3] at I3 w0
  have f3 : ∀ b ∈ fp, FpOk X ps H3 b ∧ b < s3.heap.objs.size := by
    intro b hb
    obtain ⟨o, e, _⟩ := T.obj 0 _ st2 b hb
    refine ⟨⟨?_, (f2 b hb).2⟩, Heap.lt_size (g3 b o e)⟩
    rw [eH3, upd_ne (by rw [hD]; exact Nat.ne_of_lt (Heap.lt_size e))]
    exact (f2 b hb).1
  have st3 : tn 0 s3.heap := T.keep _ _ _ st2 fun b _ o e => g3 b o e
  have Ib := block_start I3 ok hN f3
  obtain ⟨C, hC⟩ : ∃ C, C = s3.heap.objs.size := ⟨_, rfl⟩
  rw [← hC] at Ib ⊢
  obtain ⟨cl, ecl⟩ : ∃ cl, cl = cellsFrom (C + 1) scope.names (cloFrom X.env.cells scope.names []) := ⟨_, rfl⟩
  rw [← ecl] at Ib ⊢
  have st4 : tn 0 (pushCells (s3.heap.push { cls := .type "dict", data := .dict #[] }) scope.names) := T.keep _ _ _ st3 fun b _ o e =>
    pushCells_keeps _ _ _ _ (Heap.get?_push_of_some _ e)
  have loop : codeAny (model X.prog X.w) X.A
      (.compLoop (.DictComp kx vx [⟨tg, iter, ifs, 0⟩] scope pos) 0 (.ref it) (.ref D) (compEnvC scope cl C X.env))
      (compPost (model X.prog X.w) X.A X.xe none (EP X ps σ Q) (.ref D) C)
      { s3 with heap := pushCells (s3.heap.push { cls := .type "dict", data := .dict #[] }) scope.names } := by
    refine dq_loop (Y := Bq X scope s3 H3 C cl fp) (σ := σ) hc rfl (Nat.lt_of_succ_lt hu) T (hg s3 H3 C cl fp)
      (ht s3 H3 C cl fp) (hk s3 H3 C cl fp) (he s3 H3 C cl fp) ?_ walk ?_ Ib st4 (fun b hb => (f3 b hb).1.1) w0
    · intro σ' H' s' I' nf b hb
      refine ⟨nf b hb, (I'.ok.exf b hb).1, I'.ok.exfs b hb, .inl hb, fun x c e => (I'.ok.exf b hb).2 x c e, ?_⟩
      intro p hp
      exact absurd (show p ∈ ([] : List (Addr × Obj)) ++ [] from hp) (by simp)
    · intro H6 s6 I6 q6
      have I7 : Inv X ps σ H6 s6 := by
        refine I3.call' (ch := fp) I6.os I6.base I6.hok I6.bare ?_
        intro b hb
        obtain ⟨_, n1, _, n2, n3, n4⟩ := (f3 b hb).1
        exact ⟨n2, n1, n3, n4⟩
      obtain ⟨m, hn, _⟩ := I6.loc
      refine ⟨m, hn, fun h' sb => ?_⟩
      obtain ⟨n0, n1, n2, n3, n4, n5⟩ := I3.fpOk (b := C) (Nat.le_of_eq hC.symm) (show H6 C = none from I6.free)
      refine ⟨.ref D, H6, ?_, rfl, q6⟩
      exact I7.turned (t' := s6.toks) (fun b o hb e => (sb.2 b hb).trans e) n0 n1 n3 n4 n5
  exact codeAny_compStart_dict loop (T.self _ 0 _ _ _ st4 loop)
end Wk

set_option Elab.async false
set_option linter.all false
set_option maxRecDepth 100000
set_option maxHeartbeats 2000000
namespace Wk
open L2 PySem PySem.Spec PyProof.Rows Evl
/-- the items that a comprehension has put, item j of the source by Y j -/
def Grown (Y : Nat → V → Hp → Prop) (H : Hp) : List Nat → List V → Prop
  | [], us => us = []
  | j :: js, us => ∃ u r, us = u :: r ∧ Y j u H ∧ Grown Y H js r
def UpY (Y : Nat → V → Hp → Prop) : Prop := ∀ i u H H', Ex H H' → Y i u H → Y i u H'
theorem Grown.up {Y : Nat → V → Hp → Prop} (hY : UpY Y) {H H' : Hp} (e : Ex H H') : ∀ {js : List Nat} {us : List V}, Grown Y H js us → Grown Y H' js us
  | [], _, h => h
  | j :: js, _, ⟨u, r, h1, h2, h3⟩ => ⟨u, r, h1, hY j u H H' e h2, Grown.up hY e h3⟩
theorem Grown.snoc {Y : Nat → V → Hp → Prop} {H : Hp} {j : Nat} {u : V} (h : Y j u H) : ∀ {js : List Nat} {us : List V}, Grown Y H js us → Grown Y H (js ++ [j]) (us ++ [u])
  | [], _, h0 => by
    rw [show _ = [] from h0]
    exact ⟨u, [], rfl, h, rfl⟩
  | k :: js, _, ⟨v, r, h1, h2, h3⟩ => by
    subst h1
    exact ⟨v, r ++ [u], rfl, h2, Grown.snoc h h3⟩
theorem Grown.len {Y : Nat → V → Hp → Prop} {H : Hp} : ∀ {js : List Nat} {us : List V}, Grown Y H js us → us.length = js.length
  | [], _, h0 => by
    rw [show _ = [] from h0]
    rfl
  | k :: js, _, ⟨v, r, h1, h2, h3⟩ => by
    subst h1
    simp [Grown.len h3]
def upTo (f : Nat → Bool) (i : Nat) : List Nat := (List.range i).filter f
theorem upTo_yes {f : Nat → Bool} {i : Nat} (h : f i = true) : upTo f (i + 1) = upTo f i ++ [i] := by
  unfold upTo
  rw [List.range_succ, List.filter_append]
  simp [h]
theorem upTo_no {f : Nat → Bool} {i : Nat} (h : f i = false) : upTo f (i + 1) = upTo f i := by
  unfold upTo
  rw [List.range_succ, List.filter_append]
  simp [h]
theorem upTo_len (f : Nat → Bool) (i : Nat) : (upTo f i).length ≤ i := by
  unfold upTo
  have h := List.length_filter_le f (List.range i)
  rw [List.length_range] at h
  exact h
/-- what is evaluated is told by Y, the heap may grow -/
def EvY (te : TE) (σ : L2.St) (H : Hp) (Y : V → Hp → Prop) : Prop := ∀ H1, Ex H H1 → ∀ Q : VK, (∀ u H2, Ex H1 H2 → Y u H2 → Q u H2) → te σ H1 Q
def off (D : Addr) (H : Hp) : Hp := fun a => if a = D then none else H a
theorem off_ex {D : Addr} {H H' : Hp} (e : Ex H H') : Ex (off D H) (off D H') := fun a o h => by
  unfold off at h ⊢
  by_cases z : a = D
  · rw [if_pos z] at h
    cases h
  · rw [if_neg z] at h ⊢
    exact e a o h
theorem off_in (D : Addr) (H : Hp) : Ex (off D H) H := fun a o h => by
  unfold off at h
  split at h
  · cases h
  · exact h
theorem off_upd {D : Addr} {H : Hp} {o : HO} : off D (upd H D o) = off D H := by
  funext a
  unfold off upd
  split <;> rfl
theorem off_at {D a : Addr} {H : Hp} (h : a ≠ D) : off D H a = H a := by
  unfold off
  rw [if_neg h]
/-- a word of an item that outlives new objects and does not speak of lists -/
structure GoodY (Y : Nat → V → Hp → Prop) : Prop where
  up : UpY Y
  off : ∀ i u H D l, H D = some (.lst l) → Y i u H → Y i u (Wk.off D H)
def Gw (Y : Nat → V → Hp → Prop) (H : Hp) (f : Nat → Bool) (D : Addr) (i : Nat) (H' : Hp) : Prop :=
  H D = none ∧ Ex H H' ∧ ∃ us, H' D = some (.lst us) ∧ Grown Y (off D H') (upTo f i) us
theorem gw_turn {Y : Nat → V → Hp → Prop} (hY : GoodY Y) {H H' : Hp} {f : Nat → Bool} {D : Addr} {i : Nat} {t : TT} {te : TE} {σ2 : L2.St} (p : Gw Y H f D i H') (hi : i < 50000)
    (ht : EvT t σ2 H' (f i)) (he : f i = true → EvY te σ2 H' (Y i)) :
    t σ2 H' fun b H3 => if b = true then te σ2 H3 fun y H4 => ∃ acc, H4 D = some (.lst acc) ∧ acc.length < sizeLine ∧ Gw Y H f D (i + 1) (upd H4 D (.lst (acc ++ [y])))
      else Gw Y H f D (i + 1) H3 := by
  obtain ⟨p1, p2, us, p3, p4⟩ := p
  refine ht H' (Ex.refl _) _ fun H3 e3 => ?_
  cases hf : f i with
  | false =>
    refine ⟨p1, p2.trans e3, us, e3 _ _ p3, ?_⟩
    rw [upTo_no hf]
    exact p4.up hY.up (off_ex e3)
  | true =>
    refine he hf H3 e3 _ fun u H4 e4 y => ?_
    have d4 := e4 _ _ (e3 _ _ p3)
    have l1 := p4.len
    have l2 := upTo_len f i
    refine ⟨us, d4, sz_lt (by omega), p1, Ex.mut ((p2.trans e3).trans e4) p1, us ++ [u], upd_same, ?_⟩
    rw [upTo_yes hf, off_upd]
    exact Grown.snoc (hY.off i u H4 D us d4 y) (p4.up hY.up (off_ex (e3.trans e4)))
/-- a list comprehension whose items may be new objects -/
theorem grow_lc {J : It} {n : Nat} {Gd : Hp → Prop} {Yx : Nat → V → Prop} {Y : Nat → V → Hp → Prop} {j : Nat} {vs : List Nat} {σ : L2.St} {H : Hp} {D : Addr} {Qd : Hp → Prop} {t : TT} {te : TE}
    (w : Walk J n Gd (fun i H x H' => H' = H ∧ Yx i x)) (hY : GoodY Y) (f : Nat → Bool) (hD : H D = none) (hn : n ≤ 40000) (hG : ∀ H', Ex H H' → Gd H') (hw : ∀ x, wipe ((wipe σ vs).set j (some x)) vs = wipe σ vs)
    (ht : ∀ i x H', Ex H H' → i < n → Yx i x → EvT t ((wipe σ vs).set j (some x)) H' (f i)) (he : ∀ i x H', Ex H H' → i < n → Yx i x → f i = true → EvY te ((wipe σ vs).set j (some x)) H' (Y i))
    (hq : ∀ us H', Ex H H' → H' D = some (.lst us) → Grown Y H' (upTo f n) us → Qd H') :
    ∃ W : Nat → Nat → Hp → Prop, (∃ m, W 0 m (upd H D (.lst []))) ∧ ∀ i m H, W i m H →
      (J.stop i H ∧ Qd H) ∨ (J.go i H ∧ ∃ Nx : Hp → Prop, (∀ H', Nx H' → ∃ m', m' < m ∧ W (i + 1) m' H') ∧ ∀ x H', J.yld i H x H' → gName j x (wipe σ vs) H' fun σ2 H2 => wipe σ2 vs = wipe σ vs ∧ t σ2 H2 fun b H3 =>
        if b = true then te σ2 H3 fun y H4 => ∃ acc, H4 D = some (.lst acc) ∧ acc.length < sizeLine ∧ Nx (upd H4 D (.lst (acc ++ [y]))) else Nx H3) := by
  refine lc_it w (Gw Y H f D) ⟨hD, Ex.new hD, [], upd_same, rfl⟩ (fun i H' _ p => hG H' p.2.1) (fun i x H' H2 hi p y => ?_) (fun H' p => ?_)
  · obtain ⟨rfl, yx⟩ := y
    exact ⟨hw x, gw_turn hY p (by omega) (ht i x _ p.2.1 hi yx) (fun hf => he i x _ p.2.1 hi yx hf)⟩
  · obtain ⟨_, e, us, d, g⟩ := p
    exact hq us H' e d (g.up hY.up (off_in D H'))
/-- the keys of a dict are the first i of k, each with True -/
def KHas (k : Nat → List L2.Key) (i : Nat) (kvs : List (List L2.Key × V)) : Prop :=
  ∀ q, (valV kvs q = some (V.bl true) ∧ ∃ j, j < i ∧ k j = q) ∨ (valV kvs q = none ∧ ∀ j, j < i → k j ≠ q)
/-- the keys that a comprehension has put -/
def Kw (k : Nat → List L2.Key) (H : Hp) (D : Addr) (i : Nat) (H' : Hp) : Prop :=
  H D = none ∧ Ex H H' ∧ ∃ kvs, H' D = some (.dT kvs) ∧ kvs.length ≤ i ∧ KHas k i kvs
/-- {x: True for x in ..}, of tuples of whole numbers or texts -/
theorem grow_dq {J : It} {n : Nat} {Gd : Hp → Prop} {Yx : Nat → V → Prop} {k : Nat → List L2.Key} {j : Nat} {vs : List Nat} {σ : L2.St} {H : Hp} {D : Addr} {Qd : Hp → Prop} {tk tv : TE}
    (w : Walk J n Gd (fun i H x H' => H' = H ∧ Yx i x)) (hD : H D = none) (hn : n ≤ 40000) (hG : ∀ H', Ex H H' → Gd H') (hw : ∀ x, wipe ((wipe σ vs).set j (some x)) vs = wipe σ vs)
    (hk : ∀ i x H', Ex H H' → i < n → Yx i x → EvY tk ((wipe σ vs).set j (some x)) H' (fun u H2 => ∃ b, u = .ref b ∧ H2 b = some (.tup ((k i).map kV))))
    (hv : ∀ i x H', Ex H H' → i < n → Yx i x → Ev tv ((wipe σ vs).set j (some x)) H' (.bl true))
    (hq : ∀ kvs H', Ex H H' → H' D = some (.dT kvs) → KHas k n kvs → Qd H') :
    ∃ W : Nat → Nat → Hp → Prop, (∃ m, W 0 m (upd H D (.dT []))) ∧ dqWalk J (fun Nx x Ha => dqStep (gName j) tYes tk tv vs D Nx σ x Ha) Qd W := by
  refine ⟨fun i m H' => m = n - i ∧ i ≤ n ∧ Kw k H D i H', ⟨n, by simp, Nat.zero_le _, hD, Ex.new hD, [], upd_same, Nat.le_refl _, fun q => .inr ⟨rfl, fun j hj => absurd hj (Nat.not_lt_zero _)⟩⟩, ?_⟩
  rintro i m H1 ⟨rfl, hi, p1, p2, kvs, p3, p4, p5⟩
  by_cases lt : i < n
  · refine .inr ⟨w.goes i H1 lt (hG H1 p2), Kw k H D (i + 1), fun Ha q => ⟨n - (i + 1), by omega, rfl, lt, q⟩, fun x Ha y => ?_⟩
    obtain ⟨rfl, yx⟩ := w.yields i H1 x Ha lt (hG H1 p2) y
    refine ⟨hw x, ?_⟩
    show tk _ _ _
    refine hk i x _ p2 lt yx _ (Ex.refl _) _ fun u H2 e2 hu => ?_
    obtain ⟨b, rfl, hb⟩ := hu
    refine hv i x _ p2 lt yx H2 e2 _ fun H3 e3 => ?_
    have d3 := e3 _ _ (e2 _ _ p3)
    refine ⟨_, DPut.t d3 (e3 _ _ hb) (sz_lt (by omega)), p1, Ex.mut ((p2.trans e2).trans e3) p1, _, upd_same, ?_, fun q => ?_⟩
    · have := length_putK kvs (k i) (V.bl true)
      omega
    · rw [valV_put]
      by_cases e : q = k i
      · rw [if_pos e]
        exact .inl ⟨rfl, i, Nat.lt_succ_self i, e.symm⟩
      · rw [if_neg e]
        rcases p5 q with ⟨z, j', h1, h2⟩ | ⟨z, h2⟩
        · exact .inl ⟨z, j', by omega, h2⟩
        · refine .inr ⟨z, fun j' hj => ?_⟩
          rcases Nat.lt_succ_iff_lt_or_eq.mp hj with h3 | h3
          · exact h2 j' h3
          · subst h3
            exact fun z2 => e z2.symm
  · have e : i = n := by omega
    subst e
    exact .inl ⟨w.stops H1 (hG H1 p2), hq kvs H1 p2 p3 p5⟩
end Wk

set_option Elab.async false
set_option linter.all false
set_option maxRecDepth 100000
set_option maxHeartbeats 2000000
namespace Wk
open PySem PySem.Spec PyProof.Rows L2 Evl
theorem lay_ints : ∀ ns : List Int, PyData.canLayAll0 (ns.map PyData.int) = true
  | [] => by simp [PyData.canLayAll0]
  | n :: ns => by
    have h := lay_ints ns
    simp [PyData.canLayAll0, PyData.canLay0, h]
theorem depth_ints : ∀ ns : List Int, PyData.depthAll (ns.map PyData.int) = 0
  | [] => by simp [PyData.depthAll]
  | n :: ns => by
    have h := depth_ints ns
    simp [PyData.depthAll, PyData.depth, h]
theorem shaped_ints (ns : List Int) : SeqAt.shaped (.tuple (ns.map PyData.int)) = true := by
  unfold SeqAt.shaped
  have h1 := lay_ints ns
  have h2 := depth_ints ns
  simp [PyData.canLay0, PyData.depth, h1, h2]
theorem layAll : ∀ {ds : List PyData}, PyData.canLayAll0 ds = true ↔ ∀ d ∈ ds, d.canLay0 = true
  | [] => by simp [PyData.canLayAll0]
  | d :: ds => by
    have ih := layAll (ds := ds)
    simp [PyData.canLayAll0, ih]
theorem depAll {k : Nat} : ∀ {ds : List PyData}, PyData.depthAll ds ≤ k ↔ ∀ d ∈ ds, d.depth ≤ k
  | [] => by simp [PyData.depthAll]
  | d :: ds => by
    have ih := depAll (k := k) (ds := ds)
    simp only [PyData.depthAll, List.mem_cons, forall_eq_or_imp, ← ih]
    omega
theorem nd_snoc {α : Type} {l : List α} {x : α} (h : l.Nodup) (hx : x ∉ l) : (l ++ [x]).Nodup := by
  unfold List.Nodup
  rw [List.pairwise_append]
  refine ⟨h, List.pairwise_singleton _ _, fun a ha b hb => ?_⟩
  rw [List.mem_singleton] at hb
  intro e
  rw [← hb, ← e] at hx
  exact hx ha
theorem eraseIdx_mp {α β : Type} (f : α → β) : ∀ (l : List α) (k : Nat), (l.map f).eraseIdx k = (l.eraseIdx k).map f
  | [], _ => rfl
  | _ :: _, 0 => rfl
  | x :: l, k + 1 => by
    show f x :: (l.map f).eraseIdx k = f x :: (l.eraseIdx k).map f
    rw [eraseIdx_mp f l k]
theorem eqv_ints : ∀ a b : List Int, PyData.eqvAll (a.map PyData.int) (b.map PyData.int) = decide (a = b)
  | [], [] => by simp [PyData.eqvAll]
  | [], _ :: _ => by simp [PyData.eqvAll]
  | _ :: _, [] => by simp [PyData.eqvAll]
  | x :: a, y :: b => by
    have ih := eqv_ints a b
    simp only [List.map_cons, PyData.eqvAll, PyData.eqv, ih]
    by_cases h : x = y
    · subst h; simp
    · have : (x == y) = false := by simpa using h
      simp [this, h]
theorem inV_ints (x : Int) : ∀ ns : List Int, inV (.int x) (ns.map V.int) = decide (x ∈ ns)
  | [] => rfl
  | n :: ns => by
    have ih := inV_ints x ns
    unfold inV at *
    rw [List.map_cons, List.any_cons, ih]
    show ((n == x) || _) = _
    by_cases h : n = x
    · subst h; simp
    · have : (n == x) = false := by simpa using h
      rw [this]
      simp [Ne.symm h]
abbrev Wy := List Int
def wd (w : Wy) : PyData := .tuple (w.map PyData.int)
theorem eqv_wd (a b : Wy) : PyData.eqv (wd a) (wd b) = decide (a = b) := eqv_ints a b
theorem wd_ref {G : Hp} {v : V} {w : Wy} (h : Dq G v (wd w)) : ∃ a, v = .ref a ∧ G a = some (.tup (w.map V.int)) := by
  unfold wd at h
  cases h with
  | tup h1 h2 => exact ⟨_, rfl, by rw [h1, h2.int_inv]⟩
theorem wd_of {G : Hp} {a : Addr} {w : Wy} (h : G a = some (.tup (w.map V.int))) : Dq G (.ref a) (wd w) := .tup h (DqA.ints w)
theorem lay_wds (ws : List Wy) : PyData.canLayAll0 (ws.map wd) = true := layAll.mpr fun d hd => by
  obtain ⟨w, _, rfl⟩ := List.mem_map.mp hd
  simp [wd, PyData.canLay0, lay_ints]
theorem dep_wds (ws : List Wy) : PyData.depthAll (ws.map wd) ≤ 1 := depAll.mpr fun d hd => by
  obtain ⟨w, _, rfl⟩ := List.mem_map.mp hd
  simp [wd, PyData.depth, depth_ints]
theorem shaped_wds (ws : List Wy) : SeqAt.shaped (.list (ws.map wd)) = true := by
  unfold SeqAt.shaped
  have h1 := lay_wds ws
  have h2 := dep_wds ws
  have : decide ((PyData.list (ws.map wd)).depth ≤ 64) = true := decide_eq_true (by simp only [PyData.depth]; omega)
  rw [this]
  simp [PyData.canLay0, h1]
theorem any_wd (ws : List Wy) (x : Wy) : ((ws.map wd).any fun z => PyData.eqv z (wd x)) = decide (x ∈ ws) := by
  induction ws with
  | nil => rfl
  | cons a l ih =>
    rw [List.map_cons, List.any_cons, ih, eqv_wd]
    by_cases h : a = x
    · subst h; simp
    · rw [decide_eq_false h, Bool.false_or, decide_eq_decide]
      constructor
      · exact fun z => List.mem_cons_of_mem _ z
      · intro z
        rcases List.mem_cons.mp z with e | e
        · exact absurd e.symm h
        · exact e
theorem DqA.wds_inv {G : Hp} {ws : List Wy} {vs : List V} {i : Nat} {v : V} (h : DqA G vs (ws.map wd)) (e : vs[i]? = some v) : ∃ w, ws[i]? = some w ∧ Dq G v (wd w) := by
  obtain ⟨d, e1, e2⟩ := h.get e
  rw [List.getElem?_map] at e1
  cases hw : ws[i]? with
  | none => rw [hw] at e1; cases e1
  | some w =>
    rw [hw] at e1
    cases e1
    exact ⟨w, rfl, e2⟩
theorem DqA.set {G : Hp} {v : V} {d : PyData} (hv : Dq G v d) : ∀ {ds : List PyData} {vs : List V} (i : Nat), DqA G vs ds → DqA G (vs.set i v) (ds.set i d)
  | [], _, i, .nil => by simp; exact .nil
  | _ :: _, _, 0, .cons h t => .cons hv t
  | _ :: _, _, i + 1, .cons h t => .cons h (DqA.set hv i t)
theorem DqA.erase {G : Hp} : ∀ {ds : List PyData} {vs : List V} (i : Nat), DqA G vs ds → DqA G (vs.eraseIdx i) (ds.eraseIdx i)
  | [], _, i, .nil => by simp; exact .nil
  | _ :: _, _, 0, .cons h t => t
  | _ :: _, _, i + 1, .cons h t => .cons h (DqA.erase i t)
theorem DqA.perm {G : Hp} {us ys : List V} (h : ys.Perm us) : ∀ {ds : List PyData}, DqA G us ds → ∃ es, es.Perm ds ∧ DqA G ys es := by
  induction h with
  | nil => exact fun h => ⟨_, .refl _, h⟩
  | cons x h ih =>
    intro ds hd
    cases hd with
    | cons hv t =>
      obtain ⟨es, h1, h2⟩ := ih t
      exact ⟨_, h1.cons _, .cons hv h2⟩
  | swap x y l =>
    intro ds hd
    cases hd with
    | cons hx t =>
      cases t with
      | cons hy t => exact ⟨_, .swap _ _ _, .cons hy (.cons hx t)⟩
  | trans h1 h2 ih1 ih2 =>
    intro ds hd
    obtain ⟨es, a, b⟩ := ih2 hd
    obtain ⟨es2, c, d⟩ := ih1 b
    exact ⟨es2, c.trans a, d⟩
def wi (d : PyData) : Wy := (itemsT d).map valI
theorem wi_wd (w : Wy) : wi (wd w) = w := by
  show (w.map PyData.int).map valI = w
  rw [List.map_map]
  exact List.map_id w
theorem perm_wds {es : List PyData} {ws : List Wy} (h : es.Perm (ws.map wd)) : ∃ ws' : List Wy, ws'.Perm ws ∧ es = ws'.map wd := by
  refine ⟨es.map wi, ?_, ?_⟩
  · have z := h.map wi
    rw [List.map_map, show (wi ∘ wd) = id from funext wi_wd, List.map_id] at z
    exact z
  · rw [List.map_map]
    refine ((List.map_congr_left fun d hd => ?_).trans (List.map_id es)).symm
    obtain ⟨w, _, rfl⟩ := List.mem_map.mp (h.mem_iff.mp hd)
    show wd (wi (wd w)) = _
    rw [wi_wd]
    rfl
def TupY (z : Nat → List V) : Nat → V → Hp → Prop := fun i u H => ∃ b, u = .ref b ∧ H b = some (.tup (z i))
theorem tupY_good (z : Nat → List V) : GoodY (TupY z) := by
  refine ⟨fun i u H H' e h => ?_, fun i u H D l hD h => ?_⟩
  · obtain ⟨b, h1, h2⟩ := h
    exact ⟨b, h1, e _ _ h2⟩
  · obtain ⟨b, h1, h2⟩ := h
    refine ⟨b, h1, (off_at ?_).trans h2⟩
    intro hb
    rw [hb, hD] at h2
    cases h2
theorem grown_ks {z : Nat → Wy} {H : Hp} : ∀ {js : List Nat} {us : List V}, Grown (TupY fun i => (z i).map V.int) H js us → ∃ ks : List (Addr × List Int), us = (ks.map fun p => V.ref p.1) ∧ ks.map (·.2) = js.map z ∧
    ∀ p ∈ ks, H p.1 = some (.tup (p.2.map V.int))
  | [], us, h => ⟨[], h, rfl, fun p hp => by cases hp⟩
  | j :: js, us, ⟨u, r, h1, ⟨b, h2, h3⟩, h4⟩ => by
    obtain ⟨ks, k1, k2, k3⟩ := grown_ks h4
    subst h1 h2
    refine ⟨(b, z j) :: ks, by rw [k1]; rfl, by rw [List.map_cons, k2]; rfl, ?_⟩
    intro p hp
    rcases List.mem_cons.mp hp with e | e
    · subst e
      exact h3
    · exact k3 p e
theorem ks_wds {H : Hp} : ∀ {ks : List (Addr × List Int)}, (∀ p ∈ ks, H p.1 = some (.tup (p.2.map V.int))) → DqA H (ks.map fun p => V.ref p.1) ((ks.map (·.2)).map wd)
  | [], _ => .nil
  | p :: ks, h => .cons (wd_of (h p List.mem_cons_self)) (ks_wds fun q hq => h q (List.mem_cons_of_mem _ hq))
theorem wds_ks {H : Hp} : ∀ {ws : List Wy} {us : List V}, DqA H us (ws.map wd) → ∃ ks : List (Addr × List Int), us = (ks.map fun p => V.ref p.1) ∧ ks.map (·.2) = ws ∧ ∀ p ∈ ks, H p.1 = some (.tup (p.2.map V.int))
  | [], us, h => by
    cases h
    exact ⟨[], rfl, rfl, fun p hp => by cases hp⟩
  | w :: ws, us, h => by
    cases h with
    | cons hv t =>
      obtain ⟨ks, k1, k2, k3⟩ := wds_ks t
      obtain ⟨a, rfl, ha⟩ := wd_ref hv
      refine ⟨(a, w) :: ks, by rw [k1]; rfl, by rw [List.map_cons, k2], fun p hp => ?_⟩
      rcases List.mem_cons.mp hp with e | e
      · subst e
        exact ha
      · exact k3 p e
/-! pairs of routers, ascending -/
theorem asc_eq : ∀ {l m : List Nat}, l.Pairwise (· < ·) → m.Pairwise (· < ·) → (∀ x, x ∈ l ↔ x ∈ m) → l = m
  | [], [], _, _, _ => rfl
  | [], b :: m, _, _, h => absurd ((h b).mpr List.mem_cons_self) (by simp)
  | a :: l, [], _, _, h => absurd ((h a).mp List.mem_cons_self) (by simp)
  | a :: l, b :: m, h1, h2, h => by
    obtain ⟨ha, hl⟩ := List.pairwise_cons.mp h1
    obtain ⟨hb, hm⟩ := List.pairwise_cons.mp h2
    have e : a = b := by
      rcases List.mem_cons.mp ((h a).mp List.mem_cons_self) with z | z
      · exact z
      · rcases List.mem_cons.mp ((h b).mpr List.mem_cons_self) with y | y
        · exact y.symm
        · have := ha b y
          have := hb a z
          omega
    subst e
    rw [asc_eq hl hm fun x => ?_]
    constructor
    · intro hx
      rcases List.mem_cons.mp ((h x).mp (List.mem_cons_of_mem _ hx)) with z | z
      · have := ha x hx
        omega
      · exact z
    · intro hx
      rcases List.mem_cons.mp ((h x).mpr (List.mem_cons_of_mem _ hx)) with z | z
      · have := hb x hx
        omega
      · exact z
def cdW (c : Nat) : Wy := [((c / 8 : Nat) : Int), ((c % 8 : Nat) : Int)]
def ascW (S : List Wy) : List Wy := ((List.range 64).filter fun c => decide (cdW c ∈ S)).map cdW
theorem cd_pair {u v : Nat} (hv : v < 8) : cdW (u * 8 + v) = [(u : Int), (v : Int)] := by
  unfold cdW
  rw [show (u * 8 + v) / 8 = u by omega, show (u * 8 + v) % 8 = v by omega]
def enW (w : Wy) : Nat := (w.getD 0 0).toNat * 8 + (w.getD 1 0).toNat
/-- a pair of unlike routers below n -/
def PrOk (n : Nat) (w : Wy) : Prop := ∃ u v : Nat, w = [(u : Int), (v : Int)] ∧ u < n ∧ v < n ∧ u ≠ v
theorem asc_unique {S M : List Wy} (hb : ∀ p ∈ S, ∃ u v : Nat, u < 8 ∧ v < 8 ∧ p = [(u : Int), (v : Int)]) (hm : ∀ p, p ∈ M ↔ p ∈ S) (nd : M.Nodup)
    (pw : M.Pairwise fun q r => TS.code 64 q ≤ TS.code 64 r) : M = ascW S := by
  have hM : ∀ p ∈ M, ∃ u v : Nat, u < 8 ∧ v < 8 ∧ p = [(u : Int), (v : Int)] := fun p hp => hb p ((hm p).mp hp)
  have e1 : (M.map enW).map cdW = M := by
    rw [List.map_map]
    refine (List.map_congr_left fun p hp => ?_).trans (List.map_id M)
    obtain ⟨u, v, hu, hv, rfl⟩ := hM p hp
    show cdW ((u : Int).toNat * 8 + (v : Int).toNat) = _
    rw [Int.toNat_natCast, Int.toNat_natCast, cd_pair hv]
    rfl
  have e2 : (M.map enW).Pairwise (· < ·) := by
    rw [List.pairwise_map]
    refine List.Pairwise.imp_of_mem (R := fun q r => TS.code 64 q ≤ TS.code 64 r ∧ q ≠ r) ?_ (pw.and nd)
    intro q r hq hr ⟨h, hne⟩
    obtain ⟨u, v, hu, hv, rfl⟩ := hM q hq
    obtain ⟨x, y, hx, hy, rfl⟩ := hM r hr
    have z := pair_lt h hne (by omega) (by omega) (by omega) (by omega)
    show (u : Int).toNat * 8 + (v : Int).toNat < (x : Int).toNat * 8 + (y : Int).toNat
    rw [Int.toNat_natCast, Int.toNat_natCast, Int.toNat_natCast, Int.toNat_natCast]
    omega
  have e3 : ((List.range 64).filter fun c => decide (cdW c ∈ S)).Pairwise (· < ·) := List.Pairwise.filter _ List.pairwise_lt_range
  have e4 : M.map enW = (List.range 64).filter fun c => decide (cdW c ∈ S) := by
    refine asc_eq e2 e3 fun c => ?_
    rw [List.mem_map, List.mem_filter, List.mem_range, decide_eq_true_eq]
    constructor
    · rintro ⟨p, hp, rfl⟩
      have hp2 := (hm p).mp hp
      obtain ⟨u, v, hu, hv, rfl⟩ := hM p hp
      have ee : enW [(u : Int), (v : Int)] = u * 8 + v := by
        show (u : Int).toNat * 8 + (v : Int).toNat = _
        rw [Int.toNat_natCast, Int.toNat_natCast]
      rw [ee]
      exact ⟨by omega, by rw [cd_pair hv]; exact hp2⟩
    · rintro ⟨hc, hp⟩
      refine ⟨cdW c, (hm _).mpr hp, ?_⟩
      show (((c / 8 : Nat) : Int)).toNat * 8 + (((c % 8 : Nat) : Int)).toNat = c
      rw [Int.toNat_natCast, Int.toNat_natCast]
      omega
  rw [← e1, e4]
  rfl
theorem asc_mem {S : List Wy} (hb : ∀ p ∈ S, ∃ u v : Nat, u < 8 ∧ v < 8 ∧ p = [(u : Int), (v : Int)]) (p : Wy) : p ∈ ascW S ↔ p ∈ S := by
  unfold ascW
  rw [List.mem_map]
  constructor
  · rintro ⟨c, hc, rfl⟩
    exact of_decide_eq_true (List.mem_filter.mp hc).2
  · intro hp
    obtain ⟨u, v, hu, hv, rfl⟩ := hb p hp
    exact ⟨u * 8 + v, List.mem_filter.mpr ⟨List.mem_range.mpr (by omega), decide_eq_true (by rw [cd_pair hv]; exact hp)⟩, cd_pair hv⟩
theorem asc_len (S : List Wy) : (ascW S).length ≤ 64 := by
  unfold ascW
  rw [List.length_map]
  have h := List.length_filter_le (fun c => decide (cdW c ∈ S)) (List.range 64)
  rw [List.length_range] at h
  exact h
def swW (w : Wy) : Wy := [w.getD 1 0, w.getD 0 0]
def joinW (prs : List Wy) : List Wy := ascW (prs ++ prs.map swW)
theorem PrOk.sw {n : Nat} {w : Wy} (h : PrOk n w) : PrOk n (swW w) := by
  obtain ⟨u, v, rfl, h1, h2, h3⟩ := h
  exact ⟨v, u, rfl, h2, h1, Ne.symm h3⟩
theorem both_ok {n : Nat} {prs : List Wy} (h : ∀ p ∈ prs, PrOk n p) : ∀ p ∈ prs ++ prs.map swW, PrOk n p := fun p hp => by
  rcases List.mem_append.mp hp with z | z
  · exact h p z
  · obtain ⟨q, hq, rfl⟩ := List.mem_map.mp z
    exact (h q hq).sw
theorem PrOk.bd {n : Nat} (hn : n ≤ 8) {S : List Wy} (h : ∀ p ∈ S, PrOk n p) : ∀ p ∈ S, ∃ u v : Nat, u < 8 ∧ v < 8 ∧ p = [(u : Int), (v : Int)] := fun p hp => by
  obtain ⟨u, v, e, h1, h2, _⟩ := h p hp
  exact ⟨u, v, by omega, by omega, e⟩
theorem join_ok {n : Nat} (hn : n ≤ 8) {prs : List Wy} (h : ∀ p ∈ prs, PrOk n p) : ∀ p ∈ joinW prs, PrOk n p := fun p hp => both_ok h p ((asc_mem (PrOk.bd hn (both_ok h)) p).mp hp)

theorem perm_erase {α : Type} : ∀ {l : List α} {m : Nat} (h : m < l.length), l.Perm (l[m] :: l.eraseIdx m)
  | [], _, h => absurd h (Nat.not_lt_zero _)
  | x :: l, 0, _ => .refl _
  | x :: l, m + 1, h => ((perm_erase (l := l) (m := m) (Nat.lt_of_succ_lt_succ h)).cons x).trans (.swap _ _ _)
end Wk

set_option Elab.async false
set_option linter.all false
set_option maxRecDepth 100000
set_option maxHeartbeats 2000000
namespace Wk
open PySem PySem.Spec PyProof.Rows L2 Evl
section
variable {P : Program} {w : World} {K : PySem.W.Frag} {mg : Str → Option Value} {base : Heap} {f : Addr} {fd : FuncData}
/-! _law_shuffled -/
def spShuf : Sp := fun vs H Q _ => ∃ (G : Hp) (p q a : Addr) (xs : List V), vs = [.ref p, .ref a] ∧ Pm G H p q ∧ G a = some (.lst xs) ∧ xs.length ≤ 1000 ∧ ∀ H' l ys, Pm G H' p q → H l = none → l ≠ p → H' l = some (.lst ys) → ys.Perm xs → Q (.ref l) H'
abbrev sShuf : Stmt := top 39
abbrev nShuf : List Str := ["_law_pool_here", "_law_items", "_law_left", "_law_mixed_here", "_law_k"]
theorem scShuf : FnScope nShuf ["_law_pool_here", "_law_items"] (defScope sShuf) := ⟨rfl, rfl, rfl, by decide +kernel, rfl, by decide +kernel, by decide +kernel⟩
theorem ok_shuf (B : Bl mg) (C : Cal P w K mg base "_law_draw" ["_law_pool_here", "_law_limit"] 2 spDraw) (F : FnP K "_law_shuffled" sShuf f fd) : FnOk P w K mg base CX0 3 f fd ["_law_pool_here", "_law_items"] spShuf := by
  refine F.ok scShuf (fun vs H Q E h => ?_) (fun cdv A outer s H vs Q E hr h => ?_)
  · obtain ⟨G, p, q, a, xs, rfl, _⟩ := h
    rfl
  · obtain ⟨G, p, q, a, xs, rfl, hP, ha, hx, k⟩ := h
    refine ⟨_, pss_cons (ps_set (i := 2) scShuf.nd rfl (Or.inl rfl) (pe_callTy (call_listK2 (K := K) rfl) (by rfl) B.list PyProof.Rows.boot_list (pa_cons (pv 1) pa_nil)))
      (pss_cons (ps_set (i := 3) scShuf.nd rfl (Or.inl rfl) (pe_lst pa_nil))
      (pss_cons (ps_for (passes_of rfl) rfl (pi_range1 (by rfl) B.range (pa_cons (pe_callB call_len_seq (by rfl) B.len PySem.boot_len (pa_cons (pv 1) pa_nil)) pa_nil)) (pg_name (i := 4) scShuf.nd rfl (Or.inl rfl))
        (pss_one (ps_expr (pe_bm PySem.F.plainAttrs_list PySem.F.slot_list_append PySem.F.type_list_append mt_append (pv 3) (pa_cons
          (pe_bm PySem.F.plainAttrs_list PySem.F.slot_list_pop PySem.F.type_list_pop mt_popAt (pv 2) (pa_cons (pe_cal C hr (by rfl) (pa_cons (pv 0) (pa_cons (pe_callB call_len_seq (by rfl) B.len PySem.boot_len (pa_cons (pv 2) pa_nil)) pa_nil))) pa_nil)) pa_nil)))))
      (pss_one (ps_ret (pv 3))))), ?_⟩
    have hHa := hP.ex _ _ ha
    refine ⟨.ref a, rfl, a, xs, rfl, .inl (sq_of hHa), fun a1 ha1 => ?_⟩
    refine ⟨by show 0 ≤ sizeLine; decide, fun a2 ha2 => ?_⟩
    have n12 : a1 ≠ a2 := fun z => by rw [← z, upd_same] at ha2; cases ha2
    have ha2' : H a2 = none := by rw [upd_ne (Ne.symm n12)] at ha2; exact ha2
    have ga1 := fresh_back hP.ex ha1
    have ga2 := fresh_back hP.ex ha2'
    have p1 := hP.np ha1
    have p2 := hP.np ha2'
    change tSeq _ _ _ [some (.ref p), some (.ref a), some (.ref a1), some (.ref a2), none] _
    have hHa2 : (upd (upd H a1 (.lst xs)) a2 (.lst [])) a = some (.lst xs) := by
      rw [upd_ne (ne_of_none hHa ha2'), upd_ne (ne_of_none hHa ha1)]
      exact hHa
    refine q_forR1 (ea_cons (ev_len (ev_var rfl) (sq_of hHa2)) ea_nil) (n := (xs.length : Int)) (by omega) (fun i σ' H' => ∃ (ls os : List V) (o : Option V), σ' = [some (.ref p), some (.ref a), some (.ref a1), some (.ref a2), o] ∧ Pm G H' p q ∧ H' a1 = some (.lst ls) ∧ H' a2 = some (.lst os) ∧ (os ++ ls).Perm xs ∧ os.length = i) ?_ ?_ ?_
    · intro H1 e1
      exact ⟨xs, [], none, rfl, ((hP.ext (Ex.new ha1)).ext (Ex.new ha2)).ext e1, e1 _ _ (by rw [upd_ne n12, upd_same]), e1 _ _ upd_same, .refl _, rfl⟩
    · rintro i σ' H1 hi ⟨ls, os, o, rfl, hP1, h1, h2, hpm, hol⟩
      have hlen := hpm.length_eq
      rw [List.length_append] at hlen
      have hlp : 0 < ls.length := by omega
      refine ⟨.ref a2, rfl, .inl ⟨rfl, _, sq_of h2⟩, .ref a1, rfl, .inl ⟨rfl, _, sq_of h1⟩, .ref p, rfl, .ref a1, rfl, a1, _, rfl, .inl (sq_of h1), ?_⟩
      refine ⟨_, p, q, ((ls.length : Int)), rfl, hP1.hd, by omega, by omega, fun H2 j hP20 hj0 hj1 => ?_⟩
      have hP2 := hP1.back hP20
      have hO2 := hP20.off
      obtain ⟨m, rfl⟩ : ∃ m : Nat, j = (m : Int) := ⟨j.toNat, by omega⟩
      have hm : m < ls.length := by omega
      have h1' := hO2 _ _ p1 h1
      have h2' := hO2 _ _ p2 h2
      refine ⟨a1, _, (m : Int), m, ls[m], rfl, rfl, h1', by omega, by omega, seqIx hm, List.getElem?_eq_getElem hm, ?_⟩
      refine ⟨a2, _, ls[m], rfl, rfl, by rw [upd_ne (Ne.symm n12)]; exact h2', by rw [sizeLine_eq]; omega, ?_⟩
      refine ⟨ls.eraseIdx m, os ++ [ls[m]], _, rfl, (hP2.mut ga1 p1).mut ga2 p2, by rw [upd_ne n12, upd_same], by rw [upd_same], ?_, by simp; omega⟩
      refine List.Perm.trans ?_ hpm
      rw [List.append_assoc]
      refine List.Perm.append_left _ ?_
      exact (perm_erase hm).symm
    · rintro σ' H1 ⟨ls, os, o, rfl, hP1, h1, h2, hpm, hol⟩
      have hlen := hpm.length_eq
      rw [List.length_append] at hlen
      have hl0 : ls = [] := List.length_eq_zero_iff.mp (by omega)
      subst hl0
      rw [List.append_nil] at hpm
      exact ⟨.ref a2, rfl, k H1 a2 os hP1 ha2' p2 h2 hpm⟩
end
end Wk

set_option Elab.async false
set_option linter.all false
set_option maxRecDepth 100000
set_option maxHeartbeats 2000000
namespace Wk
open PySem PySem.Spec PyProof.Rows L2 Evl
def vI : V → Int
  | .int i => i
  | _ => 0
theorem perm_ints {ys : List V} {ns : List Int} (h : ys.Perm (ns.map V.int)) : ∃ os : List Int, os.Perm ns ∧ ys = os.map V.int := by
  refine ⟨ys.map vI, ?_, ?_⟩
  · have z := h.map vI
    rw [List.map_map, show (vI ∘ V.int) = id from rfl, List.map_id] at z
    exact z
  · rw [List.map_map]
    refine ((List.map_congr_left fun d hd => ?_).trans (List.map_id ys)).symm
    obtain ⟨w, _, rfl⟩ := List.mem_map.mp (h.mem_iff.mp hd)
    rfl
theorem next_ne {a d n : Int} (h0 : 0 ≤ a) (h1 : a < n) (h2 : 0 ≤ d) (h3 : d < n - 1) : (a + 1 + d) % n ≠ a := by
  by_cases h : a + 1 + d < n
  · rw [Int.emod_eq_of_lt (by omega) h]
    omega
  · rw [show a + 1 + d = (a + 1 + d - n) + n by omega, Int.add_emod_right, Int.emod_eq_of_lt (by omega) (by omega)]
    omega
theorem prOk_of {n : Nat} {a b : Int} (h0 : 0 ≤ a) (h1 : a < n) (h2 : 0 ≤ b) (h3 : b < n) (h4 : a ≠ b) : PrOk n [a, b] :=
  ⟨a.toNat, b.toNat, by rw [Int.toNat_of_nonneg h0, Int.toNat_of_nonneg h2], by omega, by omega, by omega⟩
/-- links that are put into the list at D -/
structure LsW (n : Nat) (G H : Hp) (p q D : Addr) (us : List V) (prs : List Wy) : Prop where
  pm : Pm G H p q
  at_ : H D = some (.lst us)
  gD : G D = none
  np : D ≠ p
  dq : DqA G us (prs.map wd)
  ok : ∀ w ∈ prs, PrOk n w
theorem LsW.ext {n : Nat} {G H H' : Hp} {p q D : Addr} {us : List V} {prs : List Wy} (h : LsW n G H p q D us prs) (e : Ex H H') : LsW n G H' p q D us prs := ⟨h.pm.ext e, e _ _ h.at_, h.gD, h.np, h.dq, h.ok⟩
theorem LsW.off {n : Nat} {G H H' : Hp} {p q D : Addr} {us : List V} {prs : List Wy} (h : LsW n G H p q D us prs) (hP : Pm G H' p q) (o : Of1 p H H') : LsW n G H' p q D us prs := ⟨hP, o _ _ h.np h.at_, h.gD, h.np, h.dq, h.ok⟩
theorem LsW.put {n : Nat} {G H : Hp} {p q D t : Addr} {us : List V} {prs : List Wy} {w : Wy} (h : LsW n G H p q D us prs) (ht : H t = none) (hw : PrOk n w) :
    Ex G (upd G t (.tup (w.map V.int))) ∧ LsW n (upd G t (.tup (w.map V.int))) (upd (upd H t (.tup (w.map V.int))) D (.lst (us ++ [.ref t]))) p q D (us ++ [.ref t]) (prs ++ [w]) := by
  have gt := fresh_back h.pm.ex ht
  have eg : Ex G (upd G t (.tup (w.map V.int))) := Ex.new gt
  have nDt : D ≠ t := ne_of_none h.at_ ht
  have gD' : (upd G t (.tup (w.map V.int))) D = none := by rw [upd_ne nDt]; exact h.gD
  refine ⟨eg, (h.pm.new ht).mut gD' h.np, upd_same, gD', h.np, ?_, fun x hx => ?_⟩
  · rw [List.map_append]
    exact (h.dq.mono eg).append (.cons (wd_of upd_same) .nil)
  · rcases List.mem_append.mp hx with z | z
    · exact h.ok x z
    · rw [List.mem_singleton.mp z]
      exact hw
section
variable {P : Program} {w : World} {K : PySem.W.Frag} {mg : Str → Option Value} {base : Heap} {f : Addr} {fd : FuncData}
/-! _law_links -/
def spLinks : Sp := fun vs H Q _ => ∃ (G : Hp) (p q : Addr) (n : Nat), vs = [.ref p, .int (n : Int)] ∧ Pm G H p q ∧ 1 ≤ n ∧ n ≤ 8 ∧
  ∀ G' H' (l : Addr) (us : List V) (prs : List Wy), Ex G G' → Pm G' H' p q → G' l = some (.lst us) → DqA G' us (prs.map wd) → (∀ w ∈ prs, PrOk n w) → prs.length ≤ 22 → Q (.ref l) H'
abbrev sLinks : Stmt := top 40
abbrev nLinks : List Str := ["_law_pool_here", "_law_size", "_law_order", "_law_kind", "_law_links_here", "_law_k", "_law_a", "_law_b"]
theorem scLinks : FnScope nLinks ["_law_pool_here", "_law_size"] (defScope sLinks) := ⟨rfl, rfl, rfl, by decide +kernel, rfl, by decide +kernel, by decide +kernel⟩
theorem ok_links (B : Bl mg) (C : Cal P w K mg base "_law_draw" ["_law_pool_here", "_law_limit"] 2 spDraw) (C2 : Cal P w K mg base "_law_shuffled" ["_law_pool_here", "_law_items"] 3 spShuf) (F : FnP K "_law_links" sLinks f fd) : FnOk P w K mg base CX0 4 f fd ["_law_pool_here", "_law_size"] spLinks := by
  refine F.ok scLinks (fun vs H Q E h => ?_) (fun cdv A outer s H vs Q E hr h => ?_)
  · obtain ⟨G, p, q, n, rfl, _⟩ := h
    rfl
  · obtain ⟨G, p, q, n, rfl, hP, hn1, hn8, k⟩ := h
    refine ⟨_, pss_cons (ps_set (i := 2) scLinks.nd rfl (Or.inl rfl) (pe_cal C2 hr (by rfl) (pa_cons (pv 0) (pa_cons (pe_listRg rfl (by rfl) B.list (prg_1 (by rfl) B.range (pv 1))) pa_nil))))
      (pss_cons (ps_set (i := 3) scLinks.nd rfl (Or.inl rfl) (pe_cal C hr (by rfl) (pa_cons (pv 0) (pa_cons pe_int pa_nil))))
      (pss_cons (ps_set (i := 4) scLinks.nd rfl (Or.inl rfl) (pe_lst pa_nil))
      (pss_cut (ps_for (passes_of rfl) rfl (pi_range1 (by rfl) B.range (pa_cons (pe_op op_sub (pv 1) pe_int) pa_nil)) (pg_name (i := 5) scLinks.nd rfl (Or.inl rfl))
        (pss_one (ps_if (pt_cmpR op_ne (pv 3) pe_int (nomark _)) (pss_one (ps_expr (pe_bm PySem.F.plainAttrs_list PySem.F.slot_list_append PySem.F.type_list_append mt_append (pv 4) (pa_cons
          (pe_tup (pa_cons (pe_ix ix_list (pv 2) (pv 5) (fun _ _ => rfl)) (pa_cons (pe_ix ix_list (pv 2) (pe_op op_add (pv 5) pe_int) (fun _ _ => rfl)) pa_nil))) pa_nil)))) pss_nil)))
      (pss_cut (ps_for (passes_of rfl) rfl (pi_range1 (by rfl) B.range (pa_cons (pe_cal C hr (by rfl) (pa_cons (pv 0) (pa_cons (pe_op op_mul pe_int (pv 1)) pa_nil))) pa_nil)) (pg_name (i := 5) scLinks.nd rfl (Or.inl rfl))
        (pss_one (ps_if (PW.pt (pw_and (pt_cmpR op_gt (pv 1) pe_int (nomark _)) (pw_and1 (pt_cmpR op_ne (pv 3) pe_int (nomark _)))))
          (pss_cons (ps_set (i := 6) scLinks.nd rfl (Or.inl rfl) (pe_cal C hr (by rfl) (pa_cons (pv 0) (pa_cons (pv 1) pa_nil))))
          (pss_cons (ps_set (i := 7) scLinks.nd rfl (Or.inl rfl) (pe_op op_mod (pe_callTy call_int1 (by rfl) B.int PyProof.Rows.boot_int (pa_cons (pe_op op_add (pe_op op_add (pv 6) pe_int) (pe_cal C hr (by rfl) (pa_cons (pv 0) (pa_cons (pe_op op_sub (pv 1) pe_int) pa_nil)))) pa_nil)) (pv 1)))
          (pss_one (ps_expr (pe_bm PySem.F.plainAttrs_list PySem.F.slot_list_append PySem.F.type_list_append mt_append (pv 4) (pa_cons (pe_tup (pa_cons (pv 6) (pa_cons (pv 7) pa_nil))) pa_nil)))))) pss_nil)))
      (pss_one (ps_ret (pe_cal C2 hr (by rfl) (pa_cons (pv 0) (pa_cons (pv 4) pa_nil))))))))), ?_⟩
    refine ⟨.ref p, rfl, .int (n : Int), rfl, (n : Int), rfl, RgOk.of_le (by decide) (by omega) (by decide) (by omega), fun a0 ha0 => ?_⟩
    have e0 : rgV 0 (n : Int) = ((List.range n).map fun (i : Nat) => (i : Int)).map V.int := by
      unfold rgV
      rw [show ((n : Int) - 0).toNat = n by omega, List.map_map]
      refine List.map_congr_left fun i _ => ?_
      show V.int ((0 : Int) + (i : Int)) = V.int (i : Int)
      rw [Int.zero_add]
    have ga0 := fresh_back hP.ex ha0
    have hP0 := hP.new (o := .lst (rgV 0 (n : Int))) ha0
    refine ⟨_, p, q, a0, _, rfl, hP0, upd_same, by rw [e0]; simp; omega, fun H1 l ys hP1 hl0 nlp hl hpm => ?_⟩
    rw [e0] at hpm
    obtain ⟨os, hos, rfl⟩ := perm_ints hpm
    have gl := fresh_back hP0.ex hl0
    have hol : os.length = n := by rw [hos.length_eq]; simp
    have hrg : ∀ x ∈ os, 0 ≤ x ∧ x < (n : Int) := fun x hx => by
      obtain ⟨i, hi, rfl⟩ := List.mem_map.mp (hos.mem_iff.mp hx)
      have := List.mem_range.mp hi
      omega
    have hnd : os.Nodup := hos.nodup_iff.mpr (by
      rw [List.nodup_iff_pairwise_ne, List.pairwise_map]
      exact List.Pairwise.imp (fun h => by omega) List.pairwise_lt_range)
    have eG0 : Ex G (upd G a0 (.lst (rgV 0 (n : Int)))) := Ex.new ga0
    have hP2 := hP1.hold hl nlp gl
    have eG1 : Ex (upd G a0 (.lst (rgV 0 (n : Int)))) (upd (upd G a0 (.lst (rgV 0 (n : Int)))) l (.lst (os.map V.int))) := Ex.new gl
    have hGl : (upd (upd G a0 (.lst (rgV 0 (n : Int)))) l (.lst (os.map V.int))) l = some (.lst (os.map V.int)) := upd_same
    have eG := eG0.trans eG1
    generalize upd (upd G a0 (.lst (rgV 0 (n : Int)))) l (.lst (os.map V.int)) = G1 at *
    clear eG0 eG1 hP1 hP0
    refine g_name ?_
    refine ⟨.ref p, rfl, ⟨_, p, q, _, rfl, hP2.hd, by decide, by decide, fun H2 kd hP30 hk0 hk1 => ?_⟩⟩
    have hP3 := hP2.back hP30
    have hO2 := hP30.off
    refine g_name ?_
    refine ⟨by show 0 ≤ sizeLine; decide, fun D hD => ?_⟩
    have gD := fresh_back hP3.ex hD
    have nD := hP3.np hD
    have hW0 : LsW n G1 (upd H2 D (.lst [])) p q D [] [] := ⟨hP3.ext (Ex.new hD), upd_same, gD, nD, .nil, fun w hw => by cases hw⟩
    refine g_name ?_
    dsimp only
    generalize upd H2 D (.lst []) = H3 at *
    refine q_cut (M := fun σ' H' => ∃ (G' : Hp) (us : List V) (prs : List Wy) (o5 : Option V), σ' = [some (.ref p), some (.int (n : Int)), some (.ref l), some (.int kd), some (.ref D), o5, none, none] ∧ Ex G1 G' ∧ LsW n G' H' p q D us prs ∧ prs.length ≤ 7) ?_ ?_
    · change tFor _ _ _ _ [some (.ref p), some (.int (n : Int)), some (.ref l), some (.int kd), some (.ref D), none, none, none] H3
      refine s_forR1 (ea_cons (ev_op (ev_var rfl) ev_c rv_I0) ea_nil) (n := (n : Int) - 1) (by omega) (fun i σ' H' => ∃ (G' : Hp) (us : List V) (prs : List Wy) (o5 : Option V), σ' = [some (.ref p), some (.int (n : Int)), some (.ref l), some (.int kd), some (.ref D), o5, none, none] ∧ Ex G1 G' ∧ LsW n G' H' p q D us prs ∧ prs.length ≤ i) (fun H4 e4 => ⟨G1, [], [], none, rfl, Ex.refl _, hW0.ext e4, Nat.zero_le _⟩) ?_ (fun σ' H' ⟨G', us, prs, o5, h1, h2, h3, h4⟩ => ⟨G', us, prs, o5, h1, h2, h3, by omega⟩)
      rintro i σ' H4 hi ⟨G', us, prs, o5, rfl, eG', hW, hl4⟩
      change tIfS _ _ _ _ [some (.ref p), some (.int (n : Int)), some (.ref l), some (.int kd), some (.ref D), some (.int (i : Int)), none, none] H4
      refine s_when (b := !decide (V.int kd = V.int 1)) (et_test (ev_op (ev_var rfl) ev_c (rv_ne rfl))) (fun _ H5 e5 => ?_) (fun _ H5 e5 => ⟨G', us, prs, _, rfl, eG', hW.ext e5, by omega⟩)
      have hW5 := hW.ext e5
      have hL : H5 l = some (.lst (os.map V.int)) := hW5.pm.ex _ _ (eG' _ _ hGl)
      have hi1 : i < os.length := by omega
      have hi2 : i + 1 < os.length := by omega
      have at1 := at_ints hi1
      have at2 := at_ints hi2
      rw [show ((i + 1 : Nat) : Int) = (i : Int) + 1 by omega] at at2
      have r1 := hrg os[i] (List.getElem_mem hi1)
      have r2 := hrg os[i + 1] (List.getElem_mem hi2)
      have rn : os[i] ≠ os[i + 1] := (List.pairwise_iff_getElem.mp hnd) i (i + 1) hi1 hi2 (by omega)
      generalize os[i] = x1 at *
      generalize os[i + 1] = x2 at *
      have hul := hW5.dq.length
      rw [List.length_map] at hul
      refine ⟨.ref D, rfl, .inl ⟨rfl, _, sq_of hW5.at_⟩, .ref l, rfl, .int (i : Int), rfl, l, _, (i : Int), .int x1, rfl, rfl, sq_of hL, at1, .ref l, rfl, .int (i : Int), rfl, (i : Int), 1, rfl, rfl, l, _, (i : Int) + 1, .int x2, rfl, rfl, sq_of hL, at2, by show 2 ≤ sizeLine; decide, fun t ht => ?_⟩
      obtain ⟨eg, hW6⟩ := hW5.put ht (w := [x1, x2]) (prOk_of r1.1 r1.2 r2.1 r2.2 rn)
      exact ⟨D, us, .ref t, rfl, rfl, by rw [upd_ne (ne_of_none hW5.at_ ht)]; exact hW5.at_, by rw [sizeLine_eq]; omega, _, _, _, _, rfl, eG'.trans eg, hW6, by simp; omega⟩
    rintro σ' H4 ⟨G', us, prs, o5, rfl, eG', hW, hl4⟩
    refine q_cut (M := fun σ' H' => ∃ (G' : Hp) (us : List V) (prs : List Wy) (o5 o6 o7 : Option V), σ' = [some (.ref p), some (.int (n : Int)), some (.ref l), some (.int kd), some (.ref D), o5, o6, o7] ∧ Ex G1 G' ∧ LsW n G' H' p q D us prs ∧ prs.length ≤ 22) ?_ ?_
    · refine ⟨.ref p, rfl, .int (n : Int), rfl, 2, (n : Int), rfl, rfl, .inl ⟨by decide, by decide⟩, ⟨_, p, q, _, rfl, hW.pm.hd, by omega, by omega, fun H5 j hP50 hj0 hj1 => ?_⟩⟩
      have hP5 := hW.pm.back hP50
      have hO5 := hP50.off
      have hW5 := hW.off hP5 hO5
      refine ⟨j, rfl, by omega, by omega, for_range (lo := 0) (n := j.toNat) (fun i σ' H' => ∃ (G' : Hp) (us : List V) (prs : List Wy) (o5 o6 o7 : Option V), σ' = [some (.ref p), some (.int (n : Int)), some (.ref l), some (.int kd), some (.ref D), o5, o6, o7] ∧ Ex G1 G' ∧ LsW n G' H' p q D us prs ∧ prs.length ≤ 7 + i) ⟨G', us, prs, _, _, _, rfl, eG', hW5, by omega⟩ ?_ (fun σ' H' ⟨G', us, prs, o5, o6, o7, h1, h2, h3, h4⟩ => ⟨G', us, prs, o5, o6, o7, h1, h2, h3, by omega⟩)⟩
      rintro i σ' H6 hi ⟨G6, us6, prs6, o5, o6, o7, rfl, eG6, hW6, hl6⟩
      refine g_name ?_
      dsimp only
      have stay : ∀ H7, Ex H6 H7 → ∃ (G' : Hp) (us : List V) (prs : List Wy) (p5 p6 p7 : Option V), [some (.ref p), some (.int (n : Int)), some (.ref l), some (.int kd), some (.ref D), some (.int (0 + (i : Int))), o6, o7] = [some (.ref p), some (.int (n : Int)), some (.ref l), some (.int kd), some (.ref D), p5, p6, p7] ∧ Ex G1 G' ∧ LsW n G' H7 p q D us prs ∧ prs.length ≤ 7 + (i + 1) := fun H7 e7 => ⟨G6, us6, prs6, _, _, _, rfl, eG6, hW6.ext e7, by omega⟩
      change tIfS _ _ _ _ [some (.ref p), some (.int (n : Int)), some (.ref l), some (.int kd), some (.ref D), some (.int (0 + (i : Int))), o6, o7] H6
      refine s_when (b := decide ((n : Int) > 1) && !decide (V.int kd = V.int 0)) (et_and (et_test (ev_op (ev_var rfl) ev_c rv_I0)) fun _ => et_test (ev_op (ev_var rfl) ev_c (rv_ne rfl))) (fun hb H7 e7 => ?_) (fun _ H7 e7 => stay H7 e7)
      have hn2 : (n : Int) > 1 := of_decide_eq_true (Bool.and_eq_true_iff.mp hb).1
      have hW7 := hW6.ext e7
      refine ⟨.ref p, rfl, .int (n : Int), rfl, ⟨_, p, q, _, rfl, hW7.pm.hd, by omega, by omega, fun H8 a hP80 ha0 ha1 => ?_⟩⟩
      have hP8 := hW7.pm.back hP80
      have hO8 := hP80.off
      have hW8 := hW7.off hP8 hO8
      refine g_name ?_
      dsimp only
      refine ⟨.int a, rfl, a, 1, rfl, rfl, .ref p, rfl, .int (n : Int), rfl, (n : Int), 1, rfl, rfl, ⟨_, p, q, _, rfl, hW8.pm.hd, by omega, by omega, fun H9 d hP90 hd0 hd1 => ?_⟩⟩
      have hP9 := hW8.pm.back hP90
      have hO9 := hP90.off
      have hW9 := hW8.off hP9 hO9
      refine ⟨_, d, rfl, rfl, .inl ⟨_, rfl, .int (n : Int), rfl, _, (n : Int), rfl, rfl, (show (0 : Int) < (n : Int) by omega), ?_⟩⟩
      have mb := modP (a + 1 + d) (n : Int) (by omega)
      have nb := next_ne ha0 ha1 hd0 hd1
      refine g_name ?_
      dsimp only
      generalize (a + 1 + d) % (n : Int) = b at mb nb ⊢
      have hul := hW9.dq.length
      rw [List.length_map] at hul
      refine ⟨.ref D, rfl, .inl ⟨rfl, _, sq_of hW9.at_⟩, .int a, rfl, .int b, rfl, by show 2 ≤ sizeLine; decide, fun t ht => ?_⟩
      obtain ⟨eg, hW10⟩ := hW9.put ht (w := [a, b]) (prOk_of ha0 ha1 mb.1 mb.2 (Ne.symm nb))
      exact ⟨D, us6, .ref t, rfl, rfl, by rw [upd_ne (ne_of_none hW9.at_ ht)]; exact hW9.at_, by rw [sizeLine_eq]; omega, _, _, _, _, _, _, rfl, eG6.trans eg, hW10, by simp; omega⟩
    rintro σ' H5 ⟨G5, us5, prs5, o5, o6, o7, rfl, eG5, hW5, hl5⟩
    have hul := hW5.dq.length
    rw [List.length_map] at hul
    have hP5 := hW5.pm.hold hW5.at_ hW5.np hW5.gD
    have eD : Ex G5 (upd G5 D (.lst us5)) := Ex.new hW5.gD
    refine ⟨.ref p, rfl, .ref D, rfl, _, p, q, D, us5, rfl, hP5, upd_same, by omega, fun H6 l2 ys2 hP6 hl20 nl2 hl2 hpm2 => ?_⟩
    have gl2 := fresh_back hP5.ex hl20
    obtain ⟨es, hes, hdq⟩ := DqA.perm hpm2 (hW5.dq.mono eD)
    obtain ⟨ws, hws, rfl⟩ := perm_wds hes
    have e2 : Ex (upd G5 D (.lst us5)) (upd (upd G5 D (.lst us5)) l2 (.lst ys2)) := Ex.new gl2
    exact k _ H6 l2 ys2 ws ((eG.trans eG5).trans (eD.trans e2)) (hP6.hold hl2 nl2 gl2) upd_same (hdq.mono e2) (fun w hw => hW5.ok w (hws.mem_iff.mp hw)) (by rw [hws.length_eq]; exact hl5)
/-! _law_pairs -/
def spPairs : Sp := fun vs H Q _ => ∃ (l : Addr) (us : List V) (prs : List Wy), vs = [.ref l] ∧ H l = some (.lst us) ∧ DqA H us (prs.map wd) ∧ (∀ w ∈ prs, PrOk 8 w) ∧ prs.length ≤ 22 ∧
  ∀ H' l' us', Ex H H' → H l' = none → H' l' = some (.lst us') → DqA H' us' ((joinW prs).map wd) → Q (.ref l') H'
abbrev sPairs : Stmt := top 41
abbrev nPairs : List Str := ["_law_links_here", "_law_link"]
theorem scPairs : FnScope nPairs ["_law_links_here"] (defScope sPairs) := ⟨rfl, rfl, rfl, by decide +kernel, rfl, by decide +kernel, by decide +kernel⟩
theorem upTo_all (n : Nat) : upTo (fun _ => true) n = List.range n := by
  unfold upTo
  exact List.filter_eq_self.mpr fun _ _ => rfl
theorem range_sw (prs : List Wy) : (List.range prs.length).map (fun i => swW (prs.getD i [])) = prs.map swW := by
  apply List.ext_getElem
  · simp
  · intro i h1 h2
    have h3 : i < prs.length := by simpa using h1
    simp [List.getD_eq_getElem?_getD, List.getElem?_eq_getElem h3]
theorem ok_pairs (B : Bl mg) (hs : mg "sorted" = none) (F : FnP K "_law_pairs" sPairs f fd) : FnOk P w K mg base CX0 1 f fd ["_law_links_here"] spPairs := by
  refine F.ok scPairs (fun vs H Q E h => ?_) (fun cdv A outer s H vs Q E hr h => ?_)
  · obtain ⟨l, us, prs, rfl, _⟩ := h
    rfl
  · obtain ⟨l, us, prs, rfl, hl, hus, hok, hpl, k⟩ := h
    have hu : (A.deeper (envOfC "_law_pairs" (defScope sPairs) s.heap.objs.size f cdv)).units + 64 < cLine := by have := hr.un; omega
    refine ⟨_, pss_one (ps_ret (pe_callB (cr_sortedT rfl) (by rfl) hs boot_sorted (pa_cons (pe_callTy (cr_setOfT rfl hu) (by rfl) B.set PyProof.Rows.boot_set (pa_cons (pe_op op_cat (pv 0)
      (pe_lc (own := [("_law_link", 1)]) (g := gName 1) (tt := tYes) (te := tTup (tCons (tOp (rIxT K) (tVar 1) (tC (.int 1))) (tCons (tOp (rIxT K) (tVar 1) (tC (.int 0))) tNil))) rfl scPairs.nd
        (pi_list (pv 0)) (blkOk_by (N := nPairs) (sc := defScope sPairs) (by decide +kernel)) (fun _ _ _ _ _ => pg_name (i := 1) scPairs.nd rfl (Or.inl rfl))
        (fun _ _ _ _ _ => pts_nil)
        (fun _ _ _ _ _ => pe_tup (pa_cons (pe_ix ix_tup (pv 1) pe_int (fun _ _ => rfl)) (pa_cons (pe_ix ix_tup (pv 1) pe_int (fun _ _ => rfl)) pa_nil))))) pa_nil)) pa_nil))), ?_⟩
    have hul := hus.length
    rw [List.length_map] at hul
    have hbd := PrOk.bd (n := 8) (by omega) (both_ok hok)
    have two : ∀ {i : Nat} {x : V}, us[i]? = some x → ∃ (a : Addr) (w : Wy), x = .ref a ∧ prs.getD i [] = w ∧ H a = some (.tup (w.map V.int)) ∧ atI (w.map V.int) 1 = some (.int (w.getD 1 0)) ∧ atI (w.map V.int) 0 = some (.int (w.getD 0 0)) := by
      intro i x hx
      obtain ⟨w, h1, h2⟩ := DqA.wds_inv hus hx
      obtain ⟨a, rfl, ha⟩ := wd_ref h2
      obtain ⟨u, v, rfl, _⟩ := hok w (List.mem_of_getElem? h1)
      exact ⟨a, _, rfl, by rw [List.getD_eq_getElem?_getD, h1]; rfl, ha, atI_nat (j := 1) rfl, atI_nat (j := 0) rfl⟩
    refine ret_cb (cb1 ?_)
    refine ⟨.ref l, rfl, ?_⟩
    refine ⟨.ref l, rfl, l, rfl, ⟨us, sq_of hl⟩, fun D hD => ?_⟩
    refine grow_lc (walk_list (K := K) (a := l) (xs := us)) (Yx := fun i x => us[i]? = some x) (tupY_good fun i => (swW (prs.getD i [])).map V.int) (fun _ => true) hD (by omega)
      (fun H' e => sq_of (e _ _ hl)) (fun x => rfl) (fun i x H' e hi hx => et_yes) (fun i x H' e hi hx _ => ?_) (fun us2 H2 e2 hd g => ?_)
    · obtain ⟨a, w, rfl, ew, ha, at1, at0⟩ := two hx
      have i1 : Ev (tOp (rIxT K) (tVar 1) (tC (.int 1))) ((wipe (start nPairs [V.ref l]) [1]).set 1 (some (.ref a))) H' (.int (w.getD 1 0)) := ev_op (ev_var rfl) ev_c (rv_ixT (st_of (e _ _ ha)) at1)
      have i0 : Ev (tOp (rIxT K) (tVar 1) (tC (.int 0))) ((wipe (start nPairs [V.ref l]) [1]).set 1 (some (.ref a))) H' (.int (w.getD 0 0)) := ev_op (ev_var rfl) ev_c (rv_ixT (st_of (e _ _ ha)) at0)
      intro H3 e3 Q3 q
      refine (ea_cons i1 (ea_cons i0 ea_nil)) H3 e3 _ fun H4 e4 => ⟨by show 2 ≤ sizeLine; decide, fun p hp => q _ _ (e4.trans (Ex.new hp)) ⟨p, rfl, ?_⟩⟩
      show upd H4 p _ p = some (.tup ((swW (prs.getD i [])).map V.int))
      rw [ew]
      exact upd_same
    · obtain ⟨ks2, k1, k2, k3⟩ := grown_ks g
      subst k1
      rw [upTo_all, hul, range_sw] at k2
      obtain ⟨ks1, j1, j2, j3⟩ := wds_ks (hus.mono e2)
      have l1 : ks1.length = prs.length := by rw [← j2, List.length_map]
      have l2 : ks2.length = prs.length := by
        have := congrArg List.length k2
        simpa using this
      refine ⟨l, D, us, _, rfl, rfl, e2 _ _ hl, hd, by rw [List.length_map, sizeLine_eq]; omega, fun t ht => ?_⟩
      have et := Ex.new (o := .lst (us ++ ks2.map fun p => V.ref p.1)) ht
      have htt : (upd H2 t (.lst (us ++ ks2.map fun p => V.ref p.1))) t = some (.lst ((ks1 ++ ks2).map fun p => V.ref p.1)) := by
        rw [upd_same, List.map_append, ← j1]
      generalize upd H2 t (.lst (us ++ ks2.map fun p => V.ref p.1)) = H3 at *
      have hm3 : ∀ p ∈ ks1 ++ ks2, H3 p.1 = some (.tup (p.2.map V.int)) := fun p hp => by
        rcases List.mem_append.mp hp with z | z
        · exact et _ _ (j3 p z)
        · exact et _ _ (k3 p z)
      have hmem : ∀ p, p ∈ (ks1 ++ ks2).map (·.2) ↔ p ∈ prs ++ prs.map swW := by
        intro p
        rw [List.map_append, j2, k2]
      refine ⟨t, ks1 ++ ks2, rfl, sq_of htt, fun p hp => st_of (hm3 p hp), by rw [List.length_append]; omega, fun a L ha h1 h2 => ?_⟩
      have ea := Ex.new (o := SetTO P w a L) ha
      refine ⟨a, L, 2, 64, rfl, upd_same, fun p hp => st_of (ea _ _ (hm3 p (h1 p hp))), by decide, fun p hp => ?_, fun L' p pm nd l64 pw hp => ?_⟩
      · obtain ⟨u, v', hu', hv', ep⟩ := hbd p.2 ((hmem _).mp (List.mem_map.mpr ⟨p, h1 p hp, rfl⟩))
        rw [ep]
        refine ⟨rfl, fun m hm => ?_⟩
        rcases List.mem_cons.mp hm with z | z
        · omega
        · rcases List.mem_cons.mp z with z | z
          · omega
          · cases z
      · have eM : L'.map (·.2) = joinW prs := by
          refine asc_unique hbd (fun q => ?_) nd (List.pairwise_map.mpr pw)
          rw [← hmem]
          constructor
          · intro hq
            obtain ⟨r, hr', rfl⟩ := List.mem_map.mp hq
            exact List.mem_map.mpr ⟨r, h1 r (pm.mem_iff.mp hr'), rfl⟩
          · intro hq
            obtain ⟨r, hr', rfl⟩ := List.mem_map.mp hq
            obtain ⟨r2, hr2, e⟩ := List.mem_map.mp (h2 r hr')
            exact List.mem_map.mpr ⟨r2, pm.mem_iff.mpr hr2, e⟩
        have ep := Ex.new (o := .lst (L'.map fun q => V.ref q.1)) hp
        refine k _ p _ ((e2.trans et).trans (ea.trans ep)) (fresh_back ((e2.trans et).trans ea) hp) upd_same ?_
        rw [← eM]
        exact ks_wds fun q hq => ep _ _ (ea _ _ (hm3 q (h1 q (pm.mem_iff.mp hq))))
end
end Wk

set_option Elab.async false
set_option linter.all false
set_option maxRecDepth 100000
set_option maxHeartbeats 2000000
namespace Wk
open PySem PySem.Spec PyProof.Rows L2 Evl
/-! deeds -/
inductive Deed
  | pas (a b : Nat)
  | los (a b : Nat)
  | rst (r : Nat)
  | wri (r c : Nat)
def Deed.vs : Deed → List V
  | .pas a b => [.str "pass", .int (a : Int), .int (b : Int)]
  | .los a b => [.str "lose", .int (a : Int), .int (b : Int)]
  | .rst r => [.str "restart", .int (r : Int)]
  | .wri r c => [.str "write", .int (r : Int), .int (c : Int)]
def Deed.ds : Deed → List PyData
  | .pas a b => [.str "pass", .int (a : Int), .int (b : Int)]
  | .los a b => [.str "lose", .int (a : Int), .int (b : Int)]
  | .rst r => [.str "restart", .int (r : Int)]
  | .wri r c => [.str "write", .int (r : Int), .int (c : Int)]
def Deed.d (x : Deed) : PyData := .tuple x.ds
def Deed.ok (n : Nat) (js : List Wy) (rs : Bool) : Deed → Prop
  | .pas a b => [(a : Int), (b : Int)] ∈ js
  | .los a b => [(a : Int), (b : Int)] ∈ js
  | .rst r => r < n ∧ rs = true
  | .wri r c => r < n ∧ c < 100
theorem Deed.dqa (H : Hp) : ∀ x : Deed, DqA H x.vs x.ds
  | .pas a b => .cons (.str _) (.cons (.int _) (.cons (.int _) .nil))
  | .los a b => .cons (.str _) (.cons (.int _) (.cons (.int _) .nil))
  | .rst r => .cons (.str _) (.cons (.int _) .nil)
  | .wri r c => .cons (.str _) (.cons (.int _) (.cons (.int _) .nil))
theorem Deed.dq {H : Hp} {t : Addr} {x : Deed} (h : H t = some (.tup x.vs)) : Dq H (.ref t) x.d := .tup h (x.dqa H)
theorem Deed.inv {H : Hp} {v : V} {x : Deed} (h : Dq H v x.d) : ∃ t, v = .ref t ∧ H t = some (.tup x.vs) := by
  unfold Deed.d at h
  cases h with
  | @tup a xs _ h1 h2 =>
    refine ⟨a, rfl, ?_⟩
    rw [h1]
    cases x with
    | pas a b => obtain _ | ⟨⟨⟩, _ | ⟨⟨⟩, _ | ⟨⟨⟩, _ | _⟩⟩⟩ := h2; rfl
    | los a b => obtain _ | ⟨⟨⟩, _ | ⟨⟨⟩, _ | ⟨⟨⟩, _ | _⟩⟩⟩ := h2; rfl
    | rst r => obtain _ | ⟨⟨⟩, _ | ⟨⟨⟩, _ | _⟩⟩ := h2; rfl
    | wri r c => obtain _ | ⟨⟨⟩, _ | ⟨⟨⟩, _ | ⟨⟨⟩, _ | _⟩⟩⟩ := h2; rfl
section
variable {P : Program} {w : World} {K : PySem.W.Frag} {mg : Str → Option Value} {base : Heap} {f : Addr} {fd : FuncData}
/-! _law_deed -/
def spDeed : Sp := fun vs H Q _ => ∃ (G : Hp) (p q l : Addr) (n : Nat) (us : List V) (js : List Wy) (rs : Bool), vs = [.ref p, .int (n : Int), .ref l, .bl rs] ∧ Pm G H p q ∧ 1 ≤ n ∧ n ≤ 8 ∧ G l = some (.lst us) ∧ DqA G us (js.map wd) ∧ (∀ w ∈ js, PrOk n w) ∧ js.length ≤ 64 ∧
  ∀ H' t (x : Deed), H t = none → Pm (upd G t (.tup x.vs)) H' p q → x.ok n js rs → Q (.ref t) H'
abbrev sDeed : Stmt := top 43
abbrev nDeed : List Str := ["_law_pool_here", "_law_size", "_law_pairs_here", "_law_restarts", "_law_kind", "_law_pair_here", "_law_content"]
theorem scDeed : FnScope nDeed ["_law_pool_here", "_law_size", "_law_pairs_here", "_law_restarts"] (defScope sDeed) := ⟨rfl, rfl, rfl, by decide +kernel, rfl, by decide +kernel, by decide +kernel⟩
theorem new_back {G H H1 : Hp} {p q t : Addr} (h : Pm G H p q) (o : Of1 p H H1) (h1 : Pm G H1 p q) (ht : H1 t = none) : H t = none := by
  cases e : H t with
  | none => rfl
  | some u =>
    have np := h1.np ht
    rw [o _ _ np e] at ht
    cases ht
theorem ok_deed (B : Bl mg) (C : Cal P w K mg base "_law_draw" ["_law_pool_here", "_law_limit"] 2 spDraw) (F : FnP K "_law_deed" sDeed f fd) : FnOk P w K mg base CX0 3 f fd ["_law_pool_here", "_law_size", "_law_pairs_here", "_law_restarts"] spDeed := by
  refine F.ok scDeed (fun vs H Q E h => ?_) (fun cdv A outer s H vs Q E hr h => ?_)
  · obtain ⟨G, p, q, l, n, us, js, rs, rfl, _⟩ := h
    rfl
  · obtain ⟨G, p, q, l, n, us, js, rs, rfl, hP, hn1, hn8, hl, hus, hok, hjl, k⟩ := h
    refine ⟨_, pss_cons (ps_set (i := 4) scDeed.nd rfl (Or.inl rfl) (pe_cal C hr (by rfl) (pa_cons (pv 0) (pa_cons pe_int pa_nil))))
      (pss_cons (ps_if (PW.pt (pw_and (pt_cmpR op_lt (pv 4) pe_int (nomark _)) (pw_and1 (pt_cmpR op_gt (pe_callB call_len_seq (by rfl) B.len PySem.boot_len (pa_cons (pv 2) pa_nil)) pe_int (nomark _)))))
          (pss_cons (ps_set (i := 5) scDeed.nd rfl (Or.inl rfl) (pe_ix ix_list (pv 2) (pe_cal C hr (by rfl) (pa_cons (pv 0) (pa_cons (pe_callB call_len_seq (by rfl) B.len PySem.boot_len (pa_cons (pv 2) pa_nil)) pa_nil))) (fun _ _ => rfl)))
          (pss_one (ps_ret (pe_tup (pa_cons pe_str (pa_cons (pe_ix ix_tup (pv 5) pe_int (fun _ _ => rfl)) (pa_cons (pe_ix ix_tup (pv 5) pe_int (fun _ _ => rfl)) pa_nil))))))) pss_nil)
      (pss_cons (ps_if (PW.pt (pw_and (pt_cmpR op_eq (pv 4) pe_int (nomark _)) (pw_and1 (pt_cmpR op_gt (pe_callB call_len_seq (by rfl) B.len PySem.boot_len (pa_cons (pv 2) pa_nil)) pe_int (nomark _)))))
          (pss_cons (ps_set (i := 5) scDeed.nd rfl (Or.inl rfl) (pe_ix ix_list (pv 2) (pe_cal C hr (by rfl) (pa_cons (pv 0) (pa_cons (pe_callB call_len_seq (by rfl) B.len PySem.boot_len (pa_cons (pv 2) pa_nil)) pa_nil))) (fun _ _ => rfl)))
          (pss_one (ps_ret (pe_tup (pa_cons pe_str (pa_cons (pe_ix ix_tup (pv 5) pe_int (fun _ _ => rfl)) (pa_cons (pe_ix ix_tup (pv 5) pe_int (fun _ _ => rfl)) pa_nil))))))) pss_nil)
      (pss_cons (ps_if (PW.pt (pw_and (pt_cmpR op_eq (pv 4) pe_int (nomark _)) (pw_and1 (pt_val (pv 3)))))
          (pss_one (ps_ret (pe_tup (pa_cons pe_str (pa_cons (pe_cal C hr (by rfl) (pa_cons (pv 0) (pa_cons (pv 1) pa_nil))) pa_nil))))) pss_nil)
      (pss_cons (ps_set (i := 6) scDeed.nd rfl (Or.inl rfl) (pe_cal C hr (by rfl) (pa_cons (pv 0) (pa_cons pe_int pa_nil))))
      (pss_cons (ps_if (pt_cmpR op_eq (pv 4) pe_int (nomark _)) (pss_one (ps_set (i := 6) scDeed.nd rfl (Or.inl rfl) (pe_op op_mod (pe_callTy call_int1 (by rfl) B.int PyProof.Rows.boot_int (pa_cons (pv 6) pa_nil)) pe_int))) pss_nil)
      (pss_one (ps_ret (pe_tup (pa_cons pe_str (pa_cons (pe_cal C hr (by rfl) (pa_cons (pv 0) (pa_cons (pv 1) pa_nil))) (pa_cons (pv 6) pa_nil)))))))))))
, ?_⟩
    have hul := hus.length
    rw [List.length_map] at hul
    refine ⟨.ref p, rfl, ⟨_, p, q, _, rfl, hP.hd, by decide, by decide, fun H1 kd hP10 hk0 hk1 => ?_⟩⟩
    have hP1 := hP.back hP10
    have hO1 := hP10.off
    refine g_name ?_
    dsimp only
    -- a drawn pair
    have draw : ∀ (H2 : Hp), Pm G H2 p q → Of1 p H H2 → 0 < us.length → ∀ (Qd : VK), (∀ (H3 : Hp) (b : Addr) (x y : Nat), Pm G H3 p q → Of1 p H H3 → H3 b = some (.tup [.int (x : Int), .int (y : Int)]) → [(x : Int), (y : Int)] ∈ js → Qd (.ref b) H3) →
        tOp (rIxL K) (tVar 2) (tCall spDraw [] E0 (tCons (tVar 0) (tCons (tCB (rLenS K) (tCons (tVar 2) tNil)) tNil))) [some (.ref p), some (.int (n : Int)), some (.ref l), some (.bl rs), some (.int kd), none, none] H2 Qd := fun H2 hP2 hO2 h0 Qd kq => by
      have hl2 := hP2.ex _ _ hl
      refine ⟨.ref l, rfl, .ref p, rfl, .ref l, rfl, l, _, rfl, .inl (sq_of hl2), ⟨_, p, q, _, rfl, hP2.hd, by omega, by omega, fun H3 j hP30 hj0 hj1 => ?_⟩⟩
      have hP3 := hP2.back hP30
      have hO3 := hP30.off
      obtain ⟨m, rfl⟩ : ∃ m : Nat, j = (m : Int) := ⟨j.toNat, by omega⟩
      have hm : m < us.length := by omega
      have hum : us[m]? = some us[m] := List.getElem?_eq_getElem hm
      obtain ⟨w, h1, h2⟩ := DqA.wds_inv hus hum
      obtain ⟨b, eb, hb⟩ := wd_ref h2
      have hwm := List.mem_of_getElem? h1
      obtain ⟨x, y, rfl, _⟩ := hok w hwm
      refine ⟨l, _, (m : Int), .ref b, rfl, rfl, sq_of (hP3.ex _ _ hl), atI_nat (by rw [hum, eb]), kq H3 b x y hP3 (hO2.trans hO3) (hP3.ex _ _ hb) hwm⟩
    have lens : ∀ {H2 : Hp}, Pm G H2 p q → EvT (tTest (tOp (rI0 fun i j => .bl (decide (i > j))) (tCB (rLenS K) (tCons (tVar 2) tNil)) (tC (.int 0)))) [some (.ref p), some (.int (n : Int)), some (.ref l), some (.bl rs), some (.int kd), none, none] H2 (decide ((us.length : Int) > 0)) := fun hP2 => et_test (ev_op (ev_len (ev_var rfl) (sq_of (hP2.ex _ _ hl))) ev_c rv_I0)
    refine q_when (b := decide (kd < 6) && decide ((us.length : Int) > 0)) (et_and (et_test (ev_op (ev_var rfl) ev_c rv_I0)) fun _ => lens hP1) (fun hb H2 e2 => ?_) (fun _ H2 e2 => ?_)
    · have h0 := of_decide_eq_true (Bool.and_eq_true_iff.mp hb).2
      refine draw H2 (hP1.ext e2) (hO1.trans (Of1.ex e2)) (by omega) _ fun H3 b x y hP3 hO3 hb3 hm => ?_
      refine g_name ?_
      dsimp only
      refine ⟨.ref b, rfl, b, _, 0, .int (x : Int), rfl, rfl, st_of hb3, rfl, .ref b, rfl, b, _, 1, .int (y : Int), rfl, rfl, st_of hb3, rfl, by show 3 ≤ sizeLine; decide, fun t ht => ?_⟩
      exact k _ t (.pas x y) (new_back hP hO3 hP3 ht) (hP3.new ht) hm
    have hP2 := hP1.ext e2
    have hO2 := hO1.trans (Of1.ex e2)
    refine q_when (b := decide (V.int kd = V.int 6) && decide ((us.length : Int) > 0)) (et_and (et_test (ev_op (ev_var rfl) ev_c (rv_eq rfl))) fun _ => lens hP2) (fun hb H3 e3 => ?_) (fun _ H3 e3 => ?_)
    · have h0 := of_decide_eq_true (Bool.and_eq_true_iff.mp hb).2
      refine draw H3 (hP2.ext e3) (hO2.trans (Of1.ex e3)) (by omega) _ fun H4 b x y hP4 hO4 hb4 hm => ?_
      refine g_name ?_
      dsimp only
      refine ⟨.ref b, rfl, b, _, 0, .int (x : Int), rfl, rfl, st_of hb4, rfl, .ref b, rfl, b, _, 1, .int (y : Int), rfl, rfl, st_of hb4, rfl, by show 3 ≤ sizeLine; decide, fun t ht => ?_⟩
      exact k _ t (.los x y) (new_back hP hO4 hP4 ht) (hP4.new ht) hm
    have hP3 := hP2.ext e3
    have hO3 := hO2.trans (Of1.ex e3)
    refine q_when (b := decide (V.int kd = V.int 7) && rs) (et_and (et_test (ev_op (ev_var rfl) ev_c (rv_eq rfl))) fun _ => et_B (ev_var rfl)) (fun hb H4 e4 => ?_) (fun _ H4 e4 => ?_)
    · have hrs := (Bool.and_eq_true_iff.mp hb).2
      have hP4 := hP3.ext e4
      refine ⟨.ref p, rfl, .int (n : Int), rfl, ⟨_, p, q, _, rfl, hP4.hd, by omega, by omega, fun H5 r hP50 hr0 hr1 => ?_⟩⟩
      have hP5 := hP4.back hP50
      have hO5 := hP50.off
      obtain ⟨x, rfl⟩ : ∃ m : Nat, r = (m : Int) := ⟨r.toNat, by omega⟩
      refine ⟨by show 2 ≤ sizeLine; decide, fun t ht => ?_⟩
      exact k _ t (.rst x) (new_back hP ((hO3.trans (Of1.ex e4)).trans hO5) hP5 ht) (hP5.new ht) ⟨by omega, hrs⟩
    have hP4 := hP3.ext e4
    have hO4 := hO3.trans (Of1.ex e4)
    refine ⟨.ref p, rfl, ⟨_, p, q, _, rfl, hP4.hd, by decide, by decide, fun H5 c hP50 hc0 hc1 => ?_⟩⟩
    have hP5 := hP4.back hP50
    have hO5 := hP50.off
    refine g_name ?_
    dsimp only
    have fin : ∀ (c : Int) (H6 : Hp), 0 ≤ c → c < 100 → Ex H5 H6 → tRet (tTup (tCons (tC (.str "write")) (tCons (tCall spDraw [] E0 (tCons (tVar 0) (tCons (tVar 1) tNil))) (tCons (tVar 6) tNil)))) { nx := fun _ H' => Q .non H', rt := Q } [some (.ref p), some (.int (n : Int)), some (.ref l), some (.bl rs), some (.int kd), none, some (.int c)] H6 := fun c H6 h0 h1 e6 => by
      have hP6 := hP5.ext e6
      refine ⟨.ref p, rfl, .int (n : Int), rfl, ⟨_, p, q, _, rfl, hP6.hd, by omega, by omega, fun H7 r hP70 hr0 hr1 => ?_⟩⟩
      have hP7 := hP6.back hP70
      have hO7 := hP70.off
      obtain ⟨x, rfl⟩ : ∃ m : Nat, r = (m : Int) := ⟨r.toNat, by omega⟩
      obtain ⟨y, rfl⟩ : ∃ m : Nat, c = (m : Int) := ⟨c.toNat, by omega⟩
      refine ⟨.int (y : Int), rfl, by show 3 ≤ sizeLine; decide, fun t ht => ?_⟩
      exact k _ t (.wri x y) (new_back hP (((hO4.trans hO5).trans (Of1.ex e6)).trans hO7) hP7 ht) (hP7.new ht) ⟨by omega, by omega⟩
    change tSeq _ _ _ [some (.ref p), some (.int (n : Int)), some (.ref l), some (.bl rs), some (.int kd), none, some (.int c)] H5
    refine q_if (b := decide (V.int kd = V.int 8)) (et_test (ev_op (ev_var rfl) ev_c (rv_eq rfl))) (fun _ H6 e6 => ?_) (fun _ H6 e6 => fin c H6 hc0 hc1 e6)
    have m := modP c 3 (by decide)
    refine ⟨.int c, rfl, .inl ⟨c, rfl, c, 3, rfl, rfl, (show (0 : Int) < 3 by decide), ?_⟩⟩
    exact fin (c % 3) H6 m.1 (by omega) e6
end
end Wk

set_option Elab.async false
set_option linter.all false
set_option maxRecDepth 100000
set_option maxHeartbeats 2000000
namespace Wk
open PySem PySem.Spec PyProof.Rows L2 Evl
/-! what stays grows by new things only -/
structure Gr (p q : Addr) (G H G' H' : Hp) : Prop where
  ex : Ex G G'
  nw : ∀ b, G b = none → H b ≠ none → G' b = none
  off : Of1 p H H'
  pl : Pm G' H' p q
theorem Gr.refl {p q : Addr} {G H : Hp} (h : Pm G H p q) : Gr p q G H G H := ⟨Ex.refl _, fun _ h _ => h, Of1.refl _ _, h⟩
theorem Gr.trans {p q : Addr} {G H G1 H1 G2 H2 : Hp} (a : Gr p q G H G1 H1) (b : Gr p q G1 H1 G2 H2) : Gr p q G H G2 H2 := by
  refine ⟨a.ex.trans b.ex, fun c hc hh => ?_, a.off.trans b.off, b.pl⟩
  by_cases cp : c = p
  · rw [cp]; exact b.pl.gp
  refine b.nw c (a.nw c hc hh) ?_
  cases hx : H c with
  | none => exact absurd hx hh
  | some o => rw [a.off c o cp hx]; simp
theorem Gr.new {p q t : Addr} {G H : Hp} {o : HO} (h : Pm G H p q) (ht : H t = none) : Gr p q G H (upd G t o) (upd H t o) := by
  refine ⟨Ex.new (fresh_back h.ex ht), fun b hb hh => ?_, Of1.ex (Ex.new ht), h.new ht⟩
  have nb : b ≠ t := fun z => hh (by rw [z]; exact ht)
  rw [upd_ne nb]
  exact hb
theorem Gr.ext {p q : Addr} {G H H' : Hp} (h : Pm G H p q) (e : Ex H H') : Gr p q G H G H' := ⟨Ex.refl _, fun _ h _ => h, Of1.ex e, h.ext e⟩
theorem Gr.draw {p q : Addr} {G H H' : Hp} (h : Pm G H p q) (h' : Pm (Hd1 H p) H' p q) : Gr p q G H G H' := ⟨Ex.refl _, fun _ h _ => h, h'.off, h.back h'⟩
/-! displays -/
def EvDt (p q : Addr) (te : TE) (σ : L2.St) (d : PyData) : Prop := ∀ G H, Pm G H p q → ∀ Q : VK, (∀ G' H' v, Gr p q G H G' H' → Dq G' v d → Q v H') → te σ H Q
def EvDA (p q : Addr) (ta : TA) (σ : L2.St) (ds : List PyData) : Prop := ∀ G H, Pm G H p q → ∀ Q : List V → Hp → Prop, (∀ G' H' vs, Gr p q G H G' H' → DqA G' vs ds → Q vs H') → ta σ H Q
section
variable {p q : Addr} {σ : L2.St} {te tb : TE} {ta : TA} {d : PyData} {ds es : List PyData}
theorem ed_c {v : V} (h : ∀ G, Dq G v d) : EvDt p q (tC v) σ d := fun G H hP Q k => k G H v (Gr.refl hP) (h G)
theorem ed_int {i : Nat} {x : Int} (h : σ[i]? = some (some (.int x))) : EvDt p q (tVar i) σ (.int x) := fun G H hP Q k => ⟨.int x, h, k G H _ (Gr.refl hP) (.int x)⟩
theorem ed_nil : EvDA p q tNil σ [] := fun G H hP Q k => k G H [] (Gr.refl hP) .nil
theorem ed_cons (h : EvDt p q te σ d) (hr : EvDA p q ta σ ds) : EvDA p q (tCons te ta) σ (d :: ds) := fun G H hP Q k =>
  h G H hP _ fun G1 H1 v g1 hv => hr G1 H1 g1.pl _ fun G2 H2 vs g2 hvs => k G2 H2 (v :: vs) (g1.trans g2) (.cons (hv.mono g2.ex) hvs)
theorem ed_tup (h : EvDA p q ta σ ds) (hl : ds.length ≤ 1000) : EvDt p q (tTup ta) σ (.tuple ds) := fun G H hP Q k =>
  h G H hP _ fun G1 H1 vs g1 hvs => ⟨by have := hvs.length; rw [sizeLine_eq]; omega, fun t ht => k (upd G1 t (.tup vs)) _ (.ref t) (g1.trans (Gr.new g1.pl ht)) (.tup upd_same (hvs.mono (Gr.new (o := .tup vs) g1.pl ht).ex))⟩
theorem ed_lst (h : EvDA p q ta σ ds) (hl : ds.length ≤ 1000) : EvDt p q (tLst ta) σ (.list ds) := fun G H hP Q k =>
  h G H hP _ fun G1 H1 vs g1 hvs => ⟨by have := hvs.length; rw [sizeLine_eq]; omega, fun t ht => k (upd G1 t (.lst vs)) _ (.ref t) (g1.trans (Gr.new g1.pl ht)) (.lst upd_same (hvs.mono (Gr.new (o := .lst vs) g1.pl ht).ex))⟩
theorem ed_dict : EvDt p q tDNewK σ (.dict []) := fun G H hP Q k t ht => k (upd G t (.dK [])) _ (.ref t) (Gr.new hP ht) (.dic upd_same)
/-- things + [..] -/
theorem ed_cat (G0 : Hp) {v : V} {i : Nat} (hv : σ[i]? = some (some v)) (h0 : Dq G0 v (.list ds)) (hb : EvDt p q tb σ (.list es)) (hl : ds.length + es.length ≤ 1000) {H : Hp} (hP : Pm G0 H p q) {Q : VK} (k : ∀ G' H' v, Gr p q G0 H G' H' → Dq G' v (.list (ds ++ es)) → Q v H') : tOp rCat (tVar i) tb σ H Q := by
  refine ⟨v, hv, hb G0 H hP _ fun G1 H1 u g1 hu => ?_⟩
  have h1 := h0.mono g1.ex
  cases h1 with
  | lst a1 a2 =>
    cases hu with
    | lst b1 b2 =>
      rename_i aa xs ab ys
      have l1 := a2.length
      have l2 := b2.length
      refine ⟨aa, ab, xs, ys, rfl, rfl, g1.pl.ex _ _ a1, g1.pl.ex _ _ b1, by rw [sizeLine_eq]; omega, fun t ht => ?_⟩
      have gn := Gr.new (o := .lst (xs ++ ys)) g1.pl ht
      exact k _ _ (.ref t) (g1.trans gn) (.lst upd_same ((a2.append b2).mono gn.ex))
end
theorem q_asgD {p q : Addr} {i : Nat} {te : TE} {tz : TS} {D : Ends} {σ : L2.St} {G H : Hp} {d : PyData} (h : EvDt p q te σ d) (hP : Pm G H p q) (k : ∀ G' H' v, Gr p q G H G' H' → Dq G' v d → tz D (σ.set i (some v)) H') : tSeq (tAsg te (gName i)) tz D σ H := h G H hP _ k
theorem q_catD {p q : Addr} {i j : Nat} {tb : TE} {tz : TS} {D : Ends} {σ : L2.St} {H : Hp} {ds es : List PyData} (G0 : Hp) {v : V} (hv : σ[i]? = some (some v)) (h0 : Dq G0 v (.list ds)) (hb : EvDt p q tb σ (.list es)) (hl : ds.length + es.length ≤ 1000) (hP : Pm G0 H p q) (k : ∀ G' H' v, Gr p q G0 H G' H' → Dq G' v (.list (ds ++ es)) → tz D (σ.set j (some v)) H') : tSeq (tAsg (tOp rCat (tVar i) tb) (gName j)) tz D σ H := ed_cat G0 hv h0 hb hl hP k
end Wk

set_option Elab.async false
set_option linter.all false
set_option maxRecDepth 100000
set_option maxHeartbeats 4000000
namespace PySem.SeqAt
open AutoSeq1 (wpAny_loadPart')
open MeetsSeq MeetsSeq2 MeetsSeq3 SeqRoads2
section
variable {prog : Program} {w : World}
/-- != of tuples within one world -/
theorem tuple_neIn (l b : Addr) (items items2 : Array Value) (n n2 : Nat) (dd dd2 : Option Addr) (sl sl2 : Array (Option Value)) (e : Nat → Bool) :
    MeetsIn prog w (Builtin.«tuple.__ne__» ⟨[.ref l, .ref b], []⟩)
      (fun A R s => s.heap.get? l = some { cls := .type "tuple", dict := dd, data := .seq items n, slots := sl } ∧ s.heap.get? b = some { cls := .type "tuple", dict := dd2, data := .seq items2 n2, slots := sl2 } ∧
        (∀ j (h1 : j < items.size) (h2 : j < items2.size), EqIn prog w A.in1 s items[j] items2[j] (e j)) ∧
        R (.ok (.ret (.bool (!((List.range (min items.size items2.size)).all e && items.size == items2.size))))) s) :=
  .of_wp fun A R s h => by
    obtain ⟨hp, g, d, tk, os⟩ := s; obtain ⟨hl, hb, he, h⟩ := h
    have f2 := AutoSeq1.sub_tuple_tuple
    have hZ : (items.toList.zip items2.toList).length = min items.size items2.size := by simp
    wp_walk using wpAny_loadPart' hl, wpAny_loadPart' hb, wpAny_forIn_list _ (fun rest b s' => b.1 = none ∧ s' = ⟨hp, g, d, tk, os⟩ ∧ ∃ i, rest = (items.toList.zip items2.toList).drop i ∧
      R (.ok (.ret (.bool (!(((List.range (min items.size items2.size)).drop i).all e && items.size == items2.size))))) ⟨hp, g, d, tk, os⟩) _
    case turn =>
      rintro ⟨y, x⟩ rest b s' ⟨hb', rfl, i, hz, hR⟩
      have hlt : i < (items.toList.zip items2.toList).length := by
        rcases Nat.lt_or_ge i (items.toList.zip items2.toList).length with h' | h'
        · exact h'
        · rw [List.drop_of_length_le h'] at hz; cases hz
      have hm : i < min items.size items2.size := hZ ▸ hlt
      have h1 : i < items.size := Nat.lt_of_lt_of_le hm (Nat.min_le_left _ _)
      have h2 : i < items2.size := Nat.lt_of_lt_of_le hm (Nat.min_le_right _ _)
      rw [List.drop_eq_getElem_cons hlt] at hz
      injection hz with hyx hrest
      have hy : y = items[i] := by have := congrArg Prod.fst hyx; simpa using this
      have hx : x = items2[i] := by have := congrArg Prod.snd hyx; simpa using this
      subst hy hx
      have hd : (List.range (min items.size items2.size)).drop i = i :: (List.range (min items.size items2.size)).drop (i + 1) := by simp [List.drop_eq_getElem_cons, hm]
      rw [hd, List.all_cons] at hR
      refine wpAny_bind (he i h1 h2 _ _ ?_)
      cases hy : e i with
      | true =>
        rw [hy] at hR
        wp_walk
        exact ⟨rfl, rfl, i + 1, hrest, by simpa using hR⟩
      | false =>
        rw [hy] at hR
        wp_walk
        exact ⟨_, rfl, by simpa using hR⟩
    case fin =>
      rintro ⟨b1, b2⟩ s' ⟨hb', rfl, i, hz, hR⟩
      simp only at hb'
      subst hb'
      have hge : min items.size items2.size ≤ i := by
        rcases Nat.lt_or_ge i (items.toList.zip items2.toList).length with h' | h'
        · rw [List.drop_eq_getElem_cons h'] at hz; cases hz
        · exact hZ ▸ h'
      rw [List.drop_of_length_le (by simpa using hge)] at hR
      wp_walk
      exact ⟨_, rfl, by simpa [Builtin.Tuple.tupleCompareSizes, bne] using hR⟩
    case h =>
      exact ⟨rfl, rfl, 0, rfl, by simpa using h⟩
end
section
variable {prog : Program} {w : World} {A : Around} {s : Shared}
theorem rcIn_tuples_ne {E : Value → Shared → Prop} {l b : Addr} {items items2 : Array Value} {e : Nat → Bool} {Q : Value → Shared → Prop} (hl : s.heap.IsTuple l items) (hb : s.heap.IsTuple b items2) (hu : A.units < cLine)
    (he : ∀ j (h1 : j < items.size) (h2 : j < items2.size), EqIn prog w A.in1 s items[j] items2[j] (e j)) (h : Q (.bool (!((List.range (min items.size items2.size)).all e && items.size == items2.size))) s) :
    wpAny (model prog w) A (richCompare .NotEq (.ref l) (.ref b)) Q E s := by
  obtain ⟨⟨cls, dd, data, sl⟩, ho, hc, n, hd⟩ := id hl
  obtain ⟨⟨cls2, dd2, data2, sl2⟩, ho2, hc2, n2, hd2⟩ := id hb
  simp only at hc hd hc2 hd2
  subst hc hd hc2 hd2
  exact wpAny_richCompare_same_room (T := "tuple") (op := .NotEq) ⟨_, ho, rfl⟩ ⟨_, ho2, rfl⟩ F.slot_tuple_ne (call_meetsIn F.slot_tuple_ne ⟨_, ho, rfl⟩ F.entry_tuple_ne (F.args_tuple_ne_2 _ _) (tuple_neIn l b items items2 n n2 dd dd2 sl sl2 e)
    ⟨ho, ho2, he, show Value.bool (!((List.range (min items.size items2.size)).all e && items.size == items2.size)) ≠ Value.notImplemented ∧ Q (.bool (!((List.range (min items.size items2.size)).all e && items.size == items2.size))) s from ⟨(fun x => nomatch x), h⟩⟩) hu
end
end PySem.SeqAt
namespace Wk
open PySem PySem.Spec PyProof.Rows L2 Evl
/-! entries compared -/
def gtE (x y : Int × Int) : Bool := if x.1 = y.1 then decide (y.2 < x.2) else decide (y.1 < x.1)
def rGtP (K : PySem.W.Frag) : R2 := fun x y H Q => ∃ (a b : Addr) (p q : Int × Int), x = .ref a ∧ y = .ref b ∧ SqT K H a [.int p.1, .int p.2] ∧ SqT K H b [.int q.1, .int q.2] ∧ Q (.bl (gtE p q)) H
theorem op_gtP {X : Cx} {K : PySem.W.Frag} (hK : X.K = K) (hu : X.A.units < cLine) : OpR X (compareOp .Gt) (rGtP K) := by
  subst hK
  intro pins s σ H x y v u Q I rx ry h
  obtain ⟨a, b, p, q', rfl, rfl, ha, hb, q⟩ := h
  cases rx
  cases ry
  obtain ⟨its, r1, p1, _⟩ := I.tuple ha
  obtain ⟨its2, r2, p2, _⟩ := I.tuple hb
  have i1 : IntsAre its [p.1, p.2] := Vals.ints (ns := [p.1, p.2]) r1
  have i2 : IntsAre its2 [q'.1, q'.2] := Vals.ints (ns := [q'.1, q'.2]) r2
  have e1 : its.toArray.size = 2 := by rw [List.size_toArray]; exact i1.length
  have e2 : its2.toArray.size = 2 := by rw [List.size_toArray]; exact i2.length
  have at1 : ∀ j (h1 : j < its.toArray.size), ∃ t, its.toArray[j] = .int ([p.1, p.2].getD j 0) t := fun j h1 => PyProof.Rows.IntsAre.int_at i1 _ _ (by simp at h1; simp [h1])
  have at2 : ∀ j (h1 : j < its2.toArray.size), ∃ t, its2.toArray[j] = .int ([q'.1, q'.2].getD j 0) t := fun j h1 => PyProof.Rows.IntsAre.int_at i2 _ _ (by simp at h1; simp [h1])
  have R := Ob.RcOp.tuples_gt (A := X.A) (s := s) (e := fun j => decide ([p.1, p.2].getD j 0 = [q'.1, q'.2].getD j 0)) (r := fun j => decide ([p.1, p.2].getD j 0 > [q'.1, q'.2].getD j 0)) p1 p2 hu (fun j h1 h2 => by
    obtain ⟨t, et⟩ := at1 j h1
    obtain ⟨t', et'⟩ := at2 j h2
    rw [et, et']
    have z : ([p.1, p.2].getD j 0 == [q'.1, q'.2].getD j 0) = decide ([p.1, p.2].getD j 0 = [q'.1, q'.2].getD j 0) := by
      by_cases q : [p.1, p.2].getD j 0 = [q'.1, q'.2].getD j 0
      · rw [decide_eq_true q]; exact beq_iff_eq.mpr q
      · rw [decide_eq_false q]; exact beq_eq_false_iff_ne.mpr q
    rw [← z]
    exact SeqAt.EqAt.int_int _ _ _ _) (fun j h1 h2 _ => by
    obtain ⟨t, et⟩ := at1 j h1
    obtain ⟨t', et'⟩ := at2 j h2
    rw [et, et']
    exact Ob.RcOp.gt_int _ _ _ _)
  rw [e1, e2] at R
  have ev : Ob.lexAt (fun j => decide ([p.1, p.2].getD j 0 = [q'.1, q'.2].getD j 0)) (fun j => decide ([p.1, p.2].getD j 0 > [q'.1, q'.2].getD j 0)) (decide (2 > 2)) 0 (min 2 2) = gtE p q' := by
    show Ob.lexAt _ _ _ 0 2 = _
    rw [Ob.lexAt_succ, Ob.lexAt_succ, Ob.lexAt_zero]
    show (if decide (p.1 = q'.1) = true then (if decide (p.2 = q'.2) = true then decide (2 > 2) else decide (p.2 > q'.2)) else decide (p.1 > q'.1)) = _
    unfold gtE
    by_cases h1 : p.1 = q'.1
    · by_cases h2 : p.2 = q'.2
      · simp [h1, h2]
      · simp [h1, h2]
    · simp [h1]
  have z : wpAny (model X.prog X.w) X.A (compareOp .Gt (.ref a) (.ref b)) (EP X pins σ Q) X.xe s := R X.prog X.w X.xe (EP X pins σ Q) ⟨.bl (gtE p q'), H, I, congrArg Value.bool ev, q⟩
  exact z
/-! == and != of tuples and dicts, nested -/
inductive EqV (H : Hp) : Nat → V → V → Bool → Prop
  | data {n : Nat} {x y : V} {d e : PyData} : Dq H x d → Dq H y e → d.canLay0 = true → e.canLay0 = true → d.depth ≤ n → EqV H n x y (PyData.eqv d e)
  | same {n : Nat} {a : Addr} : EqV H n (.ref a) (.ref a) true
  | tup {n : Nat} {a b : Addr} {xs ys : List V} (e : Nat → Bool) : a ≠ b → H a = some (.tup xs) → H b = some (.tup ys) → (∀ j x y, xs[j]? = some x → ys[j]? = some y → EqV H n x y (e j)) →
      EqV H (n + 1) (.ref a) (.ref b) ((List.range (min xs.length ys.length)).all e && xs.length == ys.length)
  | dic {n : Nat} {a b : Addr} {ks ls : List (L2.Key × V)} (e : L2.Key → Bool) : a ≠ b → H a = some (.dK ks) → H b = some (.dK ls) → (∀ k v y, (k, v) ∈ ks → valV ls k = some y → EqV H n v y (e k)) →
      EqV H (n + 1) (.ref a) (.ref b) (ks.length == ls.length && ks.all fun p => (valV ls p.1).isSome && e p.1)
theorem kv_mem {ks : List (L2.Key × V)} {vs : List (L2.Key × Value)} (r : KV ks vs) {k : L2.Key} {u : Value} (h : (k, u) ∈ vs) : ∃ v, (k, v) ∈ ks ∧ RelV v u := by
  induction r with
  | nil => cases h
  | @cons p q ps qs h1 t ih =>
    rcases List.mem_cons.mp h with e | e
    · obtain ⟨h2, h3⟩ := h1
      refine ⟨p.2, List.mem_cons.mpr (.inl ?_), ?_⟩
      · rw [show k = p.1 by rw [h2, ← e]]
      · rw [← e] at h3; exact h3
    · obtain ⟨v, a, b⟩ := ih e
      exact ⟨v, List.mem_cons_of_mem _ a, b⟩
theorem kv_all {ks : List (L2.Key × V)} {vs : List (L2.Key × Value)} (r : KV ks vs) (f : L2.Key → Bool) : (vs.all fun p => f p.1) = (ks.all fun p => f p.1) := by
  induction r with
  | nil => rfl
  | @cons p q ps qs h1 t ih =>
    rw [List.all_cons, List.all_cons, ih, h1.1]
section
variable {X : Cx} {pins : List (Addr × Obj)} {σ : L2.St} {H : Hp} {s : Shared}
theorem EqV.tree (I : Inv X pins σ H s) {n : Nat} {x y : V} {b : Bool} (t : EqV H n x y b) : ∀ v u, RelV x v → RelV y u → PySem.W.EqTree X.prog X.w s n v u b := by
  induction t with
  | @data n x y d e hx hy hd he hdep =>
    intro v u rv ru
    obtain ⟨as, ra⟩ := Dp.reads I d x v (Dq.dp (K := X.K) hd hx) rv
    obtain ⟨bs, rb⟩ := Dp.reads I e y u (Dq.dp (K := X.K) he hy) ru
    exact .leaf fun A hu => SeqAt.eqAt_reads d e A s v u as bs ra rb hd he (by have := Nat.min_le_left d.depth e.depth; omega)
  | same =>
    intro v u rv ru
    cases rv
    cases ru
    exact .same
  | @tup n a b xs ys e hne ha hb _ ih =>
    intro v u rv ru
    cases rv
    cases ru
    obtain ⟨its, r1, p1, _⟩ := I.tuple (st_of ha)
    obtain ⟨its2, r2, p2, _⟩ := I.tuple (st_of hb)
    have z := PySem.W.EqTree.tuples (prog := X.prog) (w := X.w) (n := n) (e := e) hne p1 p2 fun j h1 h2 => by
      have h1' : j < xs.length := by rw [r1.length]; simpa using h1
      have h2' : j < ys.length := by rw [r2.length]; simpa using h2
      obtain ⟨v1, e1, q1⟩ := r1.get (List.getElem?_eq_getElem h1')
      obtain ⟨v2, e2, q2⟩ := r2.get (List.getElem?_eq_getElem h2')
      have g1 : its.toArray[j] = v1 := by
        have : its[j]? = some v1 := e1
        obtain ⟨_, w⟩ := List.getElem?_eq_some_iff.mp this
        simpa using w
      have g2 : its2.toArray[j] = v2 := by
        have : its2[j]? = some v2 := e2
        obtain ⟨_, w⟩ := List.getElem?_eq_some_iff.mp this
        simpa using w
      rw [g1, g2]
      exact ih j _ _ (List.getElem?_eq_getElem h1') (List.getElem?_eq_getElem h2') v1 v2 q1 q2
    rw [List.size_toArray, List.size_toArray, ← r1.length, ← r2.length] at z
    exact z
  | @dic n a b ks ls e hne ha hb _ ih =>
    intro v u rv ru
    cases rv
    cases ru
    obtain ⟨_, hsa, va, ra, da⟩ := dk_of I.hok ha
    obtain ⟨_, hsb, vb, rb, db⟩ := dk_of I.hok hb
    have z := PySem.W.EqTree.dicts (prog := X.prog) (w := X.w) (n := n) (e := e) hne hsa hsb da db fun k v1 y1 hm hv => by
      obtain ⟨v2, m2, q2⟩ := kv_mem ra hm
      have ro := rb.val k
      rw [hv] at ro
      cases hl : valV ls k with
      | none => rw [hl] at ro; cases ro
      | some y2 =>
        rw [hl] at ro
        exact ih k v2 y2 m2 hl v1 y1 q2 ro
    have e2 : (va.all fun p => (valueAt vb p.1).isSome && e p.1) = (ks.all fun p => (valV ls p.1).isSome && e p.1) := by
      rw [kv_all ra fun k => (valueAt vb k).isSome && e k]
      congr 1
      funext p
      rw [(rb.val p.1).isSome_eq]
    rw [e2, ← ra.length, ← rb.length] at z
    exact z
def rEqX : R2 := fun x y H Q => ∃ (a b : Addr) (xs ys : List V) (e : Nat → Bool) (n : Nat), x = .ref a ∧ y = .ref b ∧ H a = some (.tup xs) ∧ H b = some (.tup ys) ∧ n ≤ 20 ∧ (∀ j x y, xs[j]? = some x → ys[j]? = some y → EqV H n x y (e j)) ∧ Q (.bl ((List.range (min xs.length ys.length)).all e && xs.length == ys.length)) H
def rNeX : R2 := fun x y H Q => ∃ (a b : Addr) (xs ys : List V) (e : Nat → Bool) (n : Nat), x = .ref a ∧ y = .ref b ∧ H a = some (.tup xs) ∧ H b = some (.tup ys) ∧ n ≤ 20 ∧ (∀ j x y, xs[j]? = some x → ys[j]? = some y → EqV H n x y (e j)) ∧ Q (.bl (!((List.range (min xs.length ys.length)).all e && xs.length == ys.length))) H
theorem at_arr {its : List Value} {xs : List V} (r : Vals xs its) {j : Nat} (h1 : j < its.toArray.size) : ∃ x, xs[j]? = some x ∧ RelV x its.toArray[j] := by
  have h1' : j < xs.length := by rw [r.length]; simpa using h1
  obtain ⟨v1, e1, q1⟩ := r.get (List.getElem?_eq_getElem h1')
  have g1 : its.toArray[j] = v1 := by
    have : its[j]? = some v1 := e1
    obtain ⟨_, w⟩ := List.getElem?_eq_some_iff.mp this
    simpa using w
  rw [g1]
  exact ⟨_, List.getElem?_eq_getElem h1', q1⟩
theorem op_eqX (hu : X.A.units + 64 < cLine) : OpR X (compareOp .Eq) rEqX := by
  intro pins s σ H x y v u Q I rx ry h
  obtain ⟨a, b, xs, ys, e, n, rfl, rfl, ha, hb, hn, he, q⟩ := h
  cases rx
  cases ry
  obtain ⟨its, r1, p1, _⟩ := I.tuple (st_of ha)
  obtain ⟨its2, r2, p2, _⟩ := I.tuple (st_of hb)
  refine PySem.W.eq_tuplesT (n := n) (e := e) p1 p2 (fun j h1 h2 => ?_) (by omega) ⟨.bl _, H, I, rfl, ?_⟩
  · obtain ⟨x1, ex, qx⟩ := at_arr r1 h1
    obtain ⟨y1, ey, qy⟩ := at_arr r2 h2
    exact (he j x1 y1 ex ey).tree I _ _ qx qy
  · rw [List.size_toArray, List.size_toArray, ← r1.length, ← r2.length]
    exact q
theorem op_neX (hu : X.A.units + 64 < cLine) : OpR X (compareOp .NotEq) rNeX := by
  intro pins s σ H x y v u Q I rx ry h
  obtain ⟨a, b, xs, ys, e, n, rfl, rfl, ha, hb, hn, he, q⟩ := h
  cases rx
  cases ry
  obtain ⟨its, r1, p1, _⟩ := I.tuple (st_of ha)
  obtain ⟨its2, r2, p2, _⟩ := I.tuple (st_of hb)
  refine SeqAt.rcIn_tuples_ne (e := e) p1 p2 (by omega) (fun j h1 h2 => ?_) ⟨.bl _, H, I, rfl, ?_⟩
  · obtain ⟨x1, ex, qx⟩ := at_arr r1 h1
    obtain ⟨y1, ey, qy⟩ := at_arr r2 h2
    exact ((he j x1 y1 ex ey).tree I _ _ qx qy).at X.A.in1 (by show X.A.in1.units + n < cLine; simp; omega)
  · rw [List.size_toArray, List.size_toArray, ← r1.length, ← r2.length]
    exact q
end
/-! t * n of a tuple -/
theorem tuple_mul1 (l : Addr) (items : Array Value) (n : Nat) (dd : Option Addr) (sl : Array (Option Value)) (u : Tok) :
    Meets (Builtin.«tuple.__mul__» ⟨[.ref l, .int 1 u], []⟩) (fun _ R s => s.heap.get? l = some { cls := .type "tuple", dict := dd, data := .seq items n, slots := sl } ∧ R (.ok (.ret (Value.ref l))) s) :=
  .of_wp fun prog w A R s h => by
    obtain ⟨hp, g, d, tk, os⟩ := s
    obtain ⟨hl, h⟩ := h
    have f1 := AutoSeq1.idx_int
    wp_walk using wpAny_loadPart' hl
    exact ⟨_, rfl, h⟩
end Wk

set_option Elab.async false
set_option linter.all false
set_option maxRecDepth 100000
set_option maxHeartbeats 2000000
namespace Wk
open PySem PySem.Spec PyProof.Rows L2 Evl
/-! dicts whose keys are whole numbers, made by a comprehension -/
def pf (g : Int → V) (ks : List Int) : List (L2.Key × V) := ks.foldl (fun a k => putK a (.inl k) (g k)) []
theorem pf_snoc (g : Int → V) (ks : List Int) (k : Int) : pf g (ks ++ [k]) = putK (pf g ks) (.inl k) (g k) := by
  unfold pf
  rw [List.foldl_append]
  rfl
theorem putK_old {kvs : List (L2.Key × V)} {k : L2.Key} {v : V} (hm : k ∈ kvs.map (·.1)) : (putK kvs k v).map (·.1) = kvs.map (·.1) := by
  unfold putK
  have h : (kvs.any fun kv => decide (kv.1 = k)) = true := by
    obtain ⟨p, hp, e⟩ := List.mem_map.mp hm
    exact List.any_eq_true.mpr ⟨p, hp, decide_eq_true e⟩
  rw [if_pos h, List.map_map]
  refine List.map_congr_left fun p _ => ?_
  show (if p.1 = k then (p.1, v) else p).1 = p.1
  split <;> rfl
theorem putK_new {kvs : List (L2.Key × V)} {k : L2.Key} {v : V} (h : k ∉ kvs.map (·.1)) : putK kvs k v = kvs ++ [(k, v)] := by
  unfold putK
  have h' : ¬ (kvs.any fun kv => decide (kv.1 = k)) = true := fun z => by
    obtain ⟨p, hp, e⟩ := List.any_eq_true.mp z
    exact h (List.mem_map.mpr ⟨p, hp, of_decide_eq_true e⟩)
  rw [if_neg h']
/-- the keys of a dict are whole numbers that differ -/
def NK (kvs : List (L2.Key × V)) (ks : List Int) : Prop := kvs.map (·.1) = ks.map Sum.inl ∧ ks.Nodup
theorem NK.put {kvs : List (L2.Key × V)} {ks : List Int} (h : NK kvs ks) (k : Int) (v : V) : NK (putK kvs (.inl k) v) (if k ∈ ks then ks else ks ++ [k]) := by
  have hm : (Sum.inl k : L2.Key) ∈ kvs.map (·.1) ↔ k ∈ ks := by
    rw [h.1, List.mem_map]
    constructor
    · rintro ⟨x, hx, e⟩
      injection e with e
      rw [← e]; exact hx
    · exact fun hk => ⟨k, hk, rfl⟩
  unfold NK
  by_cases hk : k ∈ ks
  · rw [if_pos hk, putK_old (hm.mpr hk)]
    exact h
  · rw [if_neg hk, putK_new (fun z => hk (hm.mp z))]
    refine ⟨?_, nd_snoc h.2 hk⟩
    rw [List.map_append, List.map_append, h.1]
    rfl
theorem valV_pf (g : Int → V) (k : Int) : ∀ n (ks : List Int), ks.length = n → valV (pf g ks) (.inl k) = if k ∈ ks then some (g k) else none
  | 0, ks, h => by
    rw [List.length_eq_zero_iff.mp h]
    rfl
  | n + 1, ks, h => by
    obtain ⟨l, x, rfl⟩ : ∃ l x, ks = l ++ [x] := ⟨ks.dropLast, ks.getLast (by intro z; rw [z] at h; cases h), (List.dropLast_concat_getLast _).symm⟩
    have ih := valV_pf g k n l (by simpa using h)
    rw [pf_snoc, valV_put, ih]
    by_cases e : k = x
    · rw [if_pos (by rw [e]), if_pos (by rw [e]; simp), e]
    · rw [if_neg (fun z => e (by injection z))]
      by_cases hl : k ∈ l
      · rw [if_pos hl, if_pos (List.mem_append_left _ hl)]
      · rw [if_neg hl, if_neg (fun z => (List.mem_append.mp z).elim hl fun y => e (List.mem_singleton.mp y))]
theorem nk_pf (g : Int → V) : ∀ n (ks : List Int), ks.length = n → ∃ js, NK (pf g ks) js ∧ (∀ k, k ∈ js ↔ k ∈ ks) ∧ js.length ≤ n
  | 0, ks, h => by
    rw [List.length_eq_zero_iff.mp h]
    exact ⟨[], ⟨rfl, List.nodup_nil⟩, fun k => Iff.rfl, Nat.le_refl _⟩
  | n + 1, ks, h => by
    obtain ⟨l, x, rfl⟩ : ∃ l x, ks = l ++ [x] := ⟨ks.dropLast, ks.getLast (by intro z; rw [z] at h; cases h), (List.dropLast_concat_getLast _).symm⟩
    obtain ⟨js, h1, h2, h3⟩ := nk_pf g n l (by simpa using h)
    have z := h1.put x (g x)
    rw [← pf_snoc] at z
    refine ⟨_, z, fun k => ?_, ?_⟩
    · by_cases hx : x ∈ js
      · rw [if_pos hx, h2, List.mem_append, List.mem_singleton]
        exact ⟨fun h => .inl h, fun h => h.elim id fun e => by rw [e]; exact (h2 x).mp hx⟩
      · rw [if_neg hx, List.mem_append, List.mem_append, h2]
    · split
      · omega
      · rw [List.length_append]; simp; omega
theorem pf_nodup (g : Int → V) : ∀ n (ks : List Int), ks.length = n → ks.Nodup → pf g ks = ks.map fun k => (Sum.inl k, g k)
  | 0, ks, h, _ => by
    rw [List.length_eq_zero_iff.mp h]
    rfl
  | n + 1, ks, h, nd => by
    obtain ⟨l, x, rfl⟩ : ∃ l x, ks = l ++ [x] := ⟨ks.dropLast, ks.getLast (by intro z; rw [z] at h; cases h), (List.dropLast_concat_getLast _).symm⟩
    have hx : x ∉ l := fun z => by
      have := (List.nodup_append.mp nd).2.2 x z x (by simp)
      exact this rfl
    have ih := pf_nodup g n l (by simpa using h) (List.nodup_append.mp nd).1
    rw [pf_snoc, ih, putK_new, List.map_append]
    · rfl
    · rw [List.map_map, List.mem_map]
      rintro ⟨y, hy, e⟩
      have e : y = x := by injection e
      exact hx (e ▸ hy)
theorem filter_take {ks : List Int} {f : Int → Bool} {i : Nat} {k : Int} (h : ks[i]? = some k) : (ks.take (i + 1)).filter f = (ks.take i).filter f ++ (if f k = true then [k] else []) := by
  rw [take_snoc h, List.filter_append]
  congr 1
  by_cases z : f k = true
  · rw [if_pos z]; simp [z]
  · rw [if_neg z]; simp [z]
def Yk (ks : List Int) : Nat → Hp → V → Hp → Prop := fun i H x H' => H' = H ∧ ∃ k, ks[i]? = some k ∧ x = .int k
/-- {k: v for k in .. if ..} -/
theorem dc_it {J : It} {ks : List Int} {Gd : Hp → Prop} {j : Nat} {vs : List Nat} {σ : L2.St} {H : Hp} {D : Addr} {Qd : Hp → Prop} {tt : TT} {tv : TE} (f : Int → Bool) (g : Int → V) (w : Walk J ks.length Gd (Yk ks)) (hD : H D = none) (hn : ks.length ≤ 1000)
    (hG : ∀ H', Ex H H' → Gd H') (hw : ∀ x, wipe ((wipe σ vs).set j (some x)) vs = wipe σ vs) (hj : j < σ.length)
    (ht : ∀ k ∈ ks, ∀ H', Ex H H' → EvT tt ((wipe σ vs).set j (some (.int k))) H' (f k)) (hv : ∀ k ∈ ks, f k = true → ∀ H', Ex H H' → Ev tv ((wipe σ vs).set j (some (.int k))) H' (g k))
    (hq : ∀ H', Ex H H' → H' D = some (.dK (pf g (ks.filter f))) → Qd H') :
    ∃ W : Nat → Nat → Hp → Prop, (∃ m, W 0 m (upd H D (.dK []))) ∧ ∀ i m H, W i m H →
      (J.stop i H ∧ Qd H) ∨ (J.go i H ∧ ∃ Nx : Hp → Prop, (∀ H', Nx H' → ∃ m', m' < m ∧ W (i + 1) m' H') ∧ ∀ x H', J.yld i H x H' → gName j x (wipe σ vs) H' fun σ2 H2 => wipe σ2 vs = wipe σ vs ∧ tt σ2 H2 fun b H3 =>
        if b = true then tVar j σ2 H3 fun y H4 => tv σ2 H4 fun z H5 => ∃ kvs k, y = kV k ∧ H5 D = some (.dK kvs) ∧ kvs.length < sizeLine ∧ Nx (upd H5 D (.dK (putK kvs k z))) else Nx H3) := by
  have Pn : ∀ i H', (i ≤ ks.length ∧ Ex H H' ∧ H' D = some (.dK (pf g ((ks.take i).filter f)))) → Gd H' := fun i H' p => hG H' p.2.1
  refine ⟨fun i m H' => m = ks.length - i ∧ i ≤ ks.length ∧ Ex H H' ∧ H' D = some (.dK (pf g ((ks.take i).filter f))), ⟨ks.length, by simp, Nat.zero_le _, Ex.new hD, by rw [List.take_zero]; exact upd_same⟩, ?_⟩
  rintro i m H1 ⟨rfl, hi, e1, d1⟩
  by_cases lt : i < ks.length
  · refine .inr ⟨w.goes i H1 lt (hG H1 e1), fun H' => Ex H H' ∧ H' D = some (.dK (pf g ((ks.take (i + 1)).filter f))), fun H' p => ⟨ks.length - (i + 1), by omega, rfl, lt, p⟩, fun x H' y => ?_⟩
    obtain ⟨rfl, k, hk, rfl⟩ := w.yields i H1 x H' lt (hG H1 e1) y
    have hkm := List.mem_of_getElem? hk
    refine ⟨hw _, ?_⟩
    refine ht k hkm H' e1 H' (Ex.refl _) _ fun H3 e3 => ?_
    rw [filter_take hk]
    cases hf : f k with
    | false =>
      simp only [Bool.false_eq_true, if_false, List.append_nil]
      exact ⟨e1.trans e3, e3 _ _ d1⟩
    | true =>
      simp only [if_true]
      refine ⟨.int k, ?_, hv k hkm hf H' e1 H3 e3 _ fun H5 e5 => ⟨_, .inl k, rfl, e5 _ _ (e3 _ _ d1), ?_, Ex.mut ((e1.trans e3).trans e5) hD, ?_⟩⟩
      · rw [List.getElem?_set_self]
        rw [wipe_length]; exact hj
      · obtain ⟨js, n1, _, n3⟩ := nk_pf g _ ((ks.take i).filter f) rfl
        have l1 : (pf g ((ks.take i).filter f)).length = js.length := by
          have := congrArg List.length n1.1
          simpa using this
        have l2 := List.length_filter_le f (ks.take i)
        have l3 : (ks.take i).length ≤ ks.length := by rw [List.length_take]; omega
        rw [l1, sizeLine_eq]
        omega
      · rw [upd_same, pf_snoc]
  · have e : i = ks.length := by omega
    subst e
    rw [List.take_length] at d1
    exact .inl ⟨w.stops H1 (hG H1 e1), hq H1 e1 d1⟩
theorem walk_ints {K : PySem.W.Frag} {a : Addr} {ks : List Int} : Walk (Itl K a) ks.length (fun H => SqL K H a (ks.map V.int)) (Yk ks) := by
  have w := walk_list (K := K) (a := a) (xs := ks.map V.int)
  rw [List.length_map] at w
  refine w.mono (fun H h => h) fun i H x H' hi _ y => ⟨y.1, ?_⟩
  have h2 := y.2
  rw [List.getElem?_map] at h2
  cases hk : ks[i]? with
  | none => rw [hk] at h2; cases h2
  | some k => rw [hk] at h2; exact ⟨k, rfl, (Option.some.inj h2).symm⟩
theorem walk_keysI {d : Addr} {o : Obj} {kvs : List (L2.Key × V)} {ks : List Int} (h : kvs.map (·.1) = ks.map Sum.inl) : Walk (Itk d o kvs) ks.length (fun H => H d = some (.frz o (.dK kvs))) (Yk ks) := by
  have hl : kvs.length = ks.length := by
    have := congrArg List.length h
    simpa using this
  have w := walk_keys (d := d) (o := o) (kvs := kvs)
  rw [hl] at w
  refine w.mono (fun H h => h) fun i H x H' hi _ y => ⟨y.1, ?_⟩
  obtain ⟨k, v, h1, h2⟩ := y.2
  have h3 : (kvs.map (·.1))[i]? = some k := by rw [List.getElem?_map, h1]; rfl
  rw [h, List.getElem?_map] at h3
  cases hk : ks[i]? with
  | none => rw [hk] at h3; cases h3
  | some z =>
    rw [hk] at h3
    have e : Sum.inl z = k := Option.some.inj h3
    refine ⟨z, rfl, ?_⟩
    rw [h2, ← e]
    rfl
/-- the same of a dict's keys: it is locked -/
theorem dc_keys {kvs : List (L2.Key × V)} {ks : List Int} {d : Addr} {n j : Nat} {vs : List Nat} {σ : L2.St} {H : Hp} {tt : TT} {tv : TE} {Q : VK} (f : Int → Bool) (g : Int → V) (hσ : σ[n]? = some (some (.ref d))) (hd : H d = some (.dK kvs)) (hk : kvs.map (·.1) = ks.map Sum.inl) (hn : ks.length ≤ 1000)
    (hw : ∀ x, wipe ((wipe σ vs).set j (some x)) vs = wipe σ vs) (hj : j < σ.length)
    (ht : ∀ k ∈ ks, ∀ H', (∀ b u, H b = some u → Rd H' b u) → (∀ b u, b ≠ d → H b = some u → H' b = some u) → EvT tt ((wipe σ vs).set j (some (.int k))) H' (f k))
    (hv : ∀ k ∈ ks, f k = true → ∀ H', (∀ b u, H b = some u → Rd H' b u) → (∀ b u, b ≠ d → H b = some u → H' b = some u) → Ev tv ((wipe σ vs).set j (some (.int k))) H' (g k))
    (hq : ∀ H' D, Ex H H' → H D = none → H' D = some (.dK (pf g (ks.filter f))) → Q (.ref D) H') : tLockE (tDc (iKeys (tVar n)) (gName j) tt (tVar j) tv vs) σ H Q := by
  refine ⟨d, .dK kvs, hd, trivial, fun od => ?_⟩
  refine ⟨.ref d, hσ, d, od, rfl, .inl ⟨kvs, upd_same, fun D hD => ?_⟩⟩
  have nDd : D ≠ d := fun z => by rw [z, upd_same] at hD; cases hD
  have hD' : H D = none := by rw [upd_ne nDd] at hD; exact hD
  have r1 : ∀ H', Ex (upd H d (.frz od (.dK kvs))) H' → ∀ b u, b ≠ d → H b = some u → H' b = some u := fun H' e b u nb hb => e _ _ (by rw [upd_ne nb]; exact hb)
  have r2 : ∀ H', Ex (upd H d (.frz od (.dK kvs))) H' → ∀ b u, H b = some u → Rd H' b u := fun H' e b u hb => by
    by_cases z : b = d
    · rw [z, hd] at hb
      cases hb
      exact .inr ⟨od, by rw [z]; exact e _ _ upd_same⟩
    · exact .inl (r1 H' e b u z hb)
  refine dc_it (H := upd H d (.frz od (.dK kvs))) f g (walk_keysI (o := od) hk) hD hn (fun H' e => e _ _ upd_same) hw hj (fun k hk H' e => ht k hk H' (r2 H' e) (r1 H' e)) (fun k hk hf H' e => hv k hk hf H' (r2 H' e) (r1 H' e)) fun H' e hD2 => ⟨e _ _ upd_same, ?_⟩
  refine hq _ D (fun b u hb => ?_) hD' (by rw [upd_ne nDd]; exact hD2)
  by_cases z : b = d
  · rw [z, hd] at hb
    rw [z, upd_same]
    exact hb
  · rw [upd_ne z]
    exact r1 H' e b u z hb
section
variable {σ : L2.St} {H : Hp} {ta tb tc : TE}
theorem ev_dget {a : Addr} {k : Int} {v : V} {kvs : List (L2.Key × V)} (ha : Ev ta σ H (.ref a)) (hk : Ev tb σ H (.int k)) (hr : Rd H a (.dK kvs)) (hv : valV kvs (.inl k) = some v) : Ev (tDGet ta tb) σ H v := fun H1 e Q q =>
  ha H1 e _ fun H2 e2 => hk H2 (e.trans e2) _ fun H3 e3 => ⟨a, v, rfl, .inl ⟨kvs, .inl k, hr.elim (fun h => .inl (((e.trans e2).trans e3) _ _ h)) (fun ⟨o, h⟩ => .inr ⟨o, ((e.trans e2).trans e3) _ _ h⟩), rfl, hv.symm⟩, q H3 (e2.trans e3)⟩
theorem rd_up {H H' : Hp} {a : Addr} {u : HO} (e : Ex H H') (h : Rd H a u) : Rd H' a u := h.elim (fun h => .inl (e _ _ h)) fun ⟨o, h⟩ => .inr ⟨o, e _ _ h⟩
theorem ev_dget1 {a : Addr} {k : Int} {v : Option V} {kvs : List (L2.Key × V)} (ha : Ev ta σ H (.ref a)) (hk : Ev tb σ H (.int k)) (hr : Rd H a (.dK kvs)) (hv : valV kvs (.inl k) = v) : Ev (tDGet1 ta tb) σ H (v.getD .non) := fun H1 e Q q =>
  ha H1 e _ fun H2 e2 => ⟨a, rfl, .inl ⟨kvs, rd_up (e.trans e2) hr⟩, hk H2 (e.trans e2) _ fun H3 e3 => ⟨v, .inl ⟨kvs, .inl k, rd_up ((e.trans e2).trans e3) hr, rfl, hv.symm⟩, q H3 (e2.trans e3)⟩⟩
theorem ev_dget2 {a : Addr} {k : Int} {v : Option V} {z : V} {kvs : List (L2.Key × V)} (ha : Ev ta σ H (.ref a)) (hk : Ev tb σ H (.int k)) (hz : Ev tc σ H z) (hr : Rd H a (.dK kvs)) (hv : valV kvs (.inl k) = v) : Ev (tDGet2 ta tb tc) σ H (v.getD z) := fun H1 e Q q =>
  ha H1 e _ fun H2 e2 => ⟨a, rfl, .inl ⟨kvs, rd_up (e.trans e2) hr⟩, hk H2 (e.trans e2) _ fun H3 e3 => hz H3 ((e.trans e2).trans e3) _ fun H4 e4 => ⟨v, .inl ⟨kvs, .inl k, rd_up (((e.trans e2).trans e3).trans e4) hr, rfl, hv.symm⟩, q H4 ((e2.trans e3).trans e4)⟩⟩
theorem ev_dnot {a : Addr} {k : Int} {kvs : List (L2.Key × V)} (hk : Ev tb σ H (.int k)) (ha : Ev ta σ H (.ref a)) (hr : Rd H a (.dK kvs)) : Ev (tDNotIn tb ta) σ H (.bl (!(valV kvs (.inl k)).isSome)) := fun H1 e Q q =>
  hk H1 e _ fun H2 e2 => ha H2 (e.trans e2) _ fun H3 e3 => ⟨a, _, rfl, .inl ⟨kvs, .inl k, rd_up ((e.trans e2).trans e3) hr, rfl, rfl⟩, q H3 (e2.trans e3)⟩
theorem ev_din {a : Addr} {k : Int} {kvs : List (L2.Key × V)} (hk : Ev tb σ H (.int k)) (ha : Ev ta σ H (.ref a)) (hr : Rd H a (.dK kvs)) : Ev (tDIn tb ta) σ H (.bl (valV kvs (.inl k)).isSome) := fun H1 e Q q =>
  hk H1 e _ fun H2 e2 => ha H2 (e.trans e2) _ fun H3 e3 => ⟨a, _, rfl, .inl ⟨kvs, .inl k, rd_up ((e.trans e2).trans e3) hr, rfl, rfl⟩, q H3 (e2.trans e3)⟩
end
end Wk

set_option Elab.async false
set_option linter.all false
set_option maxRecDepth 100000
set_option maxHeartbeats 2000000
namespace L2
open PySem PySem.Spec PyProof.Rows
section
variable {X : Cx}
/-- y = {k: v for ..}, y a local of a def -/
theorem ps_setDc {i : Nat} {y : Str} {py : Pos} {kx vx tg iter : Expr} {ifs : List Expr} {scope : Scope} {own : List (Str × Nat)} {pos spos : Pos} {wi : TI} {g : TG} {tt : TT} {tk tv : TE} (hc : X.calm = true) (hN : X.N.Nodup) (hy : X.N[i]? = some y) (hyl : X.env.scope.names.lookup y = some .local)
    (hsw : swapsWith (.DictComp kx vx [⟨tg, iter, ifs, 0⟩] scope pos) (some (.Name y py)) spos.line X.env = pure true) (hi : PI X tg iter wi) (ok : BlkOk X.N X.env.scope scope own)
    (hg : ∀ (s : Shared) (H : Hp) (C : Addr) (cl : List (Str × Addr)) (fp : List Addr), PG (X.blk s H scope (compEnvC scope cl C X.env) fp) tg g) (ht : ∀ (s : Shared) (H : Hp) (C : Addr) (cl : List (Str × Addr)) (fp : List Addr), PTs (X.blk s H scope (compEnvC scope cl C X.env) fp) ifs tt)
    (hk : ∀ (s : Shared) (H : Hp) (C : Addr) (cl : List (Str × Addr)) (fp : List Addr), PE (X.blk s H scope (compEnvC scope cl C X.env) fp) kx tk)
    (he : ∀ (s : Shared) (H : Hp) (C : Addr) (cl : List (Str × Addr)) (fp : List Addr), PE (X.blk s H scope (compEnvC scope cl C X.env) fp) vx tv) (hs : ∀ x, foldedSetIterable iter X.env x = pure x := by intro _; rfl) :
    PS X (.Assign [.Name y py] (.DictComp kx vx [⟨tg, iter, ifs, 0⟩] scope pos) spos) (tAsg (tDc wi g tt tk tv (own.map (·.2))) (gName i)) := by
  refine ⟨fun pins s σ H D I h => ?_⟩
  rw [exec_Assign_Name_used _ _ _ _ hsw]
  refine wpAny_bind (wpAny_standAt (wpAny_bind ?_))
  show wpAny _ X.A (do let _ ← comprehension (.DictComp kx vx [⟨tg, iter, ifs, 0⟩] scope pos) scope X.env (firstIterPos [⟨tg, iter, ifs, 0⟩] pos) newDict false (eval iter X.env) (some (assign (.Name y py) X.env))) _ _ s
  have h : tDc wi g tt tk tv (own.map (·.2)) σ H (fun x H1 => gName i x σ H1 D.nx) := h
  refine wpAny_bind (thn (dc_core (Qf := fun _ s' => SP X pins D .next s') hc hN I hi ok hg ht hk he hs h fun L C s' m H' I' q hn f => ?_) fun _ s' hq => wpAny_pure (wpAny_pure hq))
  show wpAny _ _ (assign (.Name y py) X.env (.ref L)) _ _ _
  refine wpAny_assign_Name (store_ok2 (v := V.ref L) I' hN hy (.inl hyl) rfl (fun s2 I2 ⟨a, sb, ha⟩ => ?_) (.inr hyl))
  obtain ⟨f0, f1, f2, f3, f4, f5⟩ := f
  have haC : C ≠ a := by
    rcases ha with z | z
    · rw [z]; exact f1
    · exact fun e => f4 y a z e.symm
  refine ⟨m, hn.sameBut sb haC, fun h3 sb3 => ?_⟩
  exact ⟨_, H', I2.turned (t' := s2.toks) (fun b o hb e => (sb3.2 b hb).trans e) f0 f1 f3 f4 f5, q⟩
theorem sw_trueD {kx vx : Expr} {gs : List Comprehension} {scope : Scope} {pos py : Pos} {y : Str} {l : Nat} {env : Env} (hk : env.scope.kind = .function) (hy : env.scope.names.lookup y = some .local) (hl : (py.line == pos.line) = true)
    (ha : (scope.names.any fun (n, k) => n == y && (k == .local || k == .cell)) = false) : swapsWith (.DictComp kx vx gs scope pos) (some (.Name y py)) l env = pure true := by
  have ky : env.kindOf y = some .local := hy
  have hb : env.blockKind = .function := by unfold Env.blockKind; rw [hk]; rfl
  unfold swapsWith
  simp only [hb, ky, ha, Expr.pos, hl]
  rfl
end
end L2
namespace Wk
open PySem PySem.Spec PyProof.Rows L2 Evl
/-- the same as a statement: it is locked -/
theorem q_dcKeys {kvs : List (L2.Key × V)} {ks : List Int} {d : Addr} {n j i : Nat} {vs : List Nat} {σ : L2.St} {H : Hp} {tt : TT} {tv : TE} {tz : TS} {E : Ends} (f : Int → Bool) (g : Int → V) (hσ : σ[n]? = some (some (.ref d))) (hd : H d = some (.dK kvs)) (hk : kvs.map (·.1) = ks.map Sum.inl) (hn : ks.length ≤ 1000)
    (hw : ∀ x, wipe ((wipe σ vs).set j (some x)) vs = wipe σ vs) (hj : j < σ.length)
    (ht : ∀ k ∈ ks, ∀ H', (∀ b u, H b = some u → Rd H' b u) → (∀ b u, b ≠ d → H b = some u → H' b = some u) → EvT tt ((wipe σ vs).set j (some (.int k))) H' (f k))
    (hv : ∀ k ∈ ks, f k = true → ∀ H', (∀ b u, H b = some u → Rd H' b u) → (∀ b u, b ≠ d → H b = some u → H' b = some u) → Ev tv ((wipe σ vs).set j (some (.int k))) H' (g k))
    (hq : ∀ H' D, Ex H H' → H D = none → H' D = some (.dK (pf g (ks.filter f))) → tz E (σ.set i (some (.ref D))) H') : tSeq (tLock (tAsg (tDc (iKeys (tVar n)) (gName j) tt (tVar j) tv vs) (gName i))) tz E σ H := by
  have z := dc_keys (Q := fun v H' => tz E (σ.set i (some v)) H') f g hσ hd hk hn hw hj ht hv hq
  obtain ⟨d', u, h1, h2, h3⟩ := z
  exact ⟨d', u, h1, h2, fun od => h3 od⟩
end Wk

set_option Elab.async false
set_option linter.all false
set_option maxRecDepth 100000
set_option maxHeartbeats 2000000
namespace Wk
open PySem PySem.Spec PyProof.Rows L2 Evl
/-! what stays grows: by what is new, and by tuples -/
structure Gz (G H G' H' : Hp) : Prop where
  ex : Ex G G'
  hx : Ex H H'
  sub : Ex G' H'
  nw : ∀ b u, G b = none → H b = some u → (∀ xs, u ≠ .tup xs) → G' b = none
theorem Gz.refl {G H : Hp} (h : Ex G H) : Gz G H G H := ⟨Ex.refl _, Ex.refl _, h, fun _ _ h _ _ => h⟩
theorem Gz.trans {G H G1 H1 G2 H2 : Hp} (a : Gz G H G1 H1) (b : Gz G1 H1 G2 H2) : Gz G H G2 H2 :=
  ⟨a.ex.trans b.ex, a.hx.trans b.hx, b.sub, fun c u hc hh ht => b.nw c u (a.nw c u hc hh ht) (a.hx _ _ hh) ht⟩
theorem Gz.ext {G H H' : Hp} (h : Ex G H) (e : Ex H H') : Gz G H G H' := ⟨Ex.refl _, e, h.trans e, fun _ _ h _ _ => h⟩
theorem Gz.new {G H : Hp} {t : Addr} {o : HO} (h : Ex G H) (ht : H t = none) : Gz G H (upd G t o) (upd H t o) := by
  refine ⟨Ex.new (fresh_back h ht), Ex.new ht, fun b u hb => ?_, fun b u hb hh _ => ?_⟩
  · by_cases c : b = t
    · rw [c, upd_same] at hb ⊢; exact hb
    · rw [upd_ne c] at hb ⊢; exact h _ _ hb
  · rw [upd_ne (fun z => by rw [z, ht] at hh; cases hh)]; exact hb
theorem Gz.tup {G H : Hp} {t : Addr} {xs : List V} (h : Ex G H) (ht : H t = some (.tup xs)) : Gz G H (upd G t (.tup xs)) H := by
  refine ⟨fun b u hb => ?_, Ex.refl _, fun b u hb => ?_, fun b u hb hh hn => ?_⟩
  · by_cases c : b = t
    · have := h _ _ hb
      rw [c, ht] at this
      rw [c, upd_same]; exact this
    · rw [upd_ne c]; exact hb
  · by_cases c : b = t
    · rw [c, upd_same] at hb; rw [c, ht]; exact hb
    · rw [upd_ne c] at hb; exact h _ _ hb
  · have c : b ≠ t := fun z => by
      rw [z, ht] at hh
      cases hh
      exact hn _ rfl
    rw [upd_ne c]; exact hb
/-- what is new, laid after more has come -/
theorem Gz.put {G H H' : Hp} {t : Addr} {o : HO} (h : Ex G H) (ht : H t = none) (e : Ex H H') (ho : H' t = some o) : Gz G H (upd G t o) H' := by
  refine ⟨Ex.new (fresh_back h ht), e, fun b u hb => ?_, fun b u hb hh _ => ?_⟩
  · by_cases c : b = t
    · rw [c, upd_same] at hb; rw [c, ho]; exact hb
    · rw [upd_ne c] at hb; exact e _ _ (h _ _ hb)
  · rw [upd_ne (fun z => by rw [z, ht] at hh; cases hh)]; exact hb
/-! books -/
abbrev Ent := Nat × Nat
abbrev Bk := Nat → Option Ent
def entV (e : Ent) : List V := [.int (e.1 : Int), .int (e.2 : Int)]
/-- a dict of a router's entries -/
structure BkD (G : Hp) (kvs : List (L2.Key × V)) (ks : List Int) (n : Nat) (bk : Bk) : Prop where
  nk : NK kvs ks
  rg : ∀ k ∈ ks, 0 ≤ k ∧ k < (n : Int)
  at_ : ∀ k : Nat, (valV kvs (.inl (k : Int)) = none ∧ bk k = none) ∨ ∃ t e, valV kvs (.inl (k : Int)) = some (.ref t) ∧ bk k = some e ∧ G t = some (.tup (entV e))
def BkAt (G : Hp) (a : Addr) (n : Nat) (bk : Bk) : Prop := ∃ kvs ks, G a = some (.dK kvs) ∧ BkD G kvs ks n bk
theorem BkD.mono {G G' : Hp} (e : Ex G G') {kvs : List (L2.Key × V)} {ks : List Int} {n : Nat} {bk : Bk} (h : BkD G kvs ks n bk) : BkD G' kvs ks n bk :=
  ⟨h.nk, h.rg, fun k => (h.at_ k).imp id fun ⟨t, e', a, b, c⟩ => ⟨t, e', a, b, e _ _ c⟩⟩
theorem BkAt.mono {G G' : Hp} (e : Ex G G') {a : Addr} {n : Nat} {bk : Bk} (h : BkAt G a n bk) : BkAt G' a n bk := by
  obtain ⟨kvs, ks, h1, h2⟩ := h
  exact ⟨kvs, ks, e _ _ h1, h2.mono e⟩
theorem NK.mem {kvs : List (L2.Key × V)} {ks : List Int} (h : NK kvs ks) (k : Int) : k ∈ ks ↔ ∃ v, valV kvs (.inl k) = some v := by
  constructor
  · intro hk
    cases hv : valV kvs (.inl k) with
    | some v => exact ⟨v, rfl⟩
    | none => exact absurd (by rw [h.1]; exact List.mem_map.mpr ⟨k, hk, rfl⟩) (valV_not hv)
  · rintro ⟨v, hv⟩
    have := valV_in hv
    rw [h.1] at this
    obtain ⟨x, hx, e⟩ := List.mem_map.mp this
    injection e with e
    rw [← e]; exact hx
theorem BkD.mem {G : Hp} {kvs : List (L2.Key × V)} {ks : List Int} {n : Nat} {bk : Bk} (h : BkD G kvs ks n bk) (k : Nat) : (k : Int) ∈ ks ↔ ∃ e, bk k = some e := by
  rw [h.nk.mem]
  rcases h.at_ k with ⟨a, b⟩ | ⟨t, e, a, b, _⟩
  · rw [a, b]; simp
  · rw [a, b]; simp
theorem BkD.len {G : Hp} {kvs : List (L2.Key × V)} {ks : List Int} {n : Nat} {bk : Bk} (h : BkD G kvs ks n bk) : ks.length ≤ n := by
  have z := nd_le ks ((List.range n).map fun (i : Nat) => (i : Int)) h.nk.2 fun k hk => by
    have := h.rg k hk
    exact List.mem_map.mpr ⟨k.toNat, List.mem_range.mpr (by omega), by omega⟩
  simpa using z
theorem BkD.vlen {G : Hp} {kvs : List (L2.Key × V)} {ks : List Int} {n : Nat} {bk : Bk} (h : BkD G kvs ks n bk) : kvs.length ≤ n := by
  have := congrArg List.length h.nk.1
  rw [List.length_map, List.length_map] at this
  rw [this]; exact h.len
theorem BkD.get {G : Hp} {kvs : List (L2.Key × V)} {ks : List Int} {n : Nat} {bk : Bk} (h : BkD G kvs ks n bk) {k : Nat} {e : Ent} (he : bk k = some e) : ∃ t, valV kvs (.inl (k : Int)) = some (.ref t) ∧ G t = some (.tup (entV e)) := by
  rcases h.at_ k with ⟨a, b⟩ | ⟨t, e', a, b, c⟩
  · rw [b] at he; cases he
  · rw [b] at he; cases he; exact ⟨t, a, c⟩
theorem BkD.no {G : Hp} {kvs : List (L2.Key × V)} {ks : List Int} {n : Nat} {bk : Bk} (h : BkD G kvs ks n bk) {k : Nat} (he : bk k = none) : valV kvs (.inl (k : Int)) = none := by
  rcases h.at_ k with ⟨a, b⟩ | ⟨t, e', a, b, c⟩
  · exact a
  · rw [b] at he; cases he
theorem BkD.lt {G : Hp} {kvs : List (L2.Key × V)} {ks : List Int} {n : Nat} {bk : Bk} (h : BkD G kvs ks n bk) {k : Nat} {e : Ent} (he : bk k = some e) : k < n := by
  have := h.rg _ ((h.mem k).mpr ⟨e, he⟩)
  omega
theorem BkD.nil (G : Hp) (n : Nat) : BkD G [] [] n fun _ => none := ⟨⟨rfl, List.nodup_nil⟩, fun k hk => (by cases hk), fun k => .inl ⟨rfl, rfl⟩⟩
def setB (bk : Bk) (r : Nat) (e : Ent) : Bk := fun k => if k = r then some e else bk k
theorem BkD.put {G : Hp} {kvs : List (L2.Key × V)} {ks : List Int} {n r : Nat} {bk : Bk} {t : Addr} {e : Ent} (h : BkD G kvs ks n bk) (hr : r < n) (ht : G t = some (.tup (entV e))) : BkD G (putK kvs (.inl (r : Int)) (.ref t)) (if (r : Int) ∈ ks then ks else ks ++ [(r : Int)]) n (setB bk r e) := by
  refine ⟨h.nk.put _ _, fun k hk => ?_, fun k => ?_⟩
  · split at hk
    · exact h.rg k hk
    · rcases List.mem_append.mp hk with z | z
      · exact h.rg k z
      · rw [List.mem_singleton.mp z]; omega
  · rw [valV_put]
    unfold setB
    by_cases c : k = r
    · rw [if_pos (by rw [c]), if_pos c]
      exact .inr ⟨t, e, rfl, rfl, ht⟩
    · rw [if_neg (fun z => c (by injection z with z; omega)), if_neg c]
      exact h.at_ k
def gtN (x y : Ent) : Bool := gtE ((x.1 : Int), (x.2 : Int)) ((y.1 : Int), (y.2 : Int))
/-- which of the given entries are greater -/
def newer (own given : Bk) (k : Nat) : Bool :=
  match given k with
  | none => false
  | some g => match own k with
    | none => true
    | some e => gtN g e
def mergeB (own given : Bk) : Bk := fun k => if newer own given k = true then given k else own k
section
variable {σ : L2.St} {H : Hp} {ta tb te : TE}
theorem ev_gt {K : PySem.W.Frag} {a b : Addr} {x y : Ent} (h1 : Ev ta σ H (.ref a)) (h2 : Ev tb σ H (.ref b)) (ha : H a = some (.tup (entV x))) (hb : H b = some (.tup (entV y))) : Ev (tOp (rGtP K) ta tb) σ H (.bl (gtN x y)) := fun H1 e Q q =>
  h1 H1 e _ fun H2 e2 => h2 H2 (e.trans e2) _ fun H3 e3 => ⟨a, b, ((x.1 : Int), (x.2 : Int)), ((y.1 : Int), (y.2 : Int)), rfl, rfl, st_of (((e.trans e2).trans e3) _ _ ha), st_of (((e.trans e2).trans e3) _ _ hb), q H3 (e2.trans e3)⟩
theorem ev_isN {x : V} (h : Ev te σ H x) : EvT (tB (tIsN te)) σ H (decide (x = .non)) := fun H1 e Q q => h H1 e _ fun H2 e2 => ⟨_, rfl, q H2 e2⟩
theorem et_B' {b : Bool} (h : Ev te σ H (.bl b)) : EvT (tB te) σ H b := et_B h
end
theorem set_cut {xs : List V} {i : Nat} {v : V} (h : i < xs.length) : cutV xs none (some (i : Int)) ++ [v] ++ cutV xs (some ((i : Int) + 1)) none = xs.set i v := by
  rw [cut_to xs i (by omega), show ((i : Int) + 1) = ((i + 1 : Nat) : Int) by omega, cut_from xs (i + 1) (by omega), List.set_eq_take_append_cons_drop, if_pos h, List.append_assoc]
  rfl
section
variable {P : Program} {w : World} {K : PySem.W.Frag} {mg : Str → Option Value} {base : Heap} {f : Addr} {fd : FuncData}
/-! replaced -/
def spRepl : Sp := fun vs H Q _ => ∃ (a : Addr) (i : Nat) (v : V) (xs : List V), vs = [.ref a, .int (i : Int), v] ∧ H a = some (.tup xs) ∧ i < xs.length ∧ xs.length ≤ 1000 ∧ ∀ H' t, Ex H H' → H' t = some (.tup (xs.set i v)) → Q (.ref t) H'
abbrev sRepl : Stmt := top 18
abbrev nRepl : List Str := ["row", "place", "item"]
theorem scRepl : FnScope nRepl nRepl (defScope sRepl) := ⟨rfl, rfl, rfl, by decide +kernel, rfl, by decide +kernel, by decide +kernel⟩
theorem ok_repl (F : FnP K "replaced" sRepl f fd) : FnOk P w K mg base CX0 1 f fd nRepl spRepl := by
  refine F.ok scRepl (fun vs H Q E h => ?_) (fun cdv A outer s H vs Q E hr h => ?_)
  · obtain ⟨a, i, v, xs, rfl, _⟩ := h
    rfl
  · obtain ⟨a, i, v, xs, rfl, ha, hi, hx, k⟩ := h
    refine ⟨_, pss_one (ps_ret (pe_op op_catA (pe_op op_catA (pe_slice sl_tupA (pv 0) po_none (po_some (pv 1))) (pe_tup (pa_cons (pv 2) pa_nil))) (pe_slice sl_tupA (pv 0) (po_some (pe_op op_add (pv 1) pe_int)) po_none))), ?_⟩
    have l1 : (cutV xs none (some (i : Int))).length ≤ 1000 := by rw [cut_to xs i (by omega), List.length_take]; omega
    have l2 : (cutV xs (some ((i : Int) + 1)) none).length ≤ 1000 := by rw [show ((i : Int) + 1) = ((i + 1 : Nat) : Int) by omega, cut_from xs (i + 1) (by omega), List.length_drop]; omega
    have v0 : Ev (tVar 0) (start nRepl [V.ref a, V.int (i : Int), v]) H (.ref a) := ev_var rfl
    have ad : Ev (tOp (rI0 fun i j => .int (i + j)) (tVar 1) (tC (.int 1))) (start nRepl [V.ref a, V.int (i : Int), v]) H (.int ((i : Int) + 1)) := ev_op (ev_var rfl) ev_c rv_I0
    have e1 := es_cat (K := K) (es_cat (K := K) (es_sl (K := K) (lo := none) (hi := some (i : Int)) v0 eo_none (eo_some (te := tVar 1) (ev_var rfl)) ha) (es_tup (xs := [v]) (ea_cons (ta := tVar 2) (ev_var rfl) ea_nil) (by show 1 ≤ 100000; decide)) (by show _ + 1 ≤ _; omega))
      (es_sl (K := K) (lo := some ((i : Int) + 1)) (hi := none) v0 (eo_some ad) eo_none ha) (by rw [List.length_append]; show _ + 1 + _ ≤ _; omega)
    rw [set_cut hi] at e1
    exact e1 H (Ex.refl _) _ fun t H' e h => k H' t e h
/-! number_after -/
abbrev spNum : Sp := spP fun H vs z => ∃ v, vs = [v] ∧ ((v = .non ∧ z = .int 1) ∨ ∃ t e, v = .ref t ∧ H t = some (.tup (entV e)) ∧ z = .int ((e.1 : Int) + 1))
abbrev sNum : Stmt := top 27
theorem scNum : FnScope ["entry"] ["entry"] (defScope sNum) := ⟨rfl, rfl, rfl, by decide +kernel, rfl, by decide +kernel, by decide +kernel⟩
theorem ok_num (F : FnP K "number_after" sNum f fd) : FnOk P w K mg base CX0 1 f fd ["entry"] spNum := by
  refine F.ok scNum (fun vs H Q E h => ?_) (fun cdv A outer s H vs Q E hr h => ?_)
  · obtain ⟨z, ⟨v, rfl, _⟩, _⟩ := h
    rfl
  · obtain ⟨z, ⟨v, rfl, hz⟩, k⟩ := h
    refine ⟨_, pss_one (ps_ret (pe_ifExp (pt_cmp (pc_isN (pv 0))) pe_int (pe_op op_add (pe_ix ix_tup (pv 0) pe_int (fun _ _ => rfl)) pe_int))), ?_⟩
    refine s_ret (v := z) (ev_if (ev_isN (ev_var rfl)) (fun h => ?_) (fun h => ?_)) k
    · have h := of_decide_eq_true h
      rcases hz with ⟨_, rfl⟩ | ⟨t, e, rfl, _⟩
      · exact ev_c
      · cases h
    · have h := of_decide_eq_false h
      rcases hz with ⟨rfl, _⟩ | ⟨t, e, rfl, ht, rfl⟩
      · exact absurd rfl h
      · exact ev_op (ev_op (ev_var rfl) ev_c (rv_ixT (i := 0) (st_of ht) rfl)) ev_c rv_I0
/-! with_entry -/
def spWE : Sp := fun vs H Q _ => ∃ (G : Hp) (a t : Addr) (n r : Nat) (bk : Bk) (e : Ent), vs = [.ref a, .int (r : Int), .ref t] ∧ Ex G H ∧ BkAt G a n bk ∧ r < n ∧ n ≤ 8 ∧ H t = some (.tup (entV e)) ∧
  ∀ G' H' b, Gz G H G' H' → BkAt G' b n (setB bk r e) → Q (.ref b) H'
abbrev sWE : Stmt := top 28
abbrev nWE : List Str := ["book", "router", "entry", "changed", "key"]
theorem scWE : FnScope nWE ["book", "router", "entry"] (defScope sWE) := ⟨rfl, rfl, rfl, by decide +kernel, rfl, by decide +kernel, by decide +kernel⟩
theorem pf_self {G : Hp} {kvs : List (L2.Key × V)} {ks : List Int} {n : Nat} {bk : Bk} (h : BkD G kvs ks n bk) : ∃ js, BkD G (pf (fun k => (valV kvs (.inl k)).getD .non) (ks.filter fun _ => true)) js n bk := by
  have ef : ks.filter (fun _ => true) = ks := List.filter_eq_self.mpr fun _ _ => rfl
  rw [ef]
  obtain ⟨js, h1, h2, _⟩ := nk_pf (fun k => (valV kvs (.inl k)).getD .non) _ ks rfl
  refine ⟨js, h1, fun k hk => h.rg k ((h2 k).mp hk), fun k => ?_⟩
  rw [valV_pf _ _ _ ks rfl]
  by_cases c : (k : Int) ∈ ks
  · rw [if_pos c]
    obtain ⟨e, he⟩ := (h.mem k).mp c
    obtain ⟨t, h3, h4⟩ := h.get he
    rw [h3]
    exact .inr ⟨t, e, rfl, he, h4⟩
  · rw [if_neg c]
    refine .inl ⟨rfl, ?_⟩
    cases hb : bk k with
    | none => rfl
    | some e => exact absurd ((h.mem k).mpr ⟨e, hb⟩) c
theorem ok_we (F : FnP K "with_entry" sWE f fd) : FnOk P w K mg base CX0 1 f fd ["book", "router", "entry"] spWE := by
  refine F.ok scWE (fun vs H Q E h => ?_) (fun cdv A outer s H vs Q E hr h => ?_)
  · obtain ⟨G, a, t, n, r, bk, e, rfl, _⟩ := h
    rfl
  · obtain ⟨G, a, t, n, r, bk, e, rfl, eG, ⟨kvs, ks, ha, hb⟩, hr', hn, ht, k⟩ := h
    have hu : (A.deeper (envOfC "with_entry" (defScope sWE) s.heap.objs.size f cdv)).units + 1 < cLine := by have := hr.un; omega
    refine ⟨_, pss_cons (ps_lock (ps_setDc (i := 3) (own := [("key", 4)]) (g := gName 4) (tt := tYes) (tk := tVar 4) (tv := tDGet (tVar 0) (tVar 4)) rfl scWE.nd rfl rfl (sw_trueD rfl rfl rfl (by decide +kernel)) (pi_keys (pv 0)) (blkOk_by (N := nWE) (sc := defScope sWE) (by decide +kernel))
        (fun _ _ _ _ _ => pg_name (i := 4) scWE.nd rfl (Or.inl rfl)) (fun _ _ _ _ _ => pts_nil) (fun _ _ _ _ _ => pv 4) (fun _ _ _ _ _ => pe_dget hu (pv 0) (pv 4) (fun _ _ => rfl))))
      (pss_cons (ps_asg (pv 2) (pg_sub (pv 3) (pv 1) (set_dict hu)))
      (pss_one (ps_ret (pv 3)))), ?_⟩
    have hHa := eG _ _ ha
    have hl := hb.len
    refine q_dcKeys (ks := ks) (d := a) (n := 0) (fun _ => true) (fun k => (valV kvs (.inl k)).getD .non) rfl hHa hb.nk.1 (by omega) (fun x => rfl) (by show 4 < 5; decide) (fun k _ H' _ _ => et_yes) (fun k hk _ H' h1 _ => ?_) fun H1 D e1 nD hD => ?_
    · obtain ⟨v, hv⟩ := (hb.nk.mem k).mp hk
      rw [hv]
      exact ev_dget (kvs := kvs) (ev_var rfl) (ev_var rfl) (h1 _ _ hHa) hv
    · obtain ⟨js, hd⟩ := pf_self hb
      generalize pf (fun k => (valV kvs (.inl k)).getD .non) (ks.filter fun _ => true) = kv2 at *
      refine g_name ?_
      dsimp only
      refine ⟨.ref t, rfl, .ref D, rfl, .int (r : Int), rfl, D, _, rfl, .inl ⟨kv2, .inl (r : Int), hD, rfl, ?_, rfl⟩, .ref D, rfl, ?_⟩
      · have := hd.vlen
        rw [sizeLine_eq]; omega
      · have ht1 := e1 _ _ ht
        have gz1 := Gz.tup eG ht
        have nDt : D ≠ t := fun z => by rw [z, ht] at nD; cases nD
        have gz2 := Gz.put (o := .dK (putK kv2 (.inl (r : Int)) (.ref t))) gz1.sub nD (H' := upd H1 D (.dK (putK kv2 (.inl (r : Int)) (.ref t)))) (fun b u hb' => by
          rw [upd_ne (fun z => by rw [z, nD] at hb'; cases hb')]; exact e1 _ _ hb') upd_same
        have z := ((hd.mono gz1.ex).mono gz2.ex).put hr' (gz2.ex _ _ upd_same)
        exact k _ _ D (gz1.trans gz2) ⟨_, _, upd_same, z⟩
end
end Wk

set_option Elab.async false
set_option linter.all false
set_option maxRecDepth 100000
set_option maxHeartbeats 2000000
namespace Wk
open PySem PySem.Spec PyProof.Rows L2 Evl
theorem Gz.set {G H G1 H1 : Hp} {t : Addr} {o : HO} (a : Gz G H G1 H1) (ht : H t = none) (g : G1 t = none) : Gz G H (upd G1 t o) (upd H1 t o) := by
  refine ⟨a.ex.trans (Ex.new g), Ex.mut a.hx ht, fun b u hb => ?_, fun b u h1 h2 h3 => ?_⟩
  · by_cases c : b = t
    · rw [c, upd_same] at hb ⊢; exact hb
    · rw [upd_ne c] at hb ⊢; exact a.sub _ _ hb
  · rw [upd_ne (fun z => by rw [z, ht] at h2; cases h2)]
    exact a.nw b u h1 h2 h3
theorem keysV {kvs : List (L2.Key × V)} {ks : List Int} (h : NK kvs ks) : (kvs.map fun kv => kV kv.1) = ks.map V.int := by
  have e : (kvs.map fun kv => kV kv.1) = (kvs.map (·.1)).map kV := by rw [List.map_map]; rfl
  rw [e, h.1, List.map_map]
  rfl
theorem filter_yes {ks : List Int} : ks.filter (fun _ => true) = ks := List.filter_eq_self.mpr fun _ _ => rfl
def greaterB (own given : Bk) : Bk := fun k => if newer own given k = true then given k else none
def bumpB (g : Bk) (r : Nat) (co : Option Nat) : Bk := match g r, co with
  | some e, some c => setB g r (e.1 + 1, c)
  | _, _ => g
/-- the own entries, and over them the greater ones that came; the router's own comes back greater by one -/
def mergeX (own given : Bk) (r : Nat) (co : Option Nat) : Bk := fun k => match bumpB (greaterB own given) r co k with
  | some e => some e
  | none => own k
def oV : Option Nat → V
  | none => .non
  | some c => .int (c : Int)
theorem greater_bkd {G : Hp} {kvg : List (L2.Key × V)} {ksg : List Int} {n : Nat} {own given : Bk} (hg : BkD G kvg ksg n given) :
    ∃ js, BkD G (pf (fun k => (valV kvg (.inl k)).getD .non) (ksg.filter fun k => newer own given k.toNat)) js n (greaterB own given) := by
  obtain ⟨js, n1, n2, _⟩ := nk_pf (fun k => (valV kvg (.inl k)).getD .non) _ (ksg.filter fun k => newer own given k.toNat) rfl
  refine ⟨js, n1, fun k hk => hg.rg k (List.mem_filter.mp ((n2 k).mp hk)).1, fun k => ?_⟩
  rw [valV_pf _ _ _ (ksg.filter fun k => newer own given k.toNat) rfl]
  unfold greaterB
  by_cases hn : newer own given k = true
  · rw [if_pos hn]
    have hgk : ∃ g, given k = some g := by
      unfold newer at hn
      cases hgk : given k with
      | none => rw [hgk] at hn; cases hn
      | some g => exact ⟨g, rfl⟩
    obtain ⟨g, hgk⟩ := hgk
    rw [if_pos (List.mem_filter.mpr ⟨(hg.mem k).mpr ⟨g, hgk⟩, by rw [Int.toNat_natCast]; exact hn⟩)]
    obtain ⟨t, h4, h5⟩ := hg.get hgk
    rw [h4]
    exact .inr ⟨t, g, rfl, hgk, h5⟩
  · rw [if_neg hn, if_neg]
    · exact .inl ⟨rfl, rfl⟩
    · intro z
      have := (List.mem_filter.mp z).2
      rw [Int.toNat_natCast] at this
      exact hn this
theorem over_bkd {G : Hp} {kvo kv3 : List (L2.Key × V)} {kso js3 : List Int} {n : Nat} {own b3 : Bk} (ho : BkD G kvo kso n own) (h3 : BkD G kv3 js3 n b3) :
    ∃ js, BkD G (pf (fun k => (valV kv3 (.inl k)).getD ((valV kvo (.inl k)).getD .non)) ((kso ++ js3).filter fun _ => true)) js n (fun k => match b3 k with | some e => some e | none => own k) := by
  rw [filter_yes]
  obtain ⟨js, n1, n2, _⟩ := nk_pf (fun k => (valV kv3 (.inl k)).getD ((valV kvo (.inl k)).getD .non)) _ (kso ++ js3) rfl
  refine ⟨js, n1, fun k hk => ?_, fun k => ?_⟩
  · rcases List.mem_append.mp ((n2 k).mp hk) with z | z
    · exact ho.rg k z
    · exact h3.rg k z
  · rw [valV_pf _ _ _ (kso ++ js3) rfl]
    cases hb : b3 k with
    | some e =>
      obtain ⟨t, a1, a2⟩ := h3.get hb
      rw [if_pos (List.mem_append_right _ ((h3.mem k).mpr ⟨e, hb⟩)), a1]
      exact .inr ⟨t, e, rfl, rfl, a2⟩
    | none =>
      have a1 := h3.no hb
      rw [a1]
      cases hok : own k with
      | none =>
        rw [if_neg]
        · exact .inl ⟨rfl, rfl⟩
        · intro z
          rcases List.mem_append.mp z with z | z
          · obtain ⟨e, he⟩ := (ho.mem k).mp z
            rw [hok] at he; cases he
          · obtain ⟨e, he⟩ := (h3.mem k).mp z
            rw [hb] at he; cases he
      | some e =>
        rw [if_pos (List.mem_append_left _ ((ho.mem k).mpr ⟨e, hok⟩))]
        obtain ⟨t, h4, h5⟩ := ho.get hok
        rw [h4]
        exact .inr ⟨t, e, rfl, rfl, h5⟩
section
variable {P : Program} {w : World} {K : PySem.W.Frag} {mg : Str → Option Value} {base : Heap} {f : Addr} {fd : FuncData}
/-! with_greater -/
def spWG : Sp := fun vs H Q _ => ∃ (G : Hp) (a b : Addr) (n r : Nat) (own given : Bk) (co : Option Nat), vs = [.ref a, .ref b, .int (r : Int), oV co] ∧ Ex G H ∧ BkAt G a n own ∧ BkAt G b n given ∧ n ≤ 8 ∧ r < n ∧ (newer own given r = true → ∃ c, co = some c) ∧
  ∀ G' H' b, Gz G H G' H' → BkAt G' b n (mergeX own given r co) → Q (.ref b) H'
abbrev sWG : Stmt := top 29
abbrev nWG : List Str := ["own", "given", "router", "content", "greater", "key"]
theorem scWG : FnScope nWG ["own", "given", "router", "content"] (defScope sWG) := ⟨rfl, rfl, rfl, by decide +kernel, rfl, by decide +kernel, by decide +kernel⟩
theorem ok_wg (B : Bl mg) (CN : Cal P w K mg base "number_after" ["entry"] 1 spNum) (F : FnP K "with_greater" sWG f fd) : FnOk P w K mg base CX0 2 f fd ["own", "given", "router", "content"] spWG := by
  refine F.ok scWG (fun vs H Q E h => ?_) (fun cdv A outer s H vs Q E hr h => ?_)
  · obtain ⟨G, a, b, n, r, own, given, co, rfl, _⟩ := h
    rfl
  · obtain ⟨G, a, b, n, r, own, given, co, rfl, eG, ⟨kvo, kso, ha, ho⟩, ⟨kvg, ksg, hb, hg⟩, hn, hrn, hnw, k⟩ := h
    have hu : (A.deeper (envOfC "with_greater" (defScope sWG) s.heap.objs.size f cdv)).units + 1 < cLine := by have := hr.un; omega
    have hu0 : (A.deeper (envOfC "with_greater" (defScope sWG) s.heap.objs.size f cdv)).units < cLine := by omega
    refine ⟨_, pss_cons (ps_set (i := 4) scWG.nd rfl (Or.inr rfl) (pe_lock (pe_dc (own := [("key", 5)]) (g := gName 5) (tt := tOr (tB (tDNotIn (tVar 5) (tVar 0))) (tTest (tOp (rGtP K) (tDGet (tVar 1) (tVar 5)) (tDGet (tVar 0) (tVar 5))))) (tk := tVar 5) (tv := tDGet (tVar 1) (tVar 5)) rfl scWG.nd (pi_keys (pv 1)) (blkOk_by (N := nWG) (sc := defScope sWG) (by decide +kernel))
        (fun _ _ _ _ _ => pg_name (i := 5) scWG.nd rfl (Or.inl rfl)) (fun _ _ _ _ _ => pts_one (PW.pt (pw_or (pt_cmp (pc_dnotin hu (pv 5) (pv 0))) (pw_or1 (pt_cmpR (op_gtP (K := K) rfl hu0) (pe_dget hu (pv 1) (pv 5) (fun _ _ => rfl)) (pe_dget hu (pv 0) (pv 5) (fun _ _ => rfl)) rfl))))) (fun _ _ _ _ _ => pv 5) (fun _ _ _ _ _ => pe_dget hu (pv 1) (pv 5) (fun _ _ => rfl)))))
      (pss_cut (ps_if (pt_cmp (pc_din hu (pv 2) (pv 4))) (pss_one (ps_asg (pe_tup (pa_cons (pe_cal CN hr (by rfl) (pa_cons (pe_dget hu (pv 4) (pv 2) (fun _ _ => rfl)) pa_nil)) (pa_cons (pv 3) pa_nil))) (pg_sub (pv 4) (pv 2) (set_dict hu)))) pss_nil)
      (pss_one (ps_ret (pe_dc (own := [("key", 5)]) (g := gName 5) (tt := tYes) (tk := tVar 5) (tv := tDGet2 (tVar 4) (tVar 5) (tDGet1 (tVar 0) (tVar 5))) rfl scWG.nd (pi_list (pe_op op_cat (pe_callTy (call_listD rfl) (by rfl) B.list PyProof.Rows.boot_list (pa_cons (pv 0) pa_nil)) (pe_callTy (call_listD rfl) (by rfl) B.list PyProof.Rows.boot_list (pa_cons (pv 4) pa_nil)))) (blkOk_by (N := nWG) (sc := defScope sWG) (by decide +kernel))
        (fun _ _ _ _ _ => pg_name (i := 5) scWG.nd rfl (Or.inl rfl)) (fun _ _ _ _ _ => pts_nil) (fun _ _ _ _ _ => pv 5) (fun _ _ _ _ _ => pe_dget2 hu (pv 4) (pv 5) (pe_dget1 hu (pv 0) (pv 5) ⟨rfl, rfl, rfl, rfl⟩) ⟨rfl, rfl, rfl, rfl⟩))))), ?_⟩
    have hHa := eG _ _ ha
    have hHb := eG _ _ hb
    have hlo := ho.len
    have hlg := hg.len
    have ent : ∀ {k : Int} {ks : List Int} {kvs : List (L2.Key × V)} {bk : Bk}, BkD G kvs ks n bk → k ∈ ks → ∃ m : Nat, k = (m : Int) ∧ ∃ e t, bk m = some e ∧ valV kvs (.inl k) = some (.ref t) ∧ G t = some (.tup (entV e)) := fun {k ks kvs bk} hd hk => by
      have := hd.rg k hk
      obtain ⟨m, rfl⟩ : ∃ m : Nat, k = (m : Int) := ⟨k.toNat, by omega⟩
      obtain ⟨e, he⟩ := (hd.mem m).mp hk
      obtain ⟨t, h1, h2⟩ := hd.get he
      exact ⟨m, rfl, e, t, he, h1, h2⟩
    refine dc_keys (ks := ksg) (d := b) (n := 1) (fun k => newer own given k.toNat) (fun k => (valV kvg (.inl k)).getD .non) rfl hHb hg.nk.1 (by omega) (fun x => rfl) (by show 5 < 6; decide) (fun k hk H' h1 h2 => ?_) (fun k hk _ H' h1 _ => ?_) fun H1 D e1 nD hD => ?_
    · obtain ⟨m, rfl, g, tg, e1, e2, e3⟩ := ent hg hk
      have q1 := et_B' (ev_dnot (σ := (wipe (start nWG [V.ref a, V.ref b, V.int (r : Int), oV co]) [5]).set 5 (some (.int (m : Int)))) (H := H') (ta := tVar 0) (tb := tVar 5) (k := (m : Int)) (ev_var rfl) (ev_var rfl) (h1 _ _ hHa))
      rw [Int.toNat_natCast]
      unfold newer
      rw [e1]
      rcases ho.at_ m with ⟨a1, a2⟩ | ⟨t, e, a1, a2, a3⟩
      · rw [a1] at q1
        have z := et_or (b := true) q1 (u := tTest (tOp (rGtP K) (tDGet (tVar 1) (tVar 5)) (tDGet (tVar 0) (tVar 5)))) (fun z => by cases z)
        rw [a2]
        exact z
      · rw [a1] at q1
        have nt : ∀ {t e}, G t = some (.tup (entV e)) → H' t = some (.tup (entV e)) := fun {t e} ht => h2 _ _ (fun z => by have := eG _ _ ht; rw [z, hHb] at this; cases this) (eG _ _ ht)
        have z := et_or q1 (u := tTest (tOp (rGtP K) (tDGet (tVar 1) (tVar 5)) (tDGet (tVar 0) (tVar 5)))) (fun _ => et_test (ev_gt (ev_dget (ev_var rfl) (ev_var rfl) (h1 _ _ hHb) e2) (ev_dget (ev_var rfl) (ev_var rfl) (h1 _ _ hHa) a1) (nt e3) (nt a3)))
        rw [a2]
        exact z
    · obtain ⟨m, rfl, g, tg, e1, e2, e3⟩ := ent hg hk
      rw [e2]
      exact ev_dget (kvs := kvg) (ev_var rfl) (ev_var rfl) (h1 _ _ hHb) e2
    · obtain ⟨js3, h3⟩ := greater_bkd (own := own) hg
      generalize pf (fun k => (valV kvg (.inl k)).getD .non) (ksg.filter fun k => newer own given k.toNat) = kv3 at *
      refine g_name ?_
      dsimp only
      change tCut _ _ _ [some (.ref a), some (.ref b), some (.int (r : Int)), some (oV co), some (.ref D), none] H1
      have q1 := et_B' (ev_din (σ := [some (.ref a), some (.ref b), some (.int (r : Int)), some (oV co), some (.ref D), none]) (H := H1) (ta := tVar 4) (tb := tVar 2) (k := (r : Int)) (ev_var rfl) (ev_var rfl) (.inl hD))
      have nDG := fresh_back eG nD
      refine q_cut (M := fun σ' H' => σ' = [some (.ref a), some (.ref b), some (.int (r : Int)), some (oV co), some (.ref D), none] ∧ ∃ G3 kv3 js3, Gz G H G3 H' ∧ H' D = some (.dK kv3) ∧ BkD G3 kv3 js3 n (bumpB (greaterB own given) r co)) ?_ ?_
      · refine s_when q1 (fun hb2 H2 e2 => ?_) (fun hb2 H2 e2 => ?_)
        · have hge : ∃ g, greaterB own given r = some g := by
            rcases h3.at_ r with ⟨a1, _⟩ | ⟨t, e, _, a2, _⟩
            · rw [a1] at hb2; cases hb2
            · exact ⟨e, a2⟩
          obtain ⟨g, hg2⟩ := hge
          have hnr : newer own given r = true := by
            unfold greaterB at hg2
            split at hg2
            · assumption
            · cases hg2
          obtain ⟨c, rfl⟩ := hnw hnr
          obtain ⟨t, h4, h5⟩ := h3.get hg2
          have e02 := e1.trans e2
          have vn : Ev (tCall spNum [] E0 (tCons (tDGet (tVar 4) (tVar 2)) tNil)) [some (.ref a), some (.ref b), some (.int (r : Int)), some (oV (some c)), some (.ref D), none] H2 (.int ((g.1 + 1 : Nat) : Int)) :=
            ev_call (ea_cons (ev_dget (kvs := kv3) (ev_var rfl) (ev_var rfl) (.inl (e2 _ _ hD)) h4) ea_nil) (spP_v fun H3 e3 => ⟨_, rfl, .inr ⟨t, g, rfl, (e02.trans e3) _ _ (eG _ _ h5), by show V.int ((g.1 + 1 : Nat) : Int) = _; congr 1⟩⟩)
          refine (es_tup (xs := entV (g.1 + 1, c)) (ea_cons vn (ea_cons (ev_var (i := 3) rfl) ea_nil)) (by show 2 ≤ 100000; decide)) H2 (Ex.refl _) _ fun te H3 e3 hte => ?_
          have hD3 := e3 _ _ (e2 _ _ hD)
          have hl3 := h3.vlen
          refine ⟨.ref D, rfl, .int (r : Int), rfl, D, _, rfl, .inl ⟨kv3, .inl (r : Int), hD3, rfl, by rw [sizeLine_eq]; omega, rfl⟩, rfl, ?_⟩
          have gz := (Gz.ext eG (e02.trans e3)).trans (Gz.tup (eG.trans (e02.trans e3)) hte)
          have nDt : D ≠ te := fun z => by rw [z, hte] at hD3; cases hD3
          have z := (h3.mono gz.ex).put hrn upd_same
          have e : bumpB (greaterB own given) r (some c) = setB (greaterB own given) r (g.1 + 1, c) := by
            unfold bumpB
            rw [hg2]
          rw [← e] at z
          exact ⟨_, putK kv3 (.inl (r : Int)) (.ref te), _, ⟨gz.ex, Ex.mut gz.hx nD, Ex.mut gz.sub (by rw [upd_ne nDt]; exact nDG), gz.nw⟩, upd_same, z⟩
        · have hno : greaterB own given r = none := by
            rcases h3.at_ r with ⟨_, a1⟩ | ⟨t, e, a2, _, _⟩
            · exact a1
            · rw [a2] at hb2; cases hb2
          refine ⟨rfl, G, kv3, js3, Gz.ext eG (e1.trans e2), e2 _ _ hD, ?_⟩
          have e : bumpB (greaterB own given) r co = greaterB own given := by
            unfold bumpB
            rw [hno]
          rw [e]
          exact h3
      rintro σ' H2 ⟨rfl, G3, kv3, js3, gz3, hD2, h3⟩
      obtain ⟨js, hm⟩ := over_bkd (ho.mono gz3.ex) h3
      have n1 := h3.nk
      have n3 := h3.len
      have hlo := ho.len
      have hHa2 := gz3.hx _ _ hHa
      refine ⟨.ref a, rfl, a, kvo, rfl, .inl hHa2, fun l1 hl1 => ?_⟩
      have ex1 := Ex.new (o := .lst (kvo.map fun kv => kV kv.1)) hl1
      refine ⟨.ref D, rfl, D, kv3, rfl, .inl (ex1 _ _ hD2), fun l2 hl2 => ?_⟩
      have ex2 := Ex.new (o := .lst (kv3.map fun kv => kV kv.1)) hl2
      refine ⟨l1, l2, _, _, rfl, rfl, ex2 _ _ upd_same, upd_same, ?_, fun L hL => ?_⟩
      · rw [keysV ho.nk, keysV n1, List.length_map, List.length_map, sizeLine_eq]
        omega
      have ex3 := Ex.new (o := .lst ((kvo.map fun kv => kV kv.1) ++ kv3.map fun kv => kV kv.1)) hL
      have hLL : (upd (upd (upd H2 l1 (.lst (kvo.map fun kv => kV kv.1))) l2 (.lst (kv3.map fun kv => kV kv.1))) L (.lst ((kvo.map fun kv => kV kv.1) ++ kv3.map fun kv => kV kv.1))) L = some (.lst ((kso ++ js3).map V.int)) := by
        rw [upd_same, keysV ho.nk, keysV n1, List.map_append]
      have e23 := (ex1.trans ex2).trans ex3
      generalize upd (upd (upd H2 l1 (.lst (kvo.map fun kv => kV kv.1))) l2 (.lst (kv3.map fun kv => kV kv.1))) L (.lst ((kvo.map fun kv => kV kv.1) ++ kv3.map fun kv => kV kv.1)) = H3 at *
      refine ⟨L, rfl, ⟨_, sq_of hLL⟩, fun D4 hD4 => ?_⟩
      refine dc_it (H := H3) (ks := kso ++ js3) (fun _ => true) (fun k => (valV kv3 (.inl k)).getD ((valV kvo (.inl k)).getD .non)) walk_ints hD4 (by rw [List.length_append]; omega) (fun H' e => sq_of (e _ _ hLL)) (fun x => rfl) (by show 5 < 6; decide) (fun k hk H' e => et_yes) (fun k hk _ H' e => ?_) fun H' e hD5 => ?_
      · exact ev_dget2 (kvs := kv3) (ev_var rfl) (ev_var rfl) (ev_dget1 (kvs := kvo) (ev_var rfl) (ev_var rfl) (.inl (e _ _ (e23 _ _ hHa2))) rfl) (.inl (e _ _ (e23 _ _ hD2))) rfl
      · have gz := Gz.put gz3.sub (fresh_back e23 hD4) (e23.trans e) hD5
        exact k _ _ D4 (gz3.trans gz) ⟨_, _, upd_same, hm.mono gz.ex⟩
/-! first_book -/
def firstB (r : Nat) (co : Option Nat) : Bk := fun k => if k = r then co.map fun c => (1, c) else none
def spFB : Sp := fun vs H Q _ => ∃ (G : Hp) (n r : Nat) (co : Option Nat), vs = [.int (r : Int), oV co] ∧ Ex G H ∧ r < n ∧ ∀ G' H' b, Gz G H G' H' → BkAt G' b n (firstB r co) → Q (.ref b) H'
abbrev sFB : Stmt := top 30
theorem scFB : FnScope ["router", "content"] ["router", "content"] (defScope sFB) := ⟨rfl, rfl, rfl, by decide +kernel, rfl, by decide +kernel, by decide +kernel⟩
theorem ok_fb (CN : Cal P w K mg base "number_after" ["entry"] 1 spNum) (F : FnP K "first_book" sFB f fd) : FnOk P w K mg base CX0 2 f fd ["router", "content"] spFB := by
  refine F.ok scFB (fun vs H Q E h => ?_) (fun cdv A outer s H vs Q E hr h => ?_)
  · obtain ⟨G, n, r, co, rfl, _⟩ := h
    rfl
  · obtain ⟨G, n, r, co, rfl, eG, hrn, k⟩ := h
    refine ⟨_, pss_one (ps_ret (pe_ifExp (pt_cmp (pc_isN (pv 1))) pe_dnewK (pe_disp (pps_cons (pv 0) (pe_tup (pa_cons (pe_cal CN hr (by rfl) (pa_cons pe_non pa_nil)) (pa_cons (pv 1) pa_nil))) pps_nil) rfl rfl (by simp) (by decide)))), ?_⟩
    unfold tRet tIf
    dsimp only
    refine (ev_isN (te := tVar 1) (σ := [some (.int (r : Int)), some (oV co)]) (x := oV co) (ev_var rfl)) H (Ex.refl _) _ fun H1 e1 => ?_
    have eG1 := eG.trans e1
    cases co with
    | none =>
      rw [decide_eq_true (show oV none = V.non from rfl)]
      simp only [if_true]
      intro D hD
      have gz := (Gz.ext eG e1).trans (Gz.new (o := .dK []) eG1 hD)
      refine k _ _ D gz ⟨[], [], upd_same, ?_⟩
      have z := BkD.nil (upd G D (.dK [])) n
      have e : firstB r none = fun _ => none := by
        funext k
        unfold firstB
        split <;> rfl
      rw [e]
      exact z
    | some c =>
      rw [decide_eq_false (show ¬ oV (some c) = V.non from fun z => by cases z)]
      simp only [Bool.false_eq_true, if_false]
      intro D hD
      have gD := fresh_back eG1 hD
      refine ⟨.int (r : Int), rfl, ?_⟩
      have vn : Ev (tCall spNum [] E0 (tCons (tC .non) tNil)) [some (.int (r : Int)), some (oV (some c))] (upd H1 D (.dK [])) (.int ((1 : Nat) : Int)) := ev_call (ea_cons ev_c ea_nil) (spP_v fun H3 e3 => ⟨_, rfl, .inl ⟨rfl, rfl⟩⟩)
      have eN := Ex.new (o := .dK []) hD
      refine (es_tup (xs := entV (1, c)) (ea_cons vn (ea_cons (ev_var (i := 1) rfl) ea_nil)) (by show 2 ≤ 100000; decide)) _ (Ex.refl _) _ fun te H3 e3 hte => ?_
      have hD3 : H3 D = some (.dK []) := e3 _ _ upd_same
      refine ⟨hD3, [(.inl (r : Int), .ref te)], rfl, by show 1 ≤ 15; decide, ?_⟩
      have nDt : D ≠ te := fun z => by rw [z, hte] at hD3; cases hD3
      have gz1 := (Gz.ext eG (e1.trans (eN.trans e3))).trans (Gz.tup (eG.trans (e1.trans (eN.trans e3))) hte)
      have gD1 : (upd G te (.tup (entV (1, c)))) D = none := by rw [upd_ne nDt]; exact fresh_back eG (fresh_back e1 hD)
      have gz2 := gz1.set (o := .dK (mergeK [] [(.inl (r : Int), .ref te)])) (fresh_back e1 hD) gD1
      have z := (BkD.nil (upd (upd G te (.tup (entV (1, c)))) D (.dK (mergeK [] [(.inl (r : Int), .ref te)]))) n).put hrn (t := te) (e := (1, c)) (by rw [upd_ne (Ne.symm nDt)]; exact upd_same)
      have e : firstB r (some c) = setB (fun _ => none) r (1, c) := by
        funext k
        unfold firstB setB
        split <;> rfl
      rw [← e] at z
      exact k _ _ D gz2 ⟨_, _, upd_same, z⟩
end
end Wk

set_option Elab.async false
set_option linter.all false
set_option maxRecDepth 100000
set_option maxHeartbeats 2000000
namespace Wk
open PySem PySem.Spec PyProof.Rows L2 Evl
def Deed.word : Deed → Str
  | .pas _ _ => "pass"
  | .los _ _ => "lose"
  | .rst _ => "restart"
  | .wri _ _ => "write"
def Deed.one : Deed → Nat
  | .pas a _ => a
  | .los a _ => a
  | .rst r => r
  | .wri r _ => r
theorem Deed.at0 (x : Deed) : atI x.vs 0 = some (.str x.word) := by cases x <;> exact atI_nat (j := 0) rfl
theorem Deed.at1 (x : Deed) : atI x.vs 1 = some (.int (x.one : Int)) := by cases x <;> exact atI_nat (j := 1) rfl
def isWri : Deed → Bool
  | .wri _ _ => true
  | _ => false
def isPas : Deed → Bool
  | .pas _ _ => true
  | _ => false
theorem word_wri (x : Deed) : decide (V.str x.word = V.str "write") = isWri x := by
  cases x with
  | pas a b => exact show decide (V.str "pass" = V.str "write") = false by decide +kernel
  | los a b => exact show decide (V.str "lose" = V.str "write") = false by decide +kernel
  | rst r => exact show decide (V.str "restart" = V.str "write") = false by decide +kernel
  | wri r c => exact show decide (V.str "write" = V.str "write") = true by decide +kernel
theorem word_pas (x : Deed) : decide (V.str x.word = V.str "pass") = isPas x := by
  cases x with
  | pas a b => exact show decide (V.str "pass" = V.str "pass") = true by decide +kernel
  | los a b => exact show decide (V.str "lose" = V.str "pass") = false by decide +kernel
  | rst r => exact show decide (V.str "restart" = V.str "pass") = false by decide +kernel
  | wri r c => exact show decide (V.str "write" = V.str "pass") = false by decide +kernel

theorem g_two {i j : Nat} {x y : V} {σ : L2.St} {H : Hp} {k : L2.St → Hp → Prop} (h : k ((σ.set i (some x)).set j (some y)) H) : gCons (gName i) (gCons (gName j) gNil) [x, y] σ H k := ⟨_, _, rfl, ⟨_, _, rfl, ⟨rfl, h⟩⟩⟩
/-- two targets -/
theorem grow_lc2 {K : PySem.W.Frag} {J : It} {n : Nat} {Gd : Hp → Prop} {Y : Nat → V → Hp → Prop} {j1 j2 : Nat} {vs : List Nat} {σ : L2.St} {H : Hp} {D : Addr} {Qd : Hp → Prop} {te : TE} (u v : Nat → V)
    (w : Walk J n Gd (fun i H' x H'' => H'' = H' ∧ ∃ a, x = .ref a ∧ H a = some (.tup [u i, v i]))) (hY : GoodY Y) (hD : H D = none) (hn : n ≤ 40000) (hG : ∀ H', Ex H H' → Gd H') (hw : ∀ x y, wipe (((wipe σ vs).set j1 (some x)).set j2 (some y)) vs = wipe σ vs)
    (he : ∀ i H', Ex H H' → i < n → EvY te (((wipe σ vs).set j1 (some (u i))).set j2 (some (v i))) H' (Y i))
    (hq : ∀ us H', Ex H H' → H' D = some (.lst us) → Grown Y H' (upTo (fun _ => true) n) us → Qd H') :
    ∃ W : Nat → Nat → Hp → Prop, (∃ m, W 0 m (upd H D (.lst []))) ∧ ∀ i m H, W i m H →
      (J.stop i H ∧ Qd H) ∨ (J.go i H ∧ ∃ Nx : Hp → Prop, (∀ H', Nx H' → ∃ m', m' < m ∧ W (i + 1) m' H') ∧ ∀ x H', J.yld i H x H' → gTup K 2 (gCons (gName j1) (gCons (gName j2) gNil)) x (wipe σ vs) H' fun σ2 H2 => wipe σ2 vs = wipe σ vs ∧ tYes σ2 H2 fun b H3 =>
        if b = true then te σ2 H3 fun y H4 => ∃ acc, H4 D = some (.lst acc) ∧ acc.length < sizeLine ∧ Nx (upd H4 D (.lst (acc ++ [y]))) else Nx H3) := by
  refine lc_it w (Gw Y H (fun _ => true) D) ⟨hD, Ex.new hD, [], upd_same, rfl⟩ (fun i H' _ p => hG H' p.2.1) (fun i x H' H2 hi p y => ?_) (fun H' p => ?_)
  · obtain ⟨rfl, a, rfl, ha⟩ := y
    exact ⟨a, _, rfl, st_of (p.2.1 _ _ ha), rfl, g_two ⟨hw _ _, gw_turn hY p (by omega) et_yes (fun _ => he i _ p.2.1 hi)⟩⟩
  · obtain ⟨_, e, us, d, g⟩ := p
    exact hq us H' e d (g.up hY.up (off_in D H'))
section
variable {K : PySem.W.Frag} {σ : L2.St} {H : Hp} {t : TT} {te tl ta tb : TE}
theorem el_lcS {xs : List V} {j : Nat} {vs : List Nat} (f : Nat → Bool) (v : Nat → V) (h : EvS tl σ H xs) (hz : xs.length ≤ 40000) (hw : ∀ x, wipe ((wipe σ vs).set j (some x)) vs = wipe σ vs)
    (ht : ∀ (i : Nat) (x : V) H1, Ex H H1 → xs[i]? = some x → EvT t ((wipe σ vs).set j (some x)) H1 (f i)) (he : ∀ (i : Nat) (x : V) H1, Ex H H1 → xs[i]? = some x → f i = true → Ev te ((wipe σ vs).set j (some x)) H1 (v i)) :
    EvL (tLc (iTup K tl) (gName j) t te vs) σ H (given xs.length f v) := fun H0 e Q q => h H0 e _ fun p H1 e1 hp => by
  have z := el_lcT (K := K) (σ := σ) (H := H1) (t := t) (te := te) (j := j) (vs := vs) (tl := tC (.ref p)) f v ev_c (st_of hp) hz hw (fun i x H2 e2 hx => ht i x H2 ((e.trans e1).trans e2) hx) (fun i x H2 e2 hx hf => he i x H2 ((e.trans e1).trans e2) hx hf)
  exact z H1 (Ex.refl _) Q fun l H2 hl e2 h2 => q l H2 (fresh_back e1 hl) (e1.trans e2) h2
theorem ev_all_yes {n : Nat} {tl : TE} (h : EvL tl σ H (given n (fun _ => true) fun _ => .bl true)) : Ev (tCB (rAll K) (tCons tl tNil)) σ H (.bl true) := by
  have e : given n (fun _ => true) (fun _ => V.bl true) = (List.replicate n true).map V.bl := by
    rw [given_all]
    apply List.ext_getElem
    · simp
    · intro i h1 h2
      simp
  rw [e] at h
  have z := ev_allL (K := K) h
  rw [show (List.replicate n true).all id = true by simp] at z
  exact z
theorem ev_isi2 {v : V} {d : PyData} {n m : String} {b c : Bool} (h : Ev ta σ H v) (hd : Dq H v d) (h1 : kitB (tyN d) n = some b) (h2 : kitB (tyN d) m = some c) :
    Ev (tCB (rIsiT K) (tCons ta (tCons (tTup (tCons (tC (.ty n)) (tCons (tC (.ty m)) tNil))) tNil))) σ H (.bl (b || c)) := fun H1 e Q q =>
  h H1 e _ fun H2 e2 => ⟨by show 2 ≤ sizeLine; decide, fun p hp => ⟨v, p, [.ty n, .ty m], .type (tyN d), [.type n, .type m], b || c, rfl, upd_same, .cons (.ty n) (.cons (.ty m) .nil), (hd.mono ((e.trans e2).trans (Ex.new hp))).ty,
    kitAny_cons (kit_ty h1) (fun hb => kitAny_cons (kit_ty h2) (fun hc => by rw [hb, hc]; exact kitAny_nil) (fun hc => by rw [hc]; simp)) (fun hb => by rw [hb]; rfl), q _ (e2.trans (Ex.new hp))⟩⟩
theorem ev_inDw {x : Wy} {a : Addr} {us : List V} {ws : List Wy} (ha : EvS ta σ H (x.map V.int)) (hb : Ev tb σ H (.ref a)) (hl : H a = some (.lst us)) (hus : DqA H us (ws.map wd)) : Ev (tOp (rInD K) ta tb) σ H (.bl (decide (x ∈ ws))) := fun H1 e Q q =>
  ha H1 e _ fun p H2 e2 hp => hb H2 (e.trans e2) _ fun H3 e3 => by
    have e03 := (e.trans e2).trans e3
    refine ⟨wd x, ws.map wd, Dq.dp ?_ (wd_of (e3 _ _ hp)), Dq.dp ?_ (.lst (e03 _ _ hl) (hus.mono e03)), shaped_ints x, shaped_wds ws, ?_⟩
    · simp [wd, PyData.canLay0, lay_ints]
    · simp [PyData.canLay0, lay_wds]
    · rw [any_wd]
      exact q H3 (e2.trans e3)
end
theorem k_ll : kitB "list" "list" = some true := by decide +kernel
theorem k_lt : kitB "list" "tuple" = some false := by decide +kernel
theorem k_ss : kitB "str" "str" = some true := by decide +kernel
section
variable {P : Program} {w : World} {K : PySem.W.Frag} {mg : Str → Option Value} {base : Heap} {f : Addr} {fd : FuncData}
/-! is_row of a list -/
abbrev spIsRow : Sp := spP fun H vs z => ∃ (v : V) (ds : List PyData), vs = [v] ∧ Dq H v (.list ds) ∧ z = .bl true
abbrev sIsRow : Stmt := top 11
theorem scIsRow : FnScope ["thing"] ["thing"] (defScope sIsRow) := ⟨rfl, rfl, rfl, by decide +kernel, rfl, by decide +kernel, by decide +kernel⟩
theorem ok_isRow (B : Bl mg) (F : FnP K "is_row" sIsRow f fd) : FnOk P w K mg base CX0 1 f fd ["thing"] spIsRow := by
  refine F.ok scIsRow (fun vs H Q E h => ?_) (fun cdv A outer s H vs Q E hr h => ?_)
  · obtain ⟨z, ⟨v, d, rfl, _⟩, _⟩ := h
    rfl
  · obtain ⟨z, ⟨v, d, rfl, hv, rfl⟩, k⟩ := h
    exact ⟨_, pss_one (ps_ret (pe_callB call_isiT (by rfl) B.isi boot_isinstance (pa_cons (pv 0) (pa_cons (pe_tup (pa_cons (pe_bltn (v := .ty "list") (by rfl) B.list PyProof.Rows.boot_list rfl) (pa_cons (pe_bltn (v := .ty "tuple") (by rfl) B.tuple PyProof.Rows.boot_tuple rfl) pa_nil))) pa_nil)))),
      s_ret (ev_isi2 (ev_var rfl) hv k_ll k_lt) k⟩
/-! is_tuple_of -/
abbrev spTupOf : Sp := spP fun H vs z => ∃ (m : Int) (a : Addr) (ds : List PyData), vs = [.int m, .ref a] ∧ Dq H (.ref a) (.tuple ds) ∧ z = .bl (decide (V.int (ds.length : Int) = V.int m))
abbrev sTupOf : Stmt := top 12
theorem scTupOf : FnScope ["many", "thing"] ["many", "thing"] (defScope sTupOf) := ⟨rfl, rfl, rfl, by decide +kernel, rfl, by decide +kernel, by decide +kernel⟩
theorem ok_tupOf (B : Bl mg) (F : FnP K "is_tuple_of" sTupOf f fd) : FnOk P w K mg base CX0 1 f fd ["many", "thing"] spTupOf := by
  refine F.ok scTupOf (fun vs H Q E h => ?_) (fun cdv A outer s H vs Q E hr h => ?_)
  · obtain ⟨z, ⟨m, v, ds, rfl, _⟩, _⟩ := h
    rfl
  · obtain ⟨z, ⟨m, a, ds, rfl, hv, rfl⟩, k⟩ := h
    refine ⟨_, pss_one (ps_ret (pe_and (pe_callB call_isi (by rfl) B.isi boot_isinstance (pa_cons (pv 1) (pa_cons (pe_bltn (v := .ty "tuple") (by rfl) B.tuple PyProof.Rows.boot_tuple rfl) pa_nil)))
      (pe_one (pe_cmpR op_eq (pe_callB call_len_seq (by rfl) B.len PySem.boot_len (pa_cons (pv 1) pa_nil)) (pv 0) (nomark _))))), ?_⟩
    have v1 : Ev (tVar 1) (start ["many", "thing"] [.int m, .ref a]) H (.ref a) := ev_var rfl
    have v0 : Ev (tVar 0) (start ["many", "thing"] [.int m, .ref a]) H (.int m) := ev_var rfl
    cases hv with
    | @tup _ xs _ h1 h2 =>
      rw [← h2.length] at k
      have z := ev_andV (a := true) (ev_isi (K := K) v1 (.tup h1 h2) (show kitB "tuple" "tuple" = some true by decide +kernel)) fun _ => ev_op (r := rEq) (ev_lenT (K := K) v1 (st_of h1)) v0 (rv_eq rfl)
      exact s_ret z k
/-! is_router_pair -/
abbrev spRPair : Sp := spP fun H vs z => ∃ (n : Nat) (a : Addr) (p : Wy), vs = [.int (n : Int), .ref a] ∧ H a = some (.tup (p.map V.int)) ∧ PrOk n p ∧ z = .bl true
abbrev sRPair : Stmt := top 16
theorem scRPair : FnScope ["size", "thing"] ["size", "thing"] (defScope sRPair) := ⟨rfl, rfl, rfl, by decide +kernel, rfl, by decide +kernel, by decide +kernel⟩
theorem isR_yes {n : Nat} {u : Nat} (h : u < n) : isR (n : Int) (.int (u : Int)) = true := by
  unfold isR isI valI
  rw [decide_eq_true (show (0 : Int) ≤ u by omega), decide_eq_true (show (u : Int) ≤ (n : Int) - 1 by omega)]
  rfl
theorem ok_rPair (CT : Cal P w K mg base "is_tuple_of" ["many", "thing"] 1 spTupOf) (CR : Cal P w K mg base "is_router" ["size", "thing"] 3 spRouter) (F : FnP K "is_router_pair" sRPair f fd) : FnOk P w K mg base CX0 4 f fd ["size", "thing"] spRPair := by
  refine F.ok scRPair (fun vs H Q E h => ?_) (fun cdv A outer s H vs Q E hr h => ?_)
  · obtain ⟨z, ⟨n, v, ds, rfl, _⟩, _⟩ := h
    rfl
  · obtain ⟨z, ⟨n, a, p, rfl, ha, ⟨u, v, rfl, hu, hv, _⟩, rfl⟩, k⟩ := h
    refine ⟨_, pss_one (ps_ret (pe_and (pe_cal CT hr (by rfl) (pa_cons pe_int (pa_cons (pv 1) pa_nil))) (pe_and (pe_cal CR hr (by rfl) (pa_cons (pv 0) (pa_cons (pe_ix ix_tup (pv 1) pe_int (fun _ _ => rfl)) pa_nil)))
      (pe_one (pe_cal CR hr (by rfl) (pa_cons (pv 0) (pa_cons (pe_ix ix_tup (pv 1) pe_int (fun _ _ => rfl)) pa_nil))))))), ?_⟩
    have v1 : Ev (tVar 1) (start ["size", "thing"] [.int (n : Int), .ref a]) H (.ref a) := ev_var rfl
    have v0 : Ev (tVar 0) (start ["size", "thing"] [.int (n : Int), .ref a]) H (.int (n : Int)) := ev_var rfl
    have c1 : Ev (tCall spTupOf [] E0 (tCons (tC (.int 2)) (tCons (tVar 1) tNil))) (start ["size", "thing"] [.int (n : Int), .ref a]) H (.bl true) := ev_call (ea_cons ev_c (ea_cons v1 ea_nil)) (spP_v fun H1 e => ⟨2, a, [.int (u : Int), .int (v : Int)], rfl, .tup (e _ _ ha) (DqA.ints [(u : Int), (v : Int)]), rfl⟩)
    have c2 : Ev (tCall spRouter [] E0 (tCons (tVar 0) (tCons (tOp (rIxT K) (tVar 1) (tC (.int 0))) tNil))) (start ["size", "thing"] [.int (n : Int), .ref a]) H (.bl true) := ev_call (ea_cons v0 (ea_cons (ev_op v1 ev_c (rv_ixT (i := 0) (st_of ha) rfl)) ea_nil)) (spP_v fun H1 e => ⟨(n : Int), _, .int (u : Int), rfl, .int _, by rw [isR_yes hu]⟩)
    have c3 : Ev (tCall spRouter [] E0 (tCons (tVar 0) (tCons (tOp (rIxT K) (tVar 1) (tC (.int 1))) tNil))) (start ["size", "thing"] [.int (n : Int), .ref a]) H (.bl true) := ev_call (ea_cons v0 (ea_cons (ev_op v1 ev_c (rv_ixT (i := 1) (st_of ha) rfl)) ea_nil)) (spP_v fun H1 e => ⟨(n : Int), _, .int (v : Int), rfl, .int _, by rw [isR_yes hv]⟩)
    exact s_ret (ev_andV c1 fun _ => ev_andV c2 fun _ => c3) k
/-! is_row_of_unlike_pairs -/
abbrev spUnl : Sp := spP fun H vs z => ∃ (n : Nat) (l : Addr) (us : List V) (prs : List Wy), vs = [.int (n : Int), .ref l] ∧ H l = some (.lst us) ∧ DqA H us (prs.map wd) ∧ (∀ p ∈ prs, PrOk n p) ∧ prs.length ≤ 1000 ∧ z = .bl true
abbrev sUnl : Stmt := top 17
abbrev nUnl : List Str := ["size", "thing", "pair"]
theorem scUnl : FnScope nUnl ["size", "thing"] (defScope sUnl) := ⟨rfl, rfl, rfl, by decide +kernel, rfl, by decide +kernel, by decide +kernel⟩
theorem ok_unl (B : Bl mg) (CI : Cal P w K mg base "is_row" ["thing"] 1 spIsRow) (CP : Cal P w K mg base "is_router_pair" ["size", "thing"] 4 spRPair) (F : FnP K "is_row_of_unlike_pairs" sUnl f fd) : FnOk P w K mg base CX0 5 f fd ["size", "thing"] spUnl := by
  refine F.ok scUnl (fun vs H Q E h => ?_) (fun cdv A outer s H vs Q E hr h => ?_)
  · obtain ⟨z, ⟨n, v, ds, us, rfl, _⟩, _⟩ := h
    rfl
  · obtain ⟨z, ⟨n, l, us, prs, rfl, hl, hus, hok, hpl, rfl⟩, k⟩ := h
    refine ⟨_, pss_one (ps_ret (pe_and (pe_cal CI hr (by rfl) (pa_cons (pv 1) pa_nil)) (pe_one (pe_callB (cr_all rfl) (by rfl) B.all boot_all (pa_cons
      (pe_lc (own := [("pair", 2)]) (g := gName 2) (tt := tYes) (te := tAndV (tCall spRPair [] E0 (tCons (tVar 0) (tCons (tVar 2) tNil))) (tOp rNe (tOp (rIxT K) (tVar 2) (tC (.int 0))) (tOp (rIxT K) (tVar 2) (tC (.int 1))))) rfl scUnl.nd (pi_list (pv 1)) (blkOk_by (N := nUnl) (sc := defScope sUnl) (by decide +kernel))
        (fun _ _ _ _ _ => pg_name (i := 2) scUnl.nd rfl (Or.inl rfl)) (fun _ _ _ _ _ => pts_nil) (fun _ _ _ _ _ => pe_and (pe_cal CP hr (by rfl) (pa_cons (pv 0) (pa_cons (pv 2) pa_nil))) (pe_one (pe_cmpR op_ne (pe_ix ix_tup (pv 2) pe_int (fun _ _ => rfl)) (pe_ix ix_tup (pv 2) pe_int (fun _ _ => rfl)) rfl)))) pa_nil))))), ?_⟩
    have hul := hus.length
    rw [List.length_map] at hul
    have c1 : Ev (tCall spIsRow [] E0 (tCons (tVar 1) tNil)) (start nUnl [.int (n : Int), .ref l]) H (.bl true) := ev_call (ea_cons (ev_var rfl) ea_nil) (spP_v fun H1 e => ⟨_, prs.map wd, rfl, .lst (e _ _ hl) (hus.mono e), rfl⟩)
    refine s_ret (ev_andV c1 fun _ => ev_all_yes (n := us.length) (el_lcL (K := K) (fun _ => true) (fun _ => .bl true) (ev_var rfl) (sq_of hl) (by omega) (fun x => rfl) (fun _ _ _ _ _ => et_yes) fun i x H1 e hx _ => ?_)) k
    obtain ⟨p, h1, h2⟩ := DqA.wds_inv hus hx
    obtain ⟨a, rfl, ha⟩ := wd_ref h2
    have hp := hok p (List.mem_of_getElem? h1)
    have hp2 := hp
    obtain ⟨u, v, rfl, hu, hv, hne⟩ := hp
    have ha1 := e _ _ ha
    have q2 : Ev (tVar 2) ((wipe (start nUnl [.int (n : Int), .ref l]) [2]).set 2 (some (.ref a))) H1 (.ref a) := ev_var rfl
    have z1 : Ev (tCall spRPair [] E0 (tCons (tVar 0) (tCons (tVar 2) tNil))) ((wipe (start nUnl [.int (n : Int), .ref l]) [2]).set 2 (some (.ref a))) H1 (.bl true) := ev_call (ea_cons (ev_var rfl) (ea_cons q2 ea_nil)) (spP_v fun H2 e2 => ⟨n, a, _, rfl, e2 _ _ ha1, hp2, rfl⟩)
    have z2 := ev_op (r := rNe) (ev_op q2 ev_c (rv_ixT (K := K) (i := 0) (v := .int (u : Int)) (st_of ha1) rfl)) (ev_op q2 ev_c (rv_ixT (K := K) (i := 1) (v := .int (v : Int)) (st_of ha1) rfl)) (rv_ne rfl)
    have hd : (!decide (V.int (u : Int) = V.int (v : Int))) = true := by
      rw [decide_eq_false]
      · rfl
      · intro z
        injection z with z
        omega
    rw [hd] at z2
    exact ev_andV z1 fun _ => z2
/-! is_size, refuse_wrong_flood -/
abbrev spSize : Sp := spP fun H vs z => ∃ (a : Int) (v : V) (d : PyData), vs = [.int a, v] ∧ Dq H v d ∧ z = .bl (isI d && (decide (a ≤ valI d) && decide (valI d ≤ 8)))
abbrev sSize : Stmt := top 15
theorem scSize : FnScope ["least", "thing"] ["least", "thing"] (defScope sSize) := ⟨rfl, rfl, rfl, by decide +kernel, rfl, by decide +kernel, by decide +kernel⟩
theorem ok_size {t8 : Tok} (hM : mg "MOST_ROUTERS" = some (.int 8 t8)) (C : Cal P w K mg base "is_between" ["least", "most", "thing"] 2 spBetween) (F : FnP K "is_size" sSize f fd) : FnOk P w K mg base CX0 3 f fd ["least", "thing"] spSize := by
  refine F.ok scSize (fun vs H Q E h => ?_) (fun cdv A outer s H vs Q E hr h => ?_)
  · obtain ⟨z, ⟨n, v, d, rfl, _⟩, _⟩ := h
    rfl
  · obtain ⟨z, ⟨n, v, d, rfl, hd, rfl⟩, k⟩ := h
    refine ⟨_, pss_one (ps_ret (pe_cal C hr (by rfl) (pa_cons (pv 0) (pa_cons (pe_glob (v := .int 8) (by rfl) hM ⟨_, rfl⟩) (pa_cons (pv 1) pa_nil))))), ?_⟩
    exact s_ret (ev_call (ea_cons (ev_var rfl) (ea_cons ev_c (ea_cons (ev_var rfl) ea_nil))) (spP_v fun H1 e => ⟨n, 8, v, d, rfl, hd.mono e, rfl⟩)) k
abbrev spRWF : Sp := spP fun H vs z => ∃ (n : Nat) (l : Addr) (us : List V) (prs : List Wy), vs = [.int (n : Int), .ref l] ∧ 1 ≤ n ∧ n ≤ 8 ∧ H l = some (.lst us) ∧ DqA H us (prs.map wd) ∧ (∀ p ∈ prs, PrOk n p) ∧ prs.length ≤ 1000 ∧ z = .non
abbrev sRWF : Stmt := top 23
theorem scRWF : FnScope ["size", "links"] ["size", "links"] (defScope sRWF) := ⟨rfl, rfl, rfl, by decide +kernel, rfl, by decide +kernel, by decide +kernel⟩
theorem ok_rwf {t1 : Tok} (hM : mg "LEAST_SIZE" = some (.int 1 t1)) (CS : Cal P w K mg base "is_size" ["least", "thing"] 3 spSize) (CU : Cal P w K mg base "is_row_of_unlike_pairs" ["size", "thing"] 5 spUnl) (F : FnP K "refuse_wrong_flood" sRWF f fd) : FnOk P w K mg base CX0 6 f fd ["size", "links"] spRWF := by
  refine F.ok scRWF (fun vs H Q E h => ?_) (fun cdv A outer s H vs Q E hr h => ?_)
  · obtain ⟨z, ⟨n, v, ds, us, rfl, _⟩, _⟩ := h
    rfl
  · obtain ⟨z, ⟨n, l, us, prs, rfl, hn1, hn8, hl, hus, hok, hpl, rfl⟩, k⟩ := h
    refine ⟨_, pss_cons (ps_if (pt_not (pt_val (pe_cal CS hr (by rfl) (pa_cons (pe_glob (v := .int 1) (by rfl) hM ⟨_, rfl⟩) (pa_cons (pv 0) pa_nil))))) (pss_one ps_never) pss_nil)
      (pss_one (ps_if (pt_not (pt_val (pe_cal CU hr (by rfl) (pa_cons (pv 0) (pa_cons (pv 1) pa_nil))))) (pss_one ps_never) pss_nil)), ?_⟩
    have b1 : (isI (.int (n : Int)) && (decide ((1 : Int) ≤ valI (.int (n : Int))) && decide (valI (.int (n : Int)) ≤ 8))) = true := by
      show (true && (decide ((1 : Int) ≤ (n : Int)) && decide ((n : Int) ≤ 8))) = true
      rw [decide_eq_true (show (1 : Int) ≤ n by omega), decide_eq_true (show (n : Int) ≤ 8 by omega)]
      rfl
    have c1 : Ev (tCall spSize [] E0 (tCons (tC (.int 1)) (tCons (tVar 0) tNil))) (start ["size", "links"] [.int (n : Int), .ref l]) H (.bl true) := ev_call (ea_cons ev_c (ea_cons (ev_var rfl) ea_nil)) (spP_v fun H1 e => ⟨1, _, .int (n : Int), rfl, .int _, by rw [b1]⟩)
    refine q_when (b := !true) (et_not (et_B c1)) (fun z => by cases z) fun _ H1 e1 => ?_
    have c2 : Ev (tCall spUnl [] E0 (tCons (tVar 0) (tCons (tVar 1) tNil))) (start ["size", "links"] [.int (n : Int), .ref l]) H1 (.bl true) := ev_call (ea_cons (ev_var rfl) (ea_cons (ev_var rfl) ea_nil)) (spP_v fun H2 e => ⟨n, l, us, prs, rfl, (e1.trans e) _ _ hl, hus.mono (e1.trans e), hok, hpl, rfl⟩)
    refine s_when (b := !true) (et_not (et_B c2)) (fun z => by cases z) fun _ H2 e2 => k H2 (e1.trans e2)
/-! both_ways -/
abbrev sBoth : Stmt := top 24
abbrev nBoth : List Str := ["links", "a", "b"]
theorem scBoth : FnScope nBoth ["links"] (defScope sBoth) := ⟨rfl, rfl, rfl, by decide +kernel, rfl, by decide +kernel, by decide +kernel⟩
theorem ok_both (B : Bl mg) (hs : mg "sorted" = none) (F : FnP K "both_ways" sBoth f fd) : FnOk P w K mg base CX0 1 f fd ["links"] spPairs := by
  refine F.ok scBoth (fun vs H Q E h => ?_) (fun cdv A outer s H vs Q E hr h => ?_)
  · obtain ⟨l, us, prs, rfl, _⟩ := h
    rfl
  · obtain ⟨l, us, prs, rfl, hl, hus, hok, hpl, k⟩ := h
    have hu : (A.deeper (envOfC "both_ways" (defScope sBoth) s.heap.objs.size f cdv)).units + 64 < cLine := by have := hr.un; omega
    refine ⟨_, pss_one (ps_ret (pe_callB (cr_sortedT rfl) (by rfl) hs boot_sorted (pa_cons (pe_callTy (cr_setOfT rfl hu) (by rfl) B.set PyProof.Rows.boot_set (pa_cons (pe_op op_cat (pe_callTy (call_listK2 (K := K) rfl) (by rfl) B.list PyProof.Rows.boot_list (pa_cons (pv 0) pa_nil))
      (pe_lc (own := [("a", 1), ("b", 2)]) (g := gTup K 2 (gCons (gName 1) (gCons (gName 2) gNil))) (tt := tYes) (te := tTup (tCons (tVar 2) (tCons (tVar 1) tNil))) rfl scBoth.nd
        (pi_list (pv 0)) (blkOk_by (N := nBoth) (sc := defScope sBoth) (by decide +kernel)) (fun _ _ _ _ _ => pg_tup rfl (pgs_cons (pg_name (i := 1) scBoth.nd rfl (Or.inl rfl)) (pgs_cons (pg_name (i := 2) scBoth.nd rfl (Or.inl rfl)) pgs_nil)))
        (fun _ _ _ _ _ => pts_nil)
        (fun _ _ _ _ _ => pe_tup (pa_cons (pv 2) (pa_cons (pv 1) pa_nil))))) pa_nil)) pa_nil))), ?_⟩
    have hul := hus.length
    rw [List.length_map] at hul
    have hbd := PrOk.bd (n := 8) (by omega) (both_ok hok)
    refine ret_cb (cb1 ?_)
    refine ⟨.ref l, rfl, l, us, rfl, .inl (sq_of hl), fun l1 hl1 => ?_⟩
    have ex1 := Ex.new (o := .lst us) hl1
    have h11 : (upd H l1 (.lst us)) l1 = some (.lst us) := upd_same
    generalize upd H l1 (.lst us) = H1 at *
    have two : ∀ {i : Nat} {x : V}, us[i]? = some x → ∃ a, x = .ref a ∧ H1 a = some (.tup [.int ((prs.getD i []).getD 0 0), .int ((prs.getD i []).getD 1 0)]) := by
      intro i x hx
      obtain ⟨w, h1, h2⟩ := DqA.wds_inv hus hx
      obtain ⟨a, rfl, ha⟩ := wd_ref h2
      obtain ⟨u, v, rfl, _⟩ := hok w (List.mem_of_getElem? h1)
      refine ⟨a, rfl, ?_⟩
      rw [List.getD_eq_getElem?_getD (l := prs), h1]
      exact ex1 _ _ ha
    refine ⟨.ref l, rfl, l, rfl, ⟨us, sq_of (ex1 _ _ hl)⟩, fun D hD => ?_⟩
    refine grow_lc2 (K := K) (fun i => .int ((prs.getD i []).getD 0 0)) (fun i => .int ((prs.getD i []).getD 1 0)) ((walk_list (K := K) (a := l) (xs := us)).mono (fun H h => h) fun i H' x H'' hi _ y => ⟨y.1, two y.2⟩) (tupY_good fun i => (swW (prs.getD i [])).map V.int) hD (by omega)
      (fun H' e => sq_of (e _ _ (ex1 _ _ hl))) (fun x y => rfl) (fun i H' e hi => ?_) (fun us2 H2 e2 hd g => ?_)
    · intro H3 e3 Q3 q
      exact ⟨_, rfl, _, rfl, by show 2 ≤ sizeLine; decide, fun p hp => q _ _ (Ex.new hp) ⟨p, rfl, upd_same⟩⟩
    · obtain ⟨ks2, k1, k2, k3⟩ := grown_ks g
      subst k1
      rw [upTo_all, hul, range_sw] at k2
      have e2' := ex1.trans e2
      obtain ⟨ks1, j1, j2, j3⟩ := wds_ks (hus.mono e2')
      have l1' : ks1.length = prs.length := by rw [← j2, List.length_map]
      have l2 : ks2.length = prs.length := by
        have := congrArg List.length k2
        simpa using this
      refine ⟨l1, D, us, _, rfl, rfl, e2 _ _ h11, hd, by rw [List.length_map, sizeLine_eq]; omega, fun t ht => ?_⟩
      have et := Ex.new (o := .lst (us ++ ks2.map fun p => V.ref p.1)) ht
      have htt : (upd H2 t (.lst (us ++ ks2.map fun p => V.ref p.1))) t = some (.lst ((ks1 ++ ks2).map fun p => V.ref p.1)) := by
        rw [upd_same, List.map_append, ← j1]
      generalize upd H2 t (.lst (us ++ ks2.map fun p => V.ref p.1)) = H3 at *
      have hm3 : ∀ p ∈ ks1 ++ ks2, H3 p.1 = some (.tup (p.2.map V.int)) := fun p hp => by
        rcases List.mem_append.mp hp with z | z
        · exact et _ _ (j3 p z)
        · exact et _ _ (k3 p z)
      have hmem : ∀ p, p ∈ (ks1 ++ ks2).map (·.2) ↔ p ∈ prs ++ prs.map swW := by
        intro p
        rw [List.map_append, j2, k2]
      refine ⟨t, ks1 ++ ks2, rfl, sq_of htt, fun p hp => st_of (hm3 p hp), by rw [List.length_append]; omega, fun a L ha h1 h2 => ?_⟩
      have ea := Ex.new (o := SetTO P w a L) ha
      refine ⟨a, L, 2, 64, rfl, upd_same, fun p hp => st_of (ea _ _ (hm3 p (h1 p hp))), by decide, fun p hp => ?_, fun L' p pm nd l64 pw hp => ?_⟩
      · obtain ⟨u, v', hu', hv', ep⟩ := hbd p.2 ((hmem _).mp (List.mem_map.mpr ⟨p, h1 p hp, rfl⟩))
        rw [ep]
        refine ⟨rfl, fun m hm => ?_⟩
        rcases List.mem_cons.mp hm with z | z
        · omega
        · rcases List.mem_cons.mp z with z | z
          · omega
          · cases z
      · have eM : L'.map (·.2) = joinW prs := by
          refine asc_unique hbd (fun q => ?_) nd (List.pairwise_map.mpr pw)
          rw [← hmem]
          constructor
          · intro hq
            obtain ⟨r, hr', rfl⟩ := List.mem_map.mp hq
            exact List.mem_map.mpr ⟨r, h1 r (pm.mem_iff.mp hr'), rfl⟩
          · intro hq
            obtain ⟨r, hr', rfl⟩ := List.mem_map.mp hq
            obtain ⟨r2, hr2, e⟩ := List.mem_map.mp (h2 r hr')
            exact List.mem_map.mpr ⟨r2, pm.mem_iff.mpr hr2, e⟩
        have ep := Ex.new (o := .lst (L'.map fun q => V.ref q.1)) hp
        refine k _ p _ ((e2'.trans et).trans (ea.trans ep)) (fresh_back ((e2'.trans et).trans ea) hp) upd_same ?_
        rw [← eM]
        exact ks_wds fun q hq => ep _ _ (ea _ _ (hm3 q (h1 q (pm.mem_iff.mp hq))))
/-! is_flood_deed -/
theorem Deed.len (x : Deed) : (x.vs.length = 3 ∨ x.vs.length = 2) ∧ x.vs.length ≠ 0 := by cases x <;> simp [Deed.vs]
theorem Deed.ints (x : Deed) {i : Nat} {v : V} (h : (x.vs.drop 1)[i]? = some v) : ∃ n : Int, v = .int n := by
  cases x with
  | rst r =>
    match i, h with
    | 0, h => exact ⟨_, (Option.some.inj h).symm⟩
  | pas a b =>
    match i, h with
    | 0, h => exact ⟨_, (Option.some.inj h).symm⟩
    | 1, h => exact ⟨_, (Option.some.inj h).symm⟩
  | los a b =>
    match i, h with
    | 0, h => exact ⟨_, (Option.some.inj h).symm⟩
    | 1, h => exact ⟨_, (Option.some.inj h).symm⟩
  | wri a b =>
    match i, h with
    | 0, h => exact ⟨_, (Option.some.inj h).symm⟩
    | 1, h => exact ⟨_, (Option.some.inj h).symm⟩
def isRst : Deed → Bool
  | .rst _ => true
  | _ => false
theorem word_rst (x : Deed) : decide (V.str x.word = V.str "restart") = isRst x := by
  cases x with
  | pas a b => exact show decide (V.str "pass" = V.str "restart") = false by decide +kernel
  | los a b => exact show decide (V.str "lose" = V.str "restart") = false by decide +kernel
  | rst r => exact show decide (V.str "restart" = V.str "restart") = true by decide +kernel
  | wri r c => exact show decide (V.str "write" = V.str "restart") = false by decide +kernel
end
end Wk

set_option Elab.async false
set_option linter.all false
set_option maxRecDepth 100000
set_option maxHeartbeats 4000000
namespace Wk
open PySem PySem.Spec PyProof.Rows L2 Evl
/-! states -/
def cV (n : Nat) (cs : Nat → Option Nat) : List V := (List.range n).map fun r => oV (cs r)
theorem cV_at {n : Nat} {cs : Nat → Option Nat} {r : Nat} (h : r < n) : (cV n cs)[r]? = some (oV (cs r)) := by
  unfold cV
  rw [List.getElem?_map, List.getElem?_range h]
  rfl
theorem cV_len (n : Nat) (cs : Nat → Option Nat) : (cV n cs).length = n := by unfold cV; simp
theorem cV_set {n : Nat} {cs : Nat → Option Nat} {r c : Nat} : (cV n cs).set r (.int (c : Int)) = cV n fun k => if k = r then some c else cs k := by
  apply List.ext_getElem?
  intro i
  by_cases hi : i < n
  · rw [cV_at hi, List.getElem?_set]
    by_cases e : r = i
    · rw [if_pos e, if_pos e.symm, if_pos (by rw [cV_len]; omega)]
      rfl
    · rw [if_neg e, if_neg (fun z => e z.symm), cV_at hi]
  · rw [List.getElem?_eq_none (by rw [List.length_set, cV_len]; omega), List.getElem?_eq_none (by rw [cV_len]; omega)]
structure BsAt (G : Hp) (bs : List V) (n : Nat) (B : Nat → Bk) : Prop where
  len : bs.length = n
  at_ : ∀ k, k < n → ∃ a, bs[k]? = some (.ref a) ∧ BkAt G a n (B k)
theorem BsAt.mono {G G' : Hp} (e : Ex G G') {bs : List V} {n : Nat} {B : Nat → Bk} (h : BsAt G bs n B) : BsAt G' bs n B := ⟨h.len, fun k hk => by
  obtain ⟨a, h1, h2⟩ := h.at_ k hk
  exact ⟨a, h1, h2.mono e⟩⟩
theorem BsAt.set {G : Hp} {bs : List V} {n r : Nat} {D : Addr} {B : Nat → Bk} {b' : Bk} (h : BsAt G bs n B) (hD : BkAt G D n b') : BsAt G (bs.set r (.ref D)) n fun k => if k = r then b' else B k := by
  refine ⟨by rw [List.length_set]; exact h.len, fun k hk => ?_⟩
  have hl := h.len
  rw [List.getElem?_set]
  by_cases e : r = k
  · rw [if_pos e, if_pos (by omega)]
    refine ⟨D, rfl, ?_⟩
    rw [if_pos e.symm]
    exact hD
  · rw [if_neg e, if_neg (fun z => e z.symm)]
    exact h.at_ k hk
def StAt (G : Hp) (st : Addr) (n : Nat) (B : Nat → Bk) (cs : Nat → Option Nat) : Prop := ∃ tb tc bs, G st = some (.tup [.ref tb, .ref tc]) ∧ G tb = some (.tup bs) ∧ G tc = some (.tup (cV n cs)) ∧ BsAt G bs n B
theorem StAt.mono {G G' : Hp} (e : Ex G G') {st : Addr} {n : Nat} {B : Nat → Bk} {cs : Nat → Option Nat} (h : StAt G st n B cs) : StAt G' st n B cs := by
  obtain ⟨tb, tc, bs, h1, h2, h3, h4⟩ := h
  exact ⟨tb, tc, bs, e _ _ h1, e _ _ h2, e _ _ h3, h4.mono e⟩
def numN : Option Ent → Nat
  | none => 1
  | some e => e.1 + 1
def stepB (B : Nat → Bk) (cs : Nat → Option Nat) : Deed → Nat → Bk
  | .wri r c => fun k => if k = r then setB (B r) r (numN (B r r), c) else B k
  | .pas a b => fun k => if k = b then mergeX (B b) (B a) b (cs b) else B k
  | .rst r => fun k => if k = r then firstB r (cs r) else B k
  | .los _ _ => B
def stepC (cs : Nat → Option Nat) : Deed → Nat → Option Nat
  | .wri r c => fun k => if k = r then some c else cs k
  | _ => cs
/-- a deed that may be done -/
def Deed.may (n : Nat) (B : Nat → Bk) (cs : Nat → Option Nat) : Deed → Prop
  | .pas a b => a < n ∧ b < n ∧ (newer (B b) (B a) b = true → ∃ c, cs b = some c)
  | .los a b => True
  | .rst r => r < n
  | .wri r _ => r < n
section
variable {P : Program} {w : World} {K : PySem.W.Frag} {mg : Str → Option Value} {base : Heap} {f : Addr} {fd : FuncData}
/-! behind -/
def spBeh : Sp := fun vs H Q _ => ∃ (G : Hp) (st t : Addr) (n : Nat) (B : Nat → Bk) (cs : Nat → Option Nat) (x : Deed), vs = [.ref st, .ref t] ∧ Ex G H ∧ StAt G st n B cs ∧ n ≤ 8 ∧ H t = some (.tup x.vs) ∧ x.may n B cs ∧
  ∀ G' H' st', Gz G H G' H' → StAt G' st' n (stepB B cs x) (stepC cs x) → Q (.ref st') H'
abbrev sBeh : Stmt := top 26
abbrev nBeh : List Str := ["state", "deed", "books", "contents", "word", "router", "book", "to"]
theorem scBeh : FnScope nBeh ["state", "deed"] (defScope sBeh) := ⟨rfl, rfl, rfl, by decide +kernel, rfl, by decide +kernel, by decide +kernel⟩
theorem ok_beh (CR : Cal P w K mg base "replaced" nRepl 1 spRepl) (CN : Cal P w K mg base "number_after" ["entry"] 1 spNum) (CE : Cal P w K mg base "with_entry" ["book", "router", "entry"] 1 spWE) (CG : Cal P w K mg base "with_greater" ["own", "given", "router", "content"] 2 spWG) (CF : Cal P w K mg base "first_book" ["router", "content"] 2 spFB)
    (F : FnP K "behind" sBeh f fd) : FnOk P w K mg base CX0 3 f fd ["state", "deed"] spBeh := by
  refine F.ok scBeh (fun vs H Q E h => ?_) (fun cdv A outer s H vs Q E hr h => ?_)
  · obtain ⟨G, st, t, n, B, cs, x, rfl, _⟩ := h
    rfl
  · obtain ⟨G, st, t, n, B, cs, x, rfl, eG, ⟨tb, tc, bs, g1, g2, g3, hB⟩, hn, ht, hx, k⟩ := h
    have hu : (A.deeper (envOfC "behind" (defScope sBeh) s.heap.objs.size f cdv)).units + 1 < cLine := by have := hr.un; omega
    refine ⟨_, pss_cons (ps_asg (pv 0) (pg_tup rfl (pgs_cons (pg_name (i := 2) scBeh.nd rfl (Or.inl rfl)) (pgs_cons (pg_name (i := 3) scBeh.nd rfl (Or.inl rfl)) pgs_nil))))
      (pss_cons (ps_asg (pe_slice sl_tupA (pv 1) po_none (po_some pe_int)) (pg_tup rfl (pgs_cons (pg_name (i := 4) scBeh.nd rfl (Or.inl rfl)) (pgs_cons (pg_name (i := 5) scBeh.nd rfl (Or.inl rfl)) pgs_nil))))
      (pss_cons (ps_if (pt_cmpR op_eq (pv 4) pe_str (nomark _))
        (pss_cons (ps_set (i := 6) scBeh.nd rfl (Or.inl rfl) (pe_cal CE hr (by rfl) (pa_cons (pe_ix ix_tup (pv 2) (pv 5) (fun _ _ => rfl)) (pa_cons (pv 5) (pa_cons (pe_tup (pa_cons (pe_cal CN hr (by rfl) (pa_cons (pe_dget1 hu (pe_ix ix_tup (pv 2) (pv 5) (fun _ _ => rfl)) (pv 5) ⟨rfl, rfl, rfl, rfl⟩) pa_nil)) (pa_cons (pe_ix ix_tup (pv 1) pe_int (fun _ _ => rfl)) pa_nil))) pa_nil)))))
        (pss_one (ps_ret (pe_tup (pa_cons (pe_cal CR hr (by rfl) (pa_cons (pv 2) (pa_cons (pv 5) (pa_cons (pv 6) pa_nil)))) (pa_cons (pe_cal CR hr (by rfl) (pa_cons (pv 3) (pa_cons (pv 5) (pa_cons (pe_ix ix_tup (pv 1) pe_int (fun _ _ => rfl)) pa_nil)))) pa_nil)))))) pss_nil)
      (pss_cons (ps_if (pt_cmpR op_eq (pv 4) pe_str (nomark _))
        (pss_cons (ps_set (i := 7) scBeh.nd rfl (Or.inl rfl) (pe_ix ix_tup (pv 1) pe_int (fun _ _ => rfl)))
        (pss_one (ps_ret (pe_tup (pa_cons (pe_cal CR hr (by rfl) (pa_cons (pv 2) (pa_cons (pv 7) (pa_cons (pe_cal CG hr (by rfl) (pa_cons (pe_ix ix_tup (pv 2) (pv 7) (fun _ _ => rfl)) (pa_cons (pe_ix ix_tup (pv 2) (pv 5) (fun _ _ => rfl)) (pa_cons (pv 7) (pa_cons (pe_ix ix_tup (pv 3) (pv 7) (fun _ _ => rfl)) pa_nil))))) pa_nil)))) (pa_cons (pv 3) pa_nil)))))) pss_nil)
      (pss_cons (ps_if (pt_cmpR op_eq (pv 4) pe_str (nomark _)) (pss_one (ps_ret (pe_tup (pa_cons (pe_cal CR hr (by rfl) (pa_cons (pv 2) (pa_cons (pv 5) (pa_cons (pe_cal CF hr (by rfl) (pa_cons (pv 5) (pa_cons (pe_ix ix_tup (pv 3) (pv 5) (fun _ _ => rfl)) pa_nil))) pa_nil)))) (pa_cons (pv 3) pa_nil))))) pss_nil)
      (pss_one (ps_ret (pv 0))))))), ?_⟩
    refine ⟨.ref st, rfl, st, _, rfl, st_of (eG _ _ g1), rfl, g_two ?_⟩
    dsimp only
    change tSeq _ _ _ [some (.ref st), some (.ref t), some (.ref tb), some (.ref tc), none, none, none, none] H
    have sl : EvS (tSl (rSlA K) (tVar 1) tNoPart (tPart (tC (.int 2)))) [some (.ref st), some (.ref t), some (.ref tb), some (.ref tc), none, none, none, none] H [.str x.word, .int (x.one : Int)] := by
      have z := es_sl (K := K) (te := tVar 1) (σ := [some (.ref st), some (.ref t), some (.ref tb), some (.ref tc), none, none, none, none]) (H := H) (lo := none) (hi := some ((2 : Nat) : Int)) (ev_var rfl) eo_none (eo_some ev_c) ht
      rw [cut_to _ 2 (by have := x.len; omega)] at z
      have e : x.vs.take 2 = [.str x.word, .int (x.one : Int)] := by cases x <;> rfl
      rw [e] at z
      exact z
    refine sl H (Ex.refl _) _ fun t2 H1 e1 ht2 => ?_
    refine ⟨t2, _, rfl, st_of ht2, rfl, g_two ?_⟩
    dsimp only
    change tSeq _ _ _ [some (.ref st), some (.ref t), some (.ref tb), some (.ref tc), some (.str x.word), some (.int (x.one : Int)), none, none] H1
    have ht1 := e1 _ _ ht
    have eG1 := eG.trans e1
    have gz1 := Gz.ext eG e1
    have hbl := hB.len
    have tw : EvT (tTest (tOp rEq (tVar 4) (tC (.str "write")))) [some (.ref st), some (.ref t), some (.ref tb), some (.ref tc), some (.str x.word), some (.int (x.one : Int)), none, none] H1 (isWri x) := by
      rw [← word_wri]
      exact et_test (ev_op (ev_var rfl) ev_c (rv_eq (y := .str "write") rfl))
    refine q_when tw (fun hb H2 e2 => ?_) (fun hb H2 e2 => ?_)
    · cases x with
      | pas a b => cases hb
      | los a b => cases hb
      | rst r => cases hb
      | wri r c =>
        have hr' : r < n := hx
        have gz2 := gz1.trans (Gz.ext eG1 e2)
        have eG2 := gz2.sub
        have ht2 := e2 _ _ ht1
        obtain ⟨a, hba, hbk⟩ := hB.at_ r hr'
        have vb : ∀ {H' : Hp} {o6 : Option V}, Ex G H' → Ev (tOp (rIxT K) (tVar 2) (tVar 5)) [some (.ref st), some (.ref t), some (.ref tb), some (.ref tc), some (.str "write"), some (.int (r : Int)), o6, none] H' (.ref a) := fun e => ev_op (ev_var rfl) (ev_var (i := 5) (v := .int (r : Int)) rfl) (rv_ixT (st_of (e _ _ g2)) (atI_nat hba))
        have vc : ∀ {H' : Hp} {o6 : Option V}, H' t = some (.tup (Deed.wri r c).vs) → Ev (tOp (rIxT K) (tVar 1) (tC (.int 2))) [some (.ref st), some (.ref t), some (.ref tb), some (.ref tc), some (.str "write"), some (.int (r : Int)), o6, none] H' (.int (c : Int)) := fun e => ev_op (ev_var rfl) ev_c (rv_ixT (st_of e) (atI_nat (j := 2) rfl))
        have vn : Ev (tCall spNum [] E0 (tCons (tDGet1 (tOp (rIxT K) (tVar 2) (tVar 5)) (tVar 5)) tNil)) [some (.ref st), some (.ref t), some (.ref tb), some (.ref tc), some (.str "write"), some (.int (r : Int)), none, none] H2 (.int ((numN (B r r) : Nat) : Int)) := by
          obtain ⟨kvs, ks, h1, h2⟩ := hbk
          refine ev_call (ea_cons (ev_dget1 (kvs := kvs) (vb eG2) (ev_var (i := 5) (v := .int (r : Int)) rfl) (.inl (eG2 _ _ h1)) rfl) ea_nil) (spP_v fun H3 e3 => ⟨_, rfl, ?_⟩)
          rcases h2.at_ r with ⟨a1, a2⟩ | ⟨t, e, a1, a2, a3⟩
          · rw [a1, a2]
            exact .inl ⟨rfl, rfl⟩
          · rw [a1, a2]
            exact .inr ⟨t, e, rfl, e3 _ _ (eG2 _ _ a3), by show V.int ((e.1 + 1 : Nat) : Int) = _; congr 1⟩
        refine (vb eG2) H2 (Ex.refl _) _ fun H3 e3 => ?_
        refine ⟨.int (r : Int), rfl, ?_⟩
        refine (es_tup (xs := entV (numN (B r r), c)) (ea_cons (vn) (ea_cons (vc ht2) ea_nil)) (by show 2 ≤ 100000; decide)) H3 e3 _ fun te H4 e4 hte => ?_
        have gz4 := gz2.trans (Gz.ext eG2 (e3.trans e4))
        refine ⟨G, a, te, n, r, B r, _, rfl, gz4.sub, hbk, hr', hn, hte, fun G5 H5 D gz5 hD => ?_⟩
        refine g_name ?_
        dsimp only
        have gz6 := gz4.trans gz5
        have ht5 := gz5.hx _ _ ((e3.trans e4) _ _ ht2)
        refine ⟨.ref tb, rfl, .int (r : Int), rfl, .ref D, rfl, ?_⟩
        refine ⟨tb, r, .ref D, bs, rfl, gz6.sub _ _ (gz6.ex _ _ g2), by omega, by omega, fun H6 t6 e6 h6 => ?_⟩
        have gz7 := gz6.trans ((Gz.ext gz6.sub e6).trans (Gz.tup (Ex.trans gz6.sub e6) h6))
        refine ⟨.ref tc, rfl, .int (r : Int), rfl, ?_⟩
        refine (vc (o6 := some (.ref D)) (e6 _ _ ht5)) H6 (Ex.refl _) _ fun H7 e7 => ?_
        have gz8 := gz7.trans (Gz.ext gz7.sub e7)
        refine ⟨tc, r, .int (c : Int), cV n cs, rfl, gz8.sub _ _ (gz8.ex _ _ g3), by rw [cV_len]; exact hr', by rw [cV_len]; omega, fun H9 t9 e9 h9 => ?_⟩
        rw [cV_set] at h9
        have gz10 := gz8.trans ((Gz.ext gz8.sub e9).trans (Gz.tup (Ex.trans gz8.sub e9) h9))
        refine ⟨by show 2 ≤ sizeLine; decide, fun st' hst => ?_⟩
        have gz11 := Gz.new (o := .tup [.ref t6, .ref t9]) gz10.sub hst
        refine k _ _ st' (gz10.trans gz11) ⟨t6, t9, bs.set r (.ref D), upd_same, ?_, ?_, ?_⟩
        · refine gz11.ex _ _ ?_
          exact ((Gz.ext gz8.sub e9).trans (Gz.tup (Ex.trans gz8.sub e9) h9)).ex _ _ ((Gz.ext gz7.sub e7).ex _ _ upd_same)
        · exact gz11.ex _ _ upd_same
        · refine BsAt.mono (G := G5) ?_ ((hB.mono gz6.ex).set hD)
          exact (((Gz.ext gz6.sub e6).trans (Gz.tup (Ex.trans gz6.sub e6) h6)).ex.trans (Gz.ext gz7.sub e7).ex).trans (((Gz.ext gz8.sub e9).trans (Gz.tup (Ex.trans gz8.sub e9) h9)).ex.trans gz11.ex)
    have ht2 := e2 _ _ ht1
    have gz2 := gz1.trans (Gz.ext eG1 e2)
    have eG2 := gz2.sub
    have tp : EvT (tTest (tOp rEq (tVar 4) (tC (.str "pass")))) [some (.ref st), some (.ref t), some (.ref tb), some (.ref tc), some (.str x.word), some (.int (x.one : Int)), none, none] H2 (isPas x) := by
      rw [← word_pas]
      exact et_test (ev_op (ev_var rfl) ev_c (rv_eq (y := .str "pass") rfl))
    refine q_when tp (fun hb2 H3 e3 => ?_) (fun hb2 H3 e3 => ?_)
    · cases x with
      | los a b => cases hb2
      | rst r => cases hb2
      | wri r c => cases hb2
      | pas a b =>
        obtain ⟨ha, hb', hnw⟩ := hx
        have ht3 := e3 _ _ ht2
        have gz3 := gz2.trans (Gz.ext eG2 e3)
        have eG3 := gz3.sub
        obtain ⟨a1, hba, hbka⟩ := hB.at_ a ha
        obtain ⟨a2, hbb, hbkb⟩ := hB.at_ b hb'
        refine ⟨.ref t, rfl, t, _, 2, .int (b : Int), rfl, rfl, st_of ht3, atI_nat (j := 2) rfl, ?_⟩
        refine g_name ?_
        dsimp only
        change tRet _ _ [some (.ref st), some (.ref t), some (.ref tb), some (.ref tc), some (.str "pass"), some (.int (a : Int)), none, some (.int (b : Int))] H3
        have sB : SqT K H3 tb bs := st_of (eG3 _ _ g2)
        refine ⟨.ref tb, rfl, .int (b : Int), rfl, .ref tb, rfl, .int (b : Int), rfl, tb, bs, (b : Int), .ref a2, rfl, rfl, sB, atI_nat hbb, .ref tb, rfl, .int (a : Int), rfl, tb, bs, (a : Int), .ref a1, rfl, rfl, sB, atI_nat hba, .int (b : Int), rfl, .ref tc, rfl, .int (b : Int), rfl, tc, cV n cs, (b : Int), oV (cs b), rfl, rfl, st_of (eG3 _ _ g3), atI_nat (cV_at hb'), ?_⟩
        refine ⟨G, a2, a1, n, b, B b, B a, cs b, rfl, eG3, hbkb, hbka, hn, hb', hnw, fun G5 H5 D gz5 hD => ?_⟩
        have gz6 := gz3.trans gz5
        refine ⟨tb, b, .ref D, bs, rfl, gz6.sub _ _ (gz5.ex _ _ g2), by omega, by omega, fun H6 t6 e6 h6 => ?_⟩
        have gza := (Gz.ext gz6.sub e6).trans (Gz.tup (Ex.trans gz6.sub e6) h6)
        have gz7 := gz6.trans gza
        refine ⟨.ref tc, rfl, by show 2 ≤ sizeLine; decide, fun st' hst => ?_⟩
        have gz11 := Gz.new (o := .tup [.ref t6, .ref tc]) gz7.sub hst
        exact k _ _ st' (gz7.trans gz11) ⟨t6, tc, bs.set b (.ref D), upd_same, gz11.ex _ _ upd_same, gz11.ex _ _ (gz7.ex _ _ g3), BsAt.mono (gza.ex.trans gz11.ex) ((hB.mono gz5.ex).set hD)⟩
    have tr : EvT (tTest (tOp rEq (tVar 4) (tC (.str "restart")))) [some (.ref st), some (.ref t), some (.ref tb), some (.ref tc), some (.str x.word), some (.int (x.one : Int)), none, none] H3 (isRst x) := by
      rw [← word_rst]
      exact et_test (ev_op (ev_var rfl) ev_c (rv_eq (y := .str "restart") rfl))
    refine q_when tr (fun hb3 H4 e4 => ?_) (fun hb3 H4 e4 => ?_)
    · cases x with
      | pas a b => cases hb3
      | los a b => cases hb3
      | wri r c => cases hb3
      | rst r =>
        have hr' : r < n := hx
        have gz4 := gz2.trans (Gz.ext eG2 (e3.trans e4))
        have eG4 := gz4.sub
        have sB : SqT K H4 tb bs := st_of (eG4 _ _ g2)
        refine ⟨.ref tb, rfl, .int (r : Int), rfl, .int (r : Int), rfl, .ref tc, rfl, .int (r : Int), rfl, tc, cV n cs, (r : Int), oV (cs r), rfl, rfl, st_of (eG4 _ _ g3), atI_nat (cV_at hr'), ?_⟩
        refine ⟨G, n, r, cs r, rfl, eG4, hr', fun G5 H5 D gz5 hD => ?_⟩
        have gz6 := gz4.trans gz5
        refine ⟨tb, r, .ref D, bs, rfl, gz6.sub _ _ (gz5.ex _ _ g2), by omega, by omega, fun H6 t6 e6 h6 => ?_⟩
        have gza := (Gz.ext gz6.sub e6).trans (Gz.tup (Ex.trans gz6.sub e6) h6)
        have gz7 := gz6.trans gza
        refine ⟨.ref tc, rfl, by show 2 ≤ sizeLine; decide, fun st' hst => ?_⟩
        have gz11 := Gz.new (o := .tup [.ref t6, .ref tc]) gz7.sub hst
        exact k _ _ st' (gz7.trans gz11) ⟨t6, tc, bs.set r (.ref D), upd_same, gz11.ex _ _ upd_same, gz11.ex _ _ (gz7.ex _ _ g3), BsAt.mono (gza.ex.trans gz11.ex) ((hB.mono gz5.ex).set hD)⟩
    · cases x with
      | pas a b => cases hb2
      | wri r c => cases hb
      | rst r => cases hb3
      | los a b =>
        exact ⟨.ref st, rfl, k G H4 st (gz2.trans (Gz.ext eG2 (e3.trans e4))) ⟨tb, tc, bs, g1, g2, g3, hB⟩⟩
end
end Wk

set_option Elab.async false
set_option linter.all false
set_option maxRecDepth 100000
set_option maxHeartbeats 4000000
namespace L2
open PySem PySem.Spec PyProof.Rows
def rRepU (K : PySem.W.Frag) : R2 := fun x y H Q => ∃ l k xs, x = .ref l ∧ y = .int k ∧ SqT K H l xs ∧ xs ≠ [] ∧ 1 ≤ k ∧ k ≤ 1000 ∧ xs.length ≤ 1000 ∧ (k = 1 → Q (.ref l) H) ∧ (2 ≤ k → ∀ p, H p = none → Q (.ref p) (upd H p (.tup (List.replicate k.toNat xs).flatten)))
theorem op_repU {X : Cx} {K : PySem.W.Frag} (hK : X.K = K) : OpR X (binaryOp .Mult) (rRepU K) := by
  subst hK
  intro pins s σ H x y v u Q I rx ry h
  obtain ⟨l, k, xs, rfl, rfl, hT, hne, h1, h2, hz, q1, q⟩ := h
  by_cases hk : 2 ≤ k
  · exact op_repT pins s σ H (.ref l) (.int k) v u Q I rx ry ⟨l, k, xs, rfl, rfl, hT, hne, hk, h2, hz, q hk⟩
  · have e : k = 1 := by omega
    subst e
    cases rx
    obtain ⟨t, rfl⟩ := ry
    obtain ⟨its, r, ⟨⟨cls, dd, data, sl⟩, ho, hc, n, hd⟩, hs⟩ := I.tuple hT
    simp only at hc hd
    subst hc hd
    exact wpAny_binaryOp_repeat_ref (T := "tuple") (U := "int") (by decide) ⟨_, ho, rfl⟩ (fun s' => typeIs_int s' 1 t) noFill_tuple_mul F.fills_int_mul F.slot_int_rmul repeat_tuple F.slot_int_index.lookup
      (call_meets F.slot_int_rmul (typeIs_int s 1 t) F.entry_int_rmul (F.args_int_rmul_2 _ _) (int_rmul_tuple 1 t l its.toArray n dd sl)
        ⟨ho, rfl, ⟨_, ho, rfl⟩, call_meets F.slot_tuple_mul ⟨_, ho, rfl⟩ F.entry_tuple_mul (F.args_tuple_mul_2 _ _) (Wk.tuple_mul1 l its.toArray n dd sl t) ⟨ho, ⟨.ref l, H, I, rfl, q1 rfl⟩⟩⟩)
end L2
namespace Wk
open PySem PySem.Spec PyProof.Rows L2 Evl
/-! two states compared -/
theorem nk_val : ∀ {kvs : List (L2.Key × V)}, (kvs.map (·.1)).Nodup → ∀ {k : L2.Key} {v : V}, (k, v) ∈ kvs → valV kvs k = some v
  | [], _, k, v, h => by cases h
  | p :: r, nd, k, v, h => by
    rw [List.map_cons, List.nodup_cons] at nd
    rcases List.mem_cons.mp h with e | e
    · rw [← e]
      exact valV_pos rfl
    · rw [valV_neg (fun z => nd.1 (by rw [z]; exact List.mem_map.mpr ⟨_, e, rfl⟩))]
      exact nk_val nd.2 e
theorem NK.nd {kvs : List (L2.Key × V)} {ks : List Int} (h : NK kvs ks) : (kvs.map (·.1)).Nodup := by
  rw [h.1]
  exact List.Pairwise.map _ (fun a b hab e => hab (by injection e)) h.2
theorem eqv_ent {H : Hp} {a b : Addr} {x y : Ent} (ha : H a = some (.tup (entV x))) (hb : H b = some (.tup (entV y))) : EqV H 1 (.ref a) (.ref b) (PyData.eqv (wd [(x.1 : Int), (x.2 : Int)]) (wd [(y.1 : Int), (y.2 : Int)])) := by
  refine .data (wd_of ha) (wd_of hb) ?_ ?_ ?_
  · simp [wd, PyData.canLay0, PyData.canLayAll0]
  · simp [wd, PyData.canLay0, PyData.canLayAll0]
  · simp [wd, PyData.depth, PyData.depthAll]
theorem BkAt.uniq {H : Hp} {a : Addr} {n : Nat} {x y : Bk} (h : BkAt H a n x) (g : BkAt H a n y) : x = y := by
  obtain ⟨kvs, ks, h1, h2⟩ := h
  obtain ⟨lvs, ls, h3, h4⟩ := g
  rw [h1] at h3
  cases h3
  funext k
  rcases h2.at_ k with ⟨a1, a2⟩ | ⟨t, e, a1, a2, a3⟩
  · rcases h4.at_ k with ⟨_, b2⟩ | ⟨t', e', b1, _, _⟩
    · rw [a2, b2]
    · rw [a1] at b1; cases b1
  · rcases h4.at_ k with ⟨b1, _⟩ | ⟨t', e', b1, b2, b3⟩
    · rw [a1] at b1; cases b1
    · rw [a1] at b1
      cases b1
      rw [a3] at b3
      have z : entV e = entV e' := by injection b3 with b3; injection b3
      unfold entV at z
      injection z with z1 z2
      injection z2 with z2 _
      injection z1 with z1
      injection z2 with z2
      rw [a2, b2]
      congr 1
      exact Prod.ext (by omega) (by omega)
theorem nd_back {l D : List Int} (hl : l.Nodup) (hD : D.Nodup) (h : ∀ x ∈ l, x ∈ D) (hn : l.length = D.length) : ∀ x ∈ D, x ∈ l := fun x hx => by
  apply Classical.byContradiction
  intro hc
  have z := nd_le (x :: l) D (List.nodup_cons.mpr ⟨hc, hl⟩) fun y hy => by
    rcases List.mem_cons.mp hy with e | e
    · rw [e]; exact hx
    · exact h y e
  rw [List.length_cons] at z
  omega
open Classical in
theorem eqv_book {H : Hp} {n : Nat} {a b : Addr} {x y : Bk} (ha : BkAt H a n x) (hb : BkAt H b n y) : EqV H 2 (.ref a) (.ref b) (decide (x = y)) := by
  by_cases e : a = b
  · subst e
    rw [decide_eq_true (ha.uniq hb)]
    exact .same
  obtain ⟨kvs, ks, h1, h2⟩ := ha
  obtain ⟨lvs, ls, h3, h4⟩ := hb
  have hkl : kvs.length = ks.length := by
    have := congrArg List.length h2.nk.1
    simpa using this
  have hll : lvs.length = ls.length := by
    have := congrArg List.length h4.nk.1
    simpa using this
  have key : ∀ {k : L2.Key} {v : V}, (k, v) ∈ kvs → ∃ m : Nat, k = .inl (m : Int) ∧ (m : Int) ∈ ks := fun {k v} hm => by
    have hk : k ∈ kvs.map (·.1) := List.mem_map.mpr ⟨_, hm, rfl⟩
    rw [h2.nk.1] at hk
    obtain ⟨z, hz, rfl⟩ := List.mem_map.mp hk
    exact ⟨z.toNat, by rw [Int.toNat_of_nonneg (h2.rg z hz).1], by rw [Int.toNat_of_nonneg (h2.rg z hz).1]; exact hz⟩
  have main := EqV.dic (H := H) (n := 1) (a := a) (b := b) (ks := kvs) (ls := lvs) (fun k => match k with | .inl z => decide (x z.toNat = y z.toNat) | .inr _ => true) e h1 h3 fun k v y' hm hv => by
    obtain ⟨m, rfl, hmk⟩ := key hm
    have hv1 := nk_val h2.nk.nd hm
    rcases h2.at_ m with ⟨a1, _⟩ | ⟨t, e1, a1, a2, a3⟩
    · rw [hv1] at a1; cases a1
    rcases h4.at_ m with ⟨b1, _⟩ | ⟨t', e2, b1, b2, b3⟩
    · rw [hv] at b1; cases b1
    rw [hv1] at a1
    rw [hv] at b1
    cases a1
    cases b1
    have z := eqv_ent a3 b3
    rw [eqv_wd] at z
    show EqV H 1 (.ref t) (.ref t') (decide (x ((m : Int)).toNat = y ((m : Int)).toNat))
    rw [Int.toNat_natCast, a2, b2]
    have e : decide ([(e1.1 : Int), (e1.2 : Int)] = [(e2.1 : Int), (e2.2 : Int)]) = decide (some e1 = some e2) := by
      rw [decide_eq_decide]
      constructor
      · intro h
        injection h with h1 h2
        injection h2 with h2 _
        congr 1
        exact Prod.ext (by omega) (by omega)
      · intro h
        injection h with h
        rw [h]
    rw [← e]
    exact z
  have val : (kvs.length == lvs.length && kvs.all fun p => (valV lvs p.1).isSome && (match p.1 with | .inl z => decide (x z.toNat = y z.toNat) | .inr _ => true)) = decide (x = y) := by
    by_cases hxy : x = y
    · rw [decide_eq_true hxy]
      subst hxy
      have m1 : ∀ z ∈ ks, z ∈ ls := fun z hz => by
        obtain ⟨m, rfl⟩ : ∃ m : Nat, z = (m : Int) := ⟨z.toNat, by have := h2.rg z hz; omega⟩
        exact (h4.mem m).mpr ((h2.mem m).mp hz)
      have m2 : ∀ z ∈ ls, z ∈ ks := fun z hz => by
        obtain ⟨m, rfl⟩ : ∃ m : Nat, z = (m : Int) := ⟨z.toNat, by have := h4.rg z hz; omega⟩
        exact (h2.mem m).mpr ((h4.mem m).mp hz)
      have l1 := nd_le ks ls h2.nk.2 m1
      have l2 := nd_le ls ks h4.nk.2 m2
      rw [Bool.and_eq_true]
      refine ⟨by rw [beq_iff_eq]; omega, List.all_eq_true.mpr fun p hp => ?_⟩
      obtain ⟨m, hpk, hmk⟩ := key (k := p.1) (v := p.2) hp
      rw [hpk]
      obtain ⟨v, hv⟩ := (h4.nk.mem (m : Int)).mp (m1 _ hmk)
      rw [hv]
      simp
    · rw [decide_eq_false hxy]
      cases hr : (kvs.length == lvs.length && kvs.all fun p => (valV lvs p.1).isSome && (match p.1 with | .inl z => decide (x z.toNat = y z.toNat) | .inr _ => true)) with
      | false => rfl
      | true =>
        exfalso
        apply hxy
        obtain ⟨r1, r2⟩ := Bool.and_eq_true_iff.mp hr
        have r1 : kvs.length = lvs.length := beq_iff_eq.mp r1
        have r2 := List.all_eq_true.mp r2
        have at1 : ∀ m : Nat, (m : Int) ∈ ks → (m : Int) ∈ ls ∧ x m = y m := fun m hm => by
          obtain ⟨v, hv⟩ := (h2.nk.mem (m : Int)).mp hm
          have hmem : ∃ p ∈ kvs, p.1 = .inl (m : Int) := by
            have := valV_in hv
            obtain ⟨p, hp, e⟩ := List.mem_map.mp this
            exact ⟨p, hp, e⟩
          obtain ⟨p, hp, hpe⟩ := hmem
          have z := r2 p hp
          rw [hpe] at z
          obtain ⟨z1, z2⟩ := Bool.and_eq_true_iff.mp z
          obtain ⟨v', hv'⟩ := Option.isSome_iff_exists.mp z1
          have z2 := of_decide_eq_true z2
          rw [Int.toNat_natCast] at z2
          exact ⟨(h4.nk.mem _).mpr ⟨v', hv'⟩, z2⟩
        have sub : ∀ z ∈ ks, z ∈ ls := fun z hz => by
          obtain ⟨m, rfl⟩ : ∃ m : Nat, z = (m : Int) := ⟨z.toNat, by have := h2.rg z hz; omega⟩
          exact (at1 m hz).1
        have back := nd_back h2.nk.2 h4.nk.2 sub (by omega)
        funext k
        cases hx : x k with
        | some e1 =>
          rw [← hx]
          exact (at1 k ((h2.mem k).mpr ⟨e1, hx⟩)).2
        | none =>
          cases hy : y k with
          | none => rfl
          | some e2 =>
            obtain ⟨e1, h⟩ := (h2.mem k).mp (back _ ((h4.mem k).mpr ⟨e2, hy⟩))
            rw [hx] at h
            cases h
  rw [val] at main
  exact main
def oD : Option Nat → PyData
  | none => .none
  | some c => .int (c : Int)
theorem dq_oV (H : Hp) : ∀ o : Option Nat, Dq H (oV o) (oD o)
  | none => .non
  | some c => .int _
theorem dqa_cV (H : Hp) (cs : Nat → Option Nat) : ∀ l : List Nat, DqA H (l.map fun r => oV (cs r)) (l.map fun r => oD (cs r))
  | [] => .nil
  | r :: l => .cons (dq_oV H _) (dqa_cV H cs l)
theorem lay_oD (cs : Nat → Option Nat) (l : List Nat) : PyData.canLayAll0 (l.map fun r => oD (cs r)) = true := layAll.mpr fun d hd => by
  obtain ⟨r, _, rfl⟩ := List.mem_map.mp hd
  cases cs r <;> simp [oD, PyData.canLay0]
theorem dep_oD (cs : Nat → Option Nat) (l : List Nat) : PyData.depthAll (l.map fun r => oD (cs r)) ≤ 0 := depAll.mpr fun d hd => by
  obtain ⟨r, _, rfl⟩ := List.mem_map.mp hd
  cases cs r <;> simp [oD, PyData.depth]
theorem eqv_oD (x y : Option Nat) : PyData.eqv (oD x) (oD y) = decide (x = y) := by
  cases x with
  | none => cases y <;> simp [oD, PyData.eqv]
  | some c =>
    cases y with
    | none => simp [oD, PyData.eqv]
    | some d =>
      show ((c : Int) == (d : Int)) = _
      by_cases h : c = d
      · subst h; simp
      · rw [decide_eq_false (fun z => h (by injection z))]
        exact beq_eq_false_iff_ne.mpr (by omega)
open Classical in
theorem eqv_cs (cs ds : Nat → Option Nat) : ∀ l : List Nat, PyData.eqvAll (l.map fun r => oD (cs r)) (l.map fun r => oD (ds r)) = decide (∀ r ∈ l, cs r = ds r)
  | [] => by simp [PyData.eqvAll]
  | r :: l => by
    have ih := eqv_cs cs ds l
    show (PyData.eqv (oD (cs r)) (oD (ds r)) && PyData.eqvAll (l.map fun r => oD (cs r)) (l.map fun r => oD (ds r))) = _
    rw [eqv_oD, ih]
    by_cases h : cs r = ds r
    · by_cases g : ∀ r ∈ l, cs r = ds r
      · rw [decide_eq_true h, decide_eq_true g, decide_eq_true]
        · rfl
        · intro z hz
          rcases List.mem_cons.mp hz with e | e
          · rw [e]; exact h
          · exact g z e
      · rw [decide_eq_true h, decide_eq_false g, decide_eq_false (fun z => g fun r' hr => z r' (List.mem_cons_of_mem _ hr))]
        rfl
    · rw [decide_eq_false h, Bool.false_and]
      exact (decide_eq_false (fun z => h (z r List.mem_cons_self))).symm
open Classical in
theorem eqv_conts {H : Hp} {n : Nat} {a b : Addr} {cs ds : Nat → Option Nat} (ha : H a = some (.tup (cV n cs))) (hb : H b = some (.tup (cV n ds))) : EqV H 3 (.ref a) (.ref b) (decide (∀ r, r < n → cs r = ds r)) := by
  have z := EqV.data (H := H) (n := 3) (d := .tuple ((List.range n).map fun r => oD (cs r))) (e := .tuple ((List.range n).map fun r => oD (ds r))) (.tup ha (dqa_cV H cs _)) (.tup hb (dqa_cV H ds _)) (by simp [PyData.canLay0, lay_oD]) (by simp [PyData.canLay0, lay_oD]) (by
    have := dep_oD cs (List.range n)
    simp only [PyData.depth]
    omega)
  have e : PyData.eqv (.tuple ((List.range n).map fun r => oD (cs r))) (.tuple ((List.range n).map fun r => oD (ds r))) = decide (∀ r, r < n → cs r = ds r) := by
    show PyData.eqvAll _ _ = _
    rw [eqv_cs, decide_eq_decide]
    constructor
    · exact fun h r hr => h r (List.mem_range.mpr hr)
    · exact fun h r hr => h r (List.mem_range.mp hr)
  rw [e] at z
  exact z
open Classical in
theorem eqv_books {H : Hp} {n : Nat} {a b : Addr} {bs bs' : List V} {B B' : Nat → Bk} (ha : H a = some (.tup bs)) (hb : H b = some (.tup bs')) (h1 : BsAt H bs n B) (h2 : BsAt H bs' n B') : EqV H 3 (.ref a) (.ref b) (decide (∀ r, r < n → B r = B' r)) := by
  by_cases e : a = b
  · subst e
    rw [ha] at hb
    cases hb
    rw [decide_eq_true]
    · exact .same
    · intro r hr
      obtain ⟨x, x1, x2⟩ := h1.at_ r hr
      obtain ⟨y, y1, y2⟩ := h2.at_ r hr
      rw [x1] at y1
      cases y1
      exact x2.uniq y2
  have z := EqV.tup (H := H) (n := 2) (a := a) (b := b) (xs := bs) (ys := bs') (fun j => decide (B j = B' j)) e ha hb fun j x' y' hx hy => by
    have hj : j < n := by
      have := (List.getElem?_eq_some_iff.mp hx).1
      have := h1.len
      omega
    obtain ⟨x, x1, x2⟩ := h1.at_ j hj
    obtain ⟨y, y1, y2⟩ := h2.at_ j hj
    rw [x1] at hx
    rw [y1] at hy
    cases hx
    cases hy
    exact eqv_book x2 y2
  have e : ((List.range (min bs.length bs'.length)).all (fun j => decide (B j = B' j)) && bs.length == bs'.length) = decide (∀ r, r < n → B r = B' r) := by
    rw [h1.len, h2.len, Nat.min_self, show (n == n) = true from beq_iff_eq.mpr rfl, Bool.and_true]
    by_cases h : ∀ r, r < n → B r = B' r
    · rw [decide_eq_true h]
      exact List.all_eq_true.mpr fun r hr => decide_eq_true (h r (List.mem_range.mp hr))
    · rw [decide_eq_false h]
      cases hc : (List.range n).all (fun j => decide (B j = B' j)) with
      | false => rfl
      | true => exact absurd (fun r hr => of_decide_eq_true (List.all_eq_true.mp hc r (List.mem_range.mpr hr))) h
  rw [e] at z
  exact z
def eqS (n : Nat) (B : Nat → Bk) (cs : Nat → Option Nat) (B' : Nat → Bk) (cs' : Nat → Option Nat) : Prop := (∀ r, r < n → B r = B' r) ∧ ∀ r, r < n → cs r = cs' r
open Classical in
noncomputable def eqSb (n : Nat) (B : Nat → Bk) (cs : Nat → Option Nat) (B' : Nat → Bk) (cs' : Nat → Option Nat) : Bool := decide (eqS n B cs B' cs')
theorem eqSb_yes {n : Nat} {B B' : Nat → Bk} {cs cs' : Nat → Option Nat} (h : eqS n B cs B' cs') : eqSb n B cs B' cs' = true := by simp [eqSb, h]
theorem eqSb_no {n : Nat} {B B' : Nat → Bk} {cs cs' : Nat → Option Nat} (h : ¬ eqS n B cs B' cs') : eqSb n B cs B' cs' = false := by simp [eqSb, h]
open Classical in
theorem states_parts {H : Hp} {G G' : Hp} {a b : Addr} {n : Nat} {B B' : Nat → Bk} {cs cs' : Nat → Option Nat} (e1 : Ex G H) (e2 : Ex G' H) (ha : StAt G a n B cs) (hb : StAt G' b n B' cs') :
    ∃ xs ys : List V, H a = some (.tup xs) ∧ H b = some (.tup ys) ∧ ∃ e : Nat → Bool, (∀ j x y, xs[j]? = some x → ys[j]? = some y → EqV H 3 x y (e j)) ∧ ((List.range (min xs.length ys.length)).all e && xs.length == ys.length) = eqSb n B cs B' cs' := by
  obtain ⟨tb, tc, bs, h1, h2, h3, h4⟩ := ha.mono e1
  obtain ⟨tb', tc', bs', g1, g2, g3, g4⟩ := hb.mono e2
  refine ⟨_, _, h1, g1, fun j => if j = 0 then decide (∀ r, r < n → B r = B' r) else decide (∀ r, r < n → cs r = cs' r), fun j x y hx hy => ?_, ?_⟩
  · match j, hx, hy with
    | 0, hx, hy =>
      cases hx
      cases hy
      exact eqv_books h2 g2 h4 g4
    | 1, hx, hy =>
      cases hx
      cases hy
      exact eqv_conts h3 g3
  · show (decide (∀ r, r < n → B r = B' r) && (decide (∀ r, r < n → cs r = cs' r) && true) && true) = _
    rw [Bool.and_true, Bool.and_true]
    by_cases p : ∀ r, r < n → B r = B' r
    · by_cases q : ∀ r, r < n → cs r = cs' r
      · rw [decide_eq_true p, decide_eq_true q, eqSb_yes ⟨p, q⟩]; rfl
      · rw [decide_eq_true p, decide_eq_false q, eqSb_no (fun z => q z.2)]; rfl
    · rw [decide_eq_false p, eqSb_no (fun z => p z.1)]; rfl
theorem ne_states {H : Hp} {G G' : Hp} {a b : Addr} {n : Nat} {B B' : Nat → Bk} {cs cs' : Nat → Option Nat} {Q : VK} (e1 : Ex G H) (e2 : Ex G' H) (ha : StAt G a n B cs) (hb : StAt G' b n B' cs') (k : Q (.bl (!eqSb n B cs B' cs')) H) : rNeX (.ref a) (.ref b) H Q := by
  obtain ⟨xs, ys, h1, h2, e, h3, h4⟩ := states_parts e1 e2 ha hb
  exact ⟨a, b, xs, ys, e, 3, rfl, rfl, h1, h2, by decide, h3, by rw [h4]; exact k⟩
theorem eq_states {H : Hp} {G G' : Hp} {a b : Addr} {n : Nat} {B B' : Nat → Bk} {cs cs' : Nat → Option Nat} {Q : VK} (e1 : Ex G H) (e2 : Ex G' H) (ha : StAt G a n B cs) (hb : StAt G' b n B' cs') (k : Q (.bl (eqSb n B cs B' cs')) H) : rEqX (.ref a) (.ref b) H Q := by
  obtain ⟨xs, ys, h1, h2, e, h3, h4⟩ := states_parts e1 e2 ha hb
  exact ⟨a, b, xs, ys, e, 3, rfl, rfl, h1, h2, by decide, h3, by rw [h4]; exact k⟩
/-! floods -/
abbrev FnM (K : PySem.W.Frag) (x q : Str) (st : Stmt) (f : Addr) (fd : FuncData) : Prop := FunD K x q (defArgs st) (defBody st) (defScope st) [] [] f fd
structure FX (K : PySem.W.Frag) (CF : Addr) : Prop where
  cl : Cls K CF
  nZ : NoAttr K CF "_size"
  nA : NoAttr K CF "_arrows"
  nS : NoAttr K CF "_state"
  nM : NoAttr K CF "many"
  nP : NoAttr K CF "_past"
theorem lk_putF {f g : Str} {v : V} {fs : List (Str × V)} (h : ¬ g = f) : (putF f v fs).lookup g = fs.lookup g := by rw [lookup_putF, if_neg h]
theorem lk_putS {f : Str} {v : V} {fs : List (Str × V)} : (putF f v fs).lookup f = some v := by rw [lookup_putF, if_pos rfl]
/-- the fields of a flood -/
structure Ff (fs : List (Str × V)) (la st pa : Addr) (n m : Nat) : Prop where
  sz : fs.lookup ("_size" : Str) = some (.int (n : Int))
  ar : fs.lookup ("_arrows" : Str) = some (.ref la)
  st : fs.lookup ("_state" : Str) = some (.ref st)
  mn : fs.lookup ("many" : Str) = some (.int (m : Int))
  ps : fs.lookup ("_past" : Str) = some (.ref pa)
  n1 : fs.lookup ("do" : Str) = none
  n2 : fs.lookup ("_go" : Str) = none
  n3 : fs.lookup ("book" : Str) = none
  n4 : fs.lookup ("content" : Str) = none
  n5 : fs.lookup ("is_calm" : Str) = none
  n6 : fs.lookup ("rounds" : Str) = none
  few : fs.length ≤ 50
theorem len_putF (f : Str) (v : V) : ∀ fs : List (Str × V), (putF f v fs).length ≤ fs.length + 1
  | [] => Nat.le_refl _
  | (g, x) :: r => by
    have ih := len_putF f v r
    unfold putF
    split
    · simp
    · simp only [List.length_cons]; omega
theorem len_putO (f : Str) (v y : V) : ∀ fs : List (Str × V), fs.lookup f = some y → (putF f v fs).length = fs.length
  | [], h => by cases h
  | (g, x) :: r, h => by
    unfold putF
    split
    · rfl
    · rename_i hne
      rw [List.length_cons, List.length_cons, len_putO f v y r]
      rw [List.lookup_cons] at h
      have : (f == g) = false := beq_eq_false_iff_ne.mpr fun z => hne z.symm
      rw [this] at h
      exact h
theorem Ff.many {fs : List (Str × V)} {la st pa : Addr} {n m m' : Nat} (h : Ff fs la st pa n m) : Ff (putF "many" (.int (m' : Int)) fs) la st pa n m' := by
  refine ⟨?_, ?_, ?_, lk_putS, ?_, ?_, ?_, ?_, ?_, ?_, ?_, ?_⟩
  · rw [lk_putF (by decide +kernel)]; exact h.sz
  · rw [lk_putF (by decide +kernel)]; exact h.ar
  · rw [lk_putF (by decide +kernel)]; exact h.st
  · rw [lk_putF (by decide +kernel)]; exact h.ps
  · rw [lk_putF (by decide +kernel)]; exact h.n1
  · rw [lk_putF (by decide +kernel)]; exact h.n2
  · rw [lk_putF (by decide +kernel)]; exact h.n3
  · rw [lk_putF (by decide +kernel)]; exact h.n4
  · rw [lk_putF (by decide +kernel)]; exact h.n5
  · rw [lk_putF (by decide +kernel)]; exact h.n6
  · rw [len_putO _ _ _ _ h.mn]; exact h.few
theorem Ff.state {fs : List (Str × V)} {la st st' pa : Addr} {n m : Nat} (h : Ff fs la st pa n m) : Ff (putF "_state" (.ref st') fs) la st' pa n m := by
  refine ⟨?_, ?_, lk_putS, ?_, ?_, ?_, ?_, ?_, ?_, ?_, ?_, ?_⟩
  · rw [lk_putF (by decide +kernel)]; exact h.sz
  · rw [lk_putF (by decide +kernel)]; exact h.ar
  · rw [lk_putF (by decide +kernel)]; exact h.mn
  · rw [lk_putF (by decide +kernel)]; exact h.ps
  · rw [lk_putF (by decide +kernel)]; exact h.n1
  · rw [lk_putF (by decide +kernel)]; exact h.n2
  · rw [lk_putF (by decide +kernel)]; exact h.n3
  · rw [lk_putF (by decide +kernel)]; exact h.n4
  · rw [lk_putF (by decide +kernel)]; exact h.n5
  · rw [lk_putF (by decide +kernel)]; exact h.n6
  · rw [len_putO _ _ _ _ h.st]; exact h.few
end Wk

set_option Elab.async false
set_option linter.all false
set_option maxRecDepth 100000
set_option maxHeartbeats 4000000
namespace Wk
open PySem PySem.Spec PyProof.Rows L2 Evl
structure FdA (CF : Addr) (G H : Hp) (x pa la : Addr) (n m : Nat) (B : Nat → Bk) (cs : Nat → Option Nat) : Prop where
  ob : ∃ dx fs st, H x = some (.ins CF dx fs) ∧ Ff fs la st pa n m ∧ StAt G st n B cs
  ps : ∃ us, H pa = some (.lst us) ∧ us.length ≤ m
  gx : G x = none
  gp : G pa = none
  ne : x ≠ pa
theorem FdA.ext {CF : Addr} {G H H' : Hp} {x pa la : Addr} {n m : Nat} {B : Nat → Bk} {cs : Nat → Option Nat} (h : FdA CF G H x pa la n m B cs) (e : Ex H H') : FdA CF G H' x pa la n m B cs := by
  obtain ⟨dx, fs, st, h1, h2⟩ := h.ob
  obtain ⟨us, h3, h4⟩ := h.ps
  exact ⟨⟨dx, fs, st, e _ _ h1, h2⟩, ⟨us, e _ _ h3, h4⟩, h.gx, h.gp, h.ne⟩
/-- what a deed leaves -/
structure Gm (x pa : Addr) (G H G' H' : Hp) : Prop where
  ex : Ex G G'
  off : ∀ b u, b ≠ x → b ≠ pa → H b = some u → H' b = some u
  sub : Ex G' H'
  nw : ∀ b u, G b = none → H b = some u → (∀ xs, u ≠ .tup xs) → G' b = none
theorem book_of {G : Hp} {kvs : List (L2.Key × V)} {ks ys : List Int} {n : Nat} {bk : Bk} (h : BkD G kvs ks n bk) (p : ys.Perm ks) : BkD G (pf (fun k => (valV kvs (.inl k)).getD .non) ys) ys n bk := by
  have nd : ys.Nodup := p.nodup_iff.mpr h.nk.2
  have hm : ∀ k, k ∈ ys ↔ k ∈ ks := fun k => p.mem_iff
  refine ⟨⟨?_, nd⟩, fun k hk => h.rg k ((hm k).mp hk), fun k => ?_⟩
  · rw [pf_nodup _ _ ys rfl nd, List.map_map]
    rfl
  · rw [valV_pf _ _ _ ys rfl]
    by_cases c : (k : Int) ∈ ys
    · rw [if_pos c]
      obtain ⟨e, he⟩ := (h.mem k).mp ((hm _).mp c)
      obtain ⟨t, h3, h4⟩ := h.get he
      rw [h3]
      exact .inr ⟨t, e, rfl, he, h4⟩
    · rw [if_neg c]
      refine .inl ⟨rfl, ?_⟩
      cases hb : bk k with
      | none => rfl
      | some e => exact absurd ((hm _).mpr ((h.mem k).mpr ⟨e, hb⟩)) c
theorem es_rep {K : PySem.W.Frag} {σ : L2.St} {H : Hp} {ta tb : TE} {v : V} {n : Nat} (h : EvS ta σ H [v]) (hb : Ev tb σ H (.int (n : Int))) (h1 : 1 ≤ n) (h2 : n ≤ 1000) : EvS (tOp (rRepU K) ta tb) σ H (List.replicate n v) := fun H1 e Q q =>
  h H1 e _ fun p H2 e2 hp => hb H2 (e.trans e2) _ fun H3 e3 => by
    have hp3 := e3 _ _ hp
    refine ⟨p, (n : Int), [v], rfl, rfl, st_of hp3, by simp, by omega, by omega, by simp, fun z => ?_, fun z l hl => ?_⟩
    · have : n = 1 := by omega
      subst this
      exact q p H3 (e2.trans e3) hp3
    · refine q l _ ((e2.trans e3).trans (Ex.new hl)) ?_
      rw [upd_same, Int.toNat_natCast]
      rw [List.flatten_replicate_singleton]
theorem Of1.upd (x : Addr) (H : Hp) (o : HO) : Of1 x H (L2.upd H x o) := fun b u hb h => by rw [upd_ne hb]; exact h
theorem Of1.back {x : Addr} {H H' : Hp} (h : Of1 x H H') {b : Addr} (hb : b ≠ x) (hn : H' b = none) : H b = none := by
  cases e : H b with
  | none => rfl
  | some u => rw [h b u hb e] at hn; cases hn
open Classical in
/-- what stays: what stood, what is new, and tuples; but not x, not pa -/
noncomputable def NewG (G H H' : Hp) (x pa : Addr) : Hp := fun b => if b = x ∨ b = pa then none else if (∀ u, H b = some u → ∃ xs, u = .tup xs) then H' b else G b
theorem newG_new {G H H' : Hp} {x pa b : Addr} (h1 : b ≠ x) (h2 : b ≠ pa) (h : H b = none) : NewG G H H' x pa b = H' b := by
  unfold NewG
  rw [if_neg (fun z => z.elim h1 h2), if_pos (fun u hu => by rw [h] at hu; cases hu)]
theorem newG_tup {G H H' : Hp} {x pa b : Addr} {xs : List V} (o : Of1 x H H') (h1 : b ≠ x) (h2 : b ≠ pa) (h : H' b = some (.tup xs)) : NewG G H H' x pa b = some (.tup xs) := by
  unfold NewG
  rw [if_neg (fun z => z.elim h1 h2), if_pos (fun u hu => by rw [o b u h1 hu] at h; cases h; exact ⟨_, rfl⟩), h]
theorem newG_ex {G H H' : Hp} {x pa : Addr} (eG : Ex G H) (eG' : Ex G H') (gx : G x = none) (hp : H pa = none) : Ex G (NewG G H H' x pa) := fun b u hb => by
  have h1 : b ≠ x := fun z => by rw [z, gx] at hb; cases hb
  have h2 : b ≠ pa := fun z => by have := eG _ _ hb; rw [z, hp] at this; cases this
  unfold NewG
  rw [if_neg (fun z => z.elim h1 h2)]
  split
  · exact eG' _ _ hb
  · exact hb
theorem newG_sub {G H H' : Hp} {x pa : Addr} (eG' : Ex G H') : Ex (NewG G H H' x pa) H' := fun b u hb => by
  unfold NewG at hb
  split at hb
  · cases hb
  · split at hb
    · exact hb
    · exact eG' _ _ hb
theorem newG_nw {G H H' : Hp} {x pa : Addr} {b : Addr} {u : HO} (hb : G b = none) (hh : H b = some u) (hn : ∀ xs, u ≠ .tup xs) : NewG G H H' x pa b = none := by
  unfold NewG
  split
  · rfl
  · rw [if_neg]
    · exact hb
    · intro z
      obtain ⟨xs, e⟩ := z u hh
      exact hn xs e
structure Msk (P : Program) (w : World) (K : PySem.W.Frag) (mg : Str → Option Value) (base : Heap) (CS : Addr) (m : Str) (ps : List Str) (n : Nat) (sp : Sp) : Prop where
  ex : ∃ (fM : Addr) (fd : FuncData), Meth K CS m fM ∧ FnOk P w K mg base CX0 n fM fd ps sp ∧ Binds K fd ps []
section
variable {P : Program} {w : World} {K : PySem.W.Frag} {mg : Str → Option Value} {base : Heap} {f : Addr} {fd : FuncData} {CF : Addr}
/-! Flood._go -/
def spGo (CF : Addr) : Sp := fun vs H Q _ => ∃ (G : Hp) (x pa la t : Addr) (n m : Nat) (B : Nat → Bk) (cs : Nat → Option Nat) (d : Deed), vs = [.ref x, .ref t] ∧ Ex G H ∧ FdA CF G H x pa la n m B cs ∧ n ≤ 8 ∧ m < 10000 ∧ H t = some (.tup d.vs) ∧ d.may n B cs ∧
  ∀ G' H', Gm x pa G H G' H' → FdA CF G' H' x pa la n (m + 1) (stepB B cs d) (stepC cs d) → Q (.bl (!eqSb n (stepB B cs d) (stepC cs d) B cs)) H'
abbrev sGo : Stmt := inClass (top 22) 7
abbrev nGo : List Str := ["self", "deed", "earlier"]
theorem scGo : FnScope nGo ["self", "deed"] (defScope sGo) := ⟨rfl, rfl, rfl, by decide +kernel, rfl, by decide +kernel, by decide +kernel⟩
theorem ok_go (X : FX K CF) (CB : Cal P w K mg base "behind" ["state", "deed"] 3 spBeh) (F : FnM K "_go" "Flood._go" sGo f fd) : FnOk P w K mg base CX0 4 f fd ["self", "deed"] (spGo CF) := by
  refine F.ok scGo (fun vs H Q E h => ?_) (fun cdv A outer s H vs Q E hr h => ?_)
  · obtain ⟨G, x, pa, la, t, n, m, B, cs, d, rfl, _⟩ := h
    rfl
  · obtain ⟨G, x, pa, la, t, n, m, B, cs, d, rfl, eG, hF, hn, hm, ht, hd, k⟩ := h
    have hu : (A.deeper (envOfC "Flood._go" (defScope sGo) s.heap.objs.size f cdv)).units + 64 < cLine := by have := hr.un; omega
    refine ⟨_, pss_cons (ps_set (i := 2) scGo.nd rfl (Or.inl rfl) (pe_fld (pv 0) rfl))
      (pss_cons (ps_expr (pe_bm PySem.F.plainAttrs_list PySem.F.slot_list_append PySem.F.type_list_append mt_append (pe_fld (pv 0) rfl) (pa_cons (pv 2) pa_nil)))
      (pss_cons (ps_fldaug (pv 0) pe_int in_add)
      (pss_cons (ps_fld (pv 0) (pe_cal CB hr (by rfl) (pa_cons (pv 2) (pa_cons (pv 1) pa_nil))) rfl)
      (pss_one (ps_ret (pe_cmpR (op_neX hu) (pe_fld (pv 0) rfl) (pv 2) (nomark _))))))), ?_⟩
    obtain ⟨dx, fs, st, hx, ff, hst⟩ := hF.ob
    obtain ⟨us, hpa, hul⟩ := hF.ps
    refine ⟨.ref x, rfl, x, CF, dx, fs, _, rfl, hx, X.cl, X.nS, ff.st, ?_⟩
    refine g_name ?_
    dsimp only
    refine ⟨.ref x, rfl, x, CF, dx, fs, _, rfl, hx, X.cl, X.nP, ff.ps, .inl ⟨rfl, _, sq_of hpa⟩, .ref st, rfl, pa, us, .ref st, rfl, rfl, hpa, by rw [sizeLine_eq]; omega, ?_⟩
    have eG1 : Ex G (upd H pa (.lst (us ++ [.ref st]))) := Ex.mut eG hF.gp
    have hx1 : (upd H pa (.lst (us ++ [.ref st]))) x = some (.ins CF dx fs) := by rw [upd_ne hF.ne]; exact hx
    refine ⟨.ref x, rfl, x, CF, dx, fs, .int (m : Int), rfl, hx1, X.cl, X.nM, ff.mn, (m : Int), 1, rfl, rfl, dx, fs, hx1, by have := ff.few; omega, ?_⟩
    have eG2 : Ex G (upd (upd H pa (.lst (us ++ [.ref st]))) x (.ins CF dx (putF "many" (.int ((m : Int) + 1)) fs))) := Ex.mut eG1 hF.gx
    have ff2 : Ff (putF "many" (.int ((m : Int) + 1)) fs) la st pa n (m + 1) := ff.many (m' := m + 1)
    have hx2 : (upd (upd H pa (.lst (us ++ [.ref st]))) x (.ins CF dx (putF "many" (.int ((m : Int) + 1)) fs))) x = some (.ins CF dx (putF "many" (.int ((m : Int) + 1)) fs)) := upd_same
    have hp2 : (upd (upd H pa (.lst (us ++ [.ref st]))) x (.ins CF dx (putF "many" (.int ((m : Int) + 1)) fs))) pa = some (.lst (us ++ [.ref st])) := by rw [upd_ne (Ne.symm hF.ne), upd_same]
    have off2 : ∀ b u, b ≠ x → b ≠ pa → H b = some u → (upd (upd H pa (.lst (us ++ [.ref st]))) x (.ins CF dx (putF "many" (.int ((m : Int) + 1)) fs))) b = some u := fun b u h1 h2 hb => by rw [upd_ne h1, upd_ne h2]; exact hb
    have tx : t ≠ x := fun z => by rw [z, hx] at ht; cases ht
    have tp : t ≠ pa := fun z => by rw [z, hpa] at ht; cases ht
    have ht2 := off2 _ _ tx tp ht
    generalize upd (upd H pa (.lst (us ++ [.ref st]))) x (.ins CF dx (putF "many" (.int ((m : Int) + 1)) fs)) = H2 at *
    generalize putF "many" (V.int ((m : Int) + 1)) fs = fs2 at *
    refine ⟨.ref st, rfl, .ref t, rfl, G, st, t, n, B, cs, d, rfl, eG2, hst, hn, ht2, hd, fun G' H3 st' gz hst' => ?_⟩
    have hx3 := gz.hx _ _ hx2
    refine ⟨.ref x, rfl, x, CF, dx, fs2, rfl, hx3, X.cl, X.nS, by have := ff2.few; omega, ?_⟩
    have g'x : G' x = none := gz.nw x _ hF.gx hx2 (fun xs z => by cases z)
    have g'p : G' pa = none := gz.nw pa _ hF.gp hp2 (fun xs z => by cases z)
    have eG4 : Ex G' (upd H3 x (.ins CF dx (putF "_state" (.ref st') fs2))) := Ex.mut gz.sub g'x
    have ff4 := ff2.state (st' := st')
    refine ⟨.ref x, rfl, x, CF, dx, _, _, rfl, upd_same, X.cl, X.nS, ff4.st, .ref st, rfl, ne_states eG4 eG4 hst' (hst.mono gz.ex) ?_⟩
    refine k G' _ ⟨gz.ex, fun b u h1 h2 hb => ?_, eG4, fun b u hb hh hnt => ?_⟩ ⟨⟨dx, _, st', upd_same, ff4, hst'⟩, ⟨us ++ [.ref st], ?_, ?_⟩, g'x, g'p, hF.ne⟩
    · rw [upd_ne h1]
      exact gz.hx _ _ (off2 _ _ h1 h2 hb)
    · by_cases c1 : b = x
      · rw [c1]; exact g'x
      by_cases c2 : b = pa
      · rw [c2]; exact g'p
      exact gz.nw b u hb (off2 _ _ c1 c2 hh) hnt
    · rw [upd_ne (Ne.symm hF.ne)]
      exact gz.hx _ _ hp2
    · simp; omega
/-! refuse_no_router -/
abbrev spRNR : Sp := spP fun H vs z => ∃ (n r : Nat), vs = [.int (n : Int), .int (r : Int)] ∧ r < n ∧ z = .non
abbrev sRNR : Stmt := top 14
theorem scRNR : FnScope ["size", "thing"] ["size", "thing"] (defScope sRNR) := ⟨rfl, rfl, rfl, by decide +kernel, rfl, by decide +kernel, by decide +kernel⟩
theorem ok_rnr (CR : Cal P w K mg base "is_router" ["size", "thing"] 3 spRouter) (F : FnP K "refuse_no_router" sRNR f fd) : FnOk P w K mg base CX0 4 f fd ["size", "thing"] spRNR := by
  refine F.ok scRNR (fun vs H Q E h => ?_) (fun cdv A outer s H vs Q E hr h => ?_)
  · obtain ⟨z, ⟨n, r, rfl, _⟩, _⟩ := h
    rfl
  · obtain ⟨z, ⟨n, r, rfl, hrn, rfl⟩, k⟩ := h
    refine ⟨_, pss_one (ps_if (pt_not (pt_val (pe_cal CR hr (by rfl) (pa_cons (pv 0) (pa_cons (pv 1) pa_nil))))) (pss_one ps_never) pss_nil), ?_⟩
    have c2 : Ev (tCall spRouter [] E0 (tCons (tVar 0) (tCons (tVar 1) tNil))) (start ["size", "thing"] [.int (n : Int), .int (r : Int)]) H (.bl true) := ev_call (ea_cons (ev_var rfl) (ea_cons (ev_var rfl) ea_nil)) (spP_v fun H1 e => ⟨(n : Int), _, .int (r : Int), rfl, .int _, by rw [isR_yes hrn]⟩)
    exact s_when (b := !true) (et_not (et_B c2)) (fun z => by cases z) fun _ H2 e2 => k H2 e2
/-! Flood.book -/
def spBook (CF : Addr) : Sp := fun vs H Q _ => ∃ (G : Hp) (x pa la : Addr) (n m r : Nat) (B : Nat → Bk) (cs : Nat → Option Nat), vs = [.ref x, .int (r : Int)] ∧ Ex G H ∧ FdA CF G H x pa la n m B cs ∧ n ≤ 8 ∧ r < n ∧
  ∀ H' D kvs ks, Ex H H' → H D = none → H' D = some (.dK kvs) → BkD G kvs ks n (B r) → ks.Pairwise (· ≤ ·) → Q (.ref D) H'
abbrev sBook : Stmt := inClass (top 22) 2
abbrev nBook : List Str := ["self", "router", "book", "key"]
theorem scBook : FnScope nBook ["self", "router"] (defScope sBook) := ⟨rfl, rfl, rfl, by decide +kernel, rfl, by decide +kernel, by decide +kernel⟩
theorem ok_book (X : FX K CF) (hs : mg "sorted" = none) (CR : Cal P w K mg base "refuse_no_router" ["size", "thing"] 4 spRNR) (F : FnM K "book" "Flood.book" sBook f fd) : FnOk P w K mg base CX0 5 f fd ["self", "router"] (spBook CF) := by
  refine F.ok scBook (fun vs H Q E h => ?_) (fun cdv A outer s H vs Q E hr h => ?_)
  · obtain ⟨G, x, pa, la, n, m, r, B, cs, rfl, _⟩ := h
    rfl
  · obtain ⟨G, x, pa, la, n, m, r, B, cs, rfl, eG, hF, hn, hrn, k⟩ := h
    have hu : (A.deeper (envOfC "Flood.book" (defScope sBook) s.heap.objs.size f cdv)).units + 1 < cLine := by have := hr.un; omega
    refine ⟨_, pss_cons (ps_expr (pe_cal CR hr (by rfl) (pa_cons (pe_fld (pv 0) rfl) (pa_cons (pv 1) pa_nil))))
      (pss_cons (ps_set (i := 2) scBook.nd rfl (Or.inr rfl) (pe_ix ix_tup (pe_ix ix_tup (pe_fld (pv 0) rfl) pe_int (fun _ _ => rfl)) (pv 1) (fun _ _ => rfl)))
      (pss_one (ps_ret (pe_dc (own := [("key", 3)]) (g := gName 3) (tt := tYes) (tk := tVar 3) (tv := tDGet (tVar 2) (tVar 3)) rfl scBook.nd (pi_list (pe_callB (call_sortedDI rfl) (by rfl) hs boot_sorted (pa_cons (pv 2) pa_nil))) (blkOk_by (N := nBook) (sc := defScope sBook) (by decide +kernel))
        (fun _ _ _ _ _ => pg_name (i := 3) scBook.nd rfl (Or.inl rfl)) (fun _ _ _ _ _ => pts_nil) (fun _ _ _ _ _ => pv 3) (fun _ _ _ _ _ => pe_dget hu (pv 2) (pv 3) (fun _ _ => rfl)))))), ?_⟩
    obtain ⟨dx, fs, st, hx, ff, tb, tc, bs, g1, g2, g3, hB⟩ := hF.ob
    obtain ⟨a, hba, kvs, ks, ha, hbk⟩ := hB.at_ r hrn
    have fZ : Ev (tFld K (tVar 0) "_size") (start nBook [.ref x, .int (r : Int)]) H (.int (n : Int)) := fun H2 e2 Q2 q => ⟨.ref x, rfl, x, CF, dx, _, _, rfl, e2 _ _ hx, X.cl, X.nZ, ff.sz, q H2 (Ex.refl H2)⟩
    have c1 : Ev (tCall spRNR [] E0 (tCons (tFld K (tVar 0) "_size") (tCons (tVar 1) tNil))) (start nBook [.ref x, .int (r : Int)]) H .non := ev_call (ea_cons fZ (ea_cons (ev_var rfl) ea_nil)) (spP_v fun H1 e => ⟨n, r, rfl, hrn, rfl⟩)
    refine c1 H (Ex.refl _) _ fun H1 e1 => ?_
    have eG1 := eG.trans e1
    refine ⟨.ref x, rfl, x, CF, dx, fs, _, rfl, e1 _ _ hx, X.cl, X.nS, ff.st, st, _, 0, .ref tb, rfl, rfl, st_of (eG1 _ _ g1), atI_nat (j := 0) rfl, .int (r : Int), rfl, tb, bs, (r : Int), .ref a, rfl, rfl, st_of (eG1 _ _ g2), atI_nat hba, ?_⟩
    refine g_name ?_
    dsimp only
    change tRet _ _ [some (.ref x), some (.int (r : Int)), some (.ref a), none] H1
    have hl := hbk.len
    refine ⟨.ref a, rfl, a, kvs, ks, rfl, .inl (eG1 _ _ ha), hbk.nk.1, by omega, fun ys L pm pw hL => ?_⟩
    have exL := Ex.new (o := .lst (ys.map V.int)) hL
    have hLL : (upd H1 L (.lst (ys.map V.int))) L = some (.lst (ys.map V.int)) := upd_same
    generalize upd H1 L (.lst (ys.map V.int)) = H2 at *
    refine ⟨L, rfl, ⟨_, sq_of hLL⟩, fun D hD => ?_⟩
    have haL := exL _ _ (eG1 _ _ ha)
    refine dc_it (H := H2) (ks := ys) (fun _ => true) (fun k => (valV kvs (.inl k)).getD .non) walk_ints hD (by rw [pm.length_eq]; omega) (fun H' e => sq_of (e _ _ hLL)) (fun x => rfl) (by show 3 < 4; decide) (fun k hk H' e => et_yes) (fun k hk _ H' e => ?_) fun H' e hD5 => ?_
    · obtain ⟨v, hv⟩ := (hbk.nk.mem k).mp (pm.mem_iff.mp hk)
      rw [hv]
      exact ev_dget (kvs := kvs) (ev_var rfl) (ev_var rfl) (.inl (e _ _ haL)) hv
    · rw [filter_yes] at hD5
      exact k H' D _ ys ((e1.trans exL).trans e) (fresh_back (e1.trans exL) hD) hD5 (book_of hbk pm) pw
/-! Flood.content -/
def spCont (CF : Addr) : Sp := fun vs H Q _ => ∃ (G : Hp) (x pa la : Addr) (n m r : Nat) (B : Nat → Bk) (cs : Nat → Option Nat), vs = [.ref x, .int (r : Int)] ∧ Ex G H ∧ FdA CF G H x pa la n m B cs ∧ n ≤ 8 ∧ r < n ∧ ∀ H', Ex H H' → Q (oV (cs r)) H'
abbrev sCont : Stmt := inClass (top 22) 3
theorem scCont : FnScope ["self", "router"] ["self", "router"] (defScope sCont) := ⟨rfl, rfl, rfl, by decide +kernel, rfl, by decide +kernel, by decide +kernel⟩
theorem ok_cont (X : FX K CF) (CR : Cal P w K mg base "refuse_no_router" ["size", "thing"] 4 spRNR) (F : FnM K "content" "Flood.content" sCont f fd) : FnOk P w K mg base CX0 5 f fd ["self", "router"] (spCont CF) := by
  refine F.ok scCont (fun vs H Q E h => ?_) (fun cdv A outer s H vs Q E hr h => ?_)
  · obtain ⟨G, x, pa, la, n, m, r, B, cs, rfl, _⟩ := h
    rfl
  · obtain ⟨G, x, pa, la, n, m, r, B, cs, rfl, eG, hF, hn, hrn, k⟩ := h
    refine ⟨_, pss_cons (ps_expr (pe_cal CR hr (by rfl) (pa_cons (pe_fld (pv 0) rfl) (pa_cons (pv 1) pa_nil))))
      (pss_one (ps_ret (pe_ix ix_tup (pe_ix ix_tup (pe_fld (pv 0) rfl) pe_int (fun _ _ => rfl)) (pv 1) (fun _ _ => rfl)))), ?_⟩
    obtain ⟨dx, fs, st, hx, ff, tb, tc, bs, g1, g2, g3, hB⟩ := hF.ob
    have fZ : Ev (tFld K (tVar 0) "_size") (start ["self", "router"] [.ref x, .int (r : Int)]) H (.int (n : Int)) := fun H2 e2 Q2 q => ⟨.ref x, rfl, x, CF, dx, _, _, rfl, e2 _ _ hx, X.cl, X.nZ, ff.sz, q H2 (Ex.refl H2)⟩
    have c1 : Ev (tCall spRNR [] E0 (tCons (tFld K (tVar 0) "_size") (tCons (tVar 1) tNil))) (start ["self", "router"] [.ref x, .int (r : Int)]) H .non := ev_call (ea_cons fZ (ea_cons (ev_var rfl) ea_nil)) (spP_v fun H1 e => ⟨n, r, rfl, hrn, rfl⟩)
    refine c1 H (Ex.refl _) _ fun H1 e1 => ?_
    have eG1 := eG.trans e1
    exact ⟨.ref x, rfl, x, CF, dx, fs, _, rfl, e1 _ _ hx, X.cl, X.nS, ff.st, st, _, 1, .ref tc, rfl, rfl, st_of (eG1 _ _ g1), atI_nat (j := 1) rfl, .int (r : Int), rfl, tc, _, (r : Int), oV (cs r), rfl, rfl, st_of (eG1 _ _ g3), atI_nat (cV_at hrn), k H1 e1⟩
/-! Flood.__init__ -/
def spInit (CF : Addr) : Sp := fun vs H Q _ => ∃ (G : Hp) (x l dx : Addr) (n : Nat) (us : List V) (prs : List Wy), vs = [.ref x, .int (n : Int), .ref l] ∧ H x = some (.ins CF dx []) ∧ Ex G H ∧ G x = none ∧ G l = some (.lst us) ∧ DqA G us (prs.map wd) ∧ (∀ p ∈ prs, PrOk n p) ∧ prs.length ≤ 22 ∧ 1 ≤ n ∧ n ≤ 8 ∧
  ∀ G' H' pa la us', Ex G G' → Ex G' H' → (∀ b u, b ≠ x → H b = some u → H' b = some u) → (∀ b u, G b = none → H b = some u → (∀ xs, u ≠ .tup xs) → G' b = none) → H pa = none → FdA CF G' H' x pa la n 0 (fun _ _ => none) (fun _ => none) → G' la = some (.lst us') → DqA G' us' ((joinW prs).map wd) → Q .non H'
abbrev sInit : Stmt := inClass (top 22) 0
abbrev nInit : List Str := ["self", "size", "links"]
theorem scInit : FnScope nInit nInit (defScope sInit) := ⟨rfl, rfl, rfl, by decide +kernel, rfl, by decide +kernel, by decide +kernel⟩
theorem cV_none (n : Nat) : List.replicate n V.non = cV n fun _ => none := by
  unfold cV
  apply List.ext_getElem
  · simp
  · intro i h1 h2
    simp [oV]
theorem ok_init (X : FX K CF) (CW : Cal P w K mg base "refuse_wrong_flood" ["size", "links"] 6 spRWF) (CB : Cal P w K mg base "both_ways" ["links"] 1 spPairs) (F : FnM K "__init__" "Flood.__init__" sInit f fd) : FnOk P w K mg base CX0 7 f fd nInit (spInit CF) := by
  refine F.ok scInit (fun vs H Q E h => ?_) (fun cdv A outer s H vs Q E hr h => ?_)
  · obtain ⟨G, x, l, dx, n, us, prs, rfl, _⟩ := h
    rfl
  · obtain ⟨G, x, l, dx, n, us, prs, rfl, hx, eG, gx, gl, hus, hok, hpl, hn1, hn8, k⟩ := h
    refine ⟨_, pss_cons (ps_expr (pe_cal CW hr (by rfl) (pa_cons (pv 1) (pa_cons (pv 2) pa_nil))))
      (pss_cons (ps_fld (pv 0) (pv 1) rfl)
      (pss_cons (ps_fld (pv 0) (pe_cal CB hr (by rfl) (pa_cons (pv 2) pa_nil)) rfl)
      (pss_cons (ps_fld (pv 0) (pe_tup (pa_cons (pe_op (op_repU (K := K) rfl) (pe_tup (pa_cons pe_dnewK pa_nil)) (pv 1)) (pa_cons (pe_op (op_repU (K := K) rfl) (pe_tup (pa_cons pe_non pa_nil)) (pv 1)) pa_nil))) rfl)
      (pss_cons (ps_fld (pv 0) pe_int rfl)
      (pss_one (ps_fld (pv 0) (pe_lst pa_nil) rfl)))))), ?_⟩
    have hprs8 : ∀ w ∈ prs, PrOk 8 w := fun w hw => by
      obtain ⟨u, v, e, h1, h2, h3⟩ := hok w hw
      exact ⟨u, v, e, by omega, by omega, h3⟩
    have c1 : Ev (tCall spRWF [] E0 (tCons (tVar 1) (tCons (tVar 2) tNil))) (start nInit [.ref x, .int (n : Int), .ref l]) H .non := ev_call (ea_cons (ev_var rfl) (ea_cons (ev_var rfl) ea_nil)) (spP_v fun H1 e => ⟨n, l, us, prs, rfl, hn1, hn8, e _ _ (eG _ _ gl), hus.mono (eG.trans e), hok, by omega, rfl⟩)
    refine c1 H (Ex.refl _) _ fun H1 e1 => ?_
    have eG1 := eG.trans e1
    refine ⟨.int (n : Int), rfl, .ref x, rfl, x, CF, dx, [], rfl, e1 _ _ hx, X.cl, X.nZ, by decide, ?_⟩
    have off2 : ∀ b u, b ≠ x → H b = some u → (upd H1 x (.ins CF dx (putF "_size" (.int (n : Int)) []))) b = some u := fun b u hb hh => by rw [upd_ne hb]; exact e1 _ _ hh
    have eG2 : Ex G (upd H1 x (.ins CF dx (putF "_size" (.int (n : Int)) []))) := Ex.mut eG1 gx
    have hx2 : (upd H1 x (.ins CF dx (putF "_size" (.int (n : Int)) []))) x = some (.ins CF dx (putF "_size" (.int (n : Int)) [])) := upd_same
    generalize upd H1 x (.ins CF dx (putF "_size" (.int (n : Int)) [])) = H2 at *
    refine ⟨.ref l, rfl, l, us, prs, rfl, eG2 _ _ gl, hus.mono eG2, hprs8, hpl, fun H3 la us' e3 nla hla husa => ?_⟩
    have hx3 := e3 _ _ hx2
    refine ⟨.ref x, rfl, x, CF, dx, _, rfl, hx3, X.cl, X.nA, ?_, ?_⟩
    · exact Nat.lt_of_le_of_lt (len_putF _ _ _) (by decide)
    have xla : la ≠ x := fun z => by rw [z, hx2] at nla; cases nla
    obtain ⟨ks, k1, k2, k3⟩ := wds_ks husa
    have o3 : Of1 x H H3 := fun b u hb hh => e3 _ _ (off2 b u hb hh)
    have nla0 : H la = none := by
      cases e : H la with
      | none => rfl
      | some u => rw [off2 la u xla e] at nla; cases nla
    have xks : ∀ p ∈ ks, p.1 ≠ x := fun p hp z => by
      have := k3 p hp
      rw [z, hx3] at this
      cases this
    have eG4 : Ex G (upd H3 x (.ins CF dx (putF "_arrows" (.ref la) (putF "_size" (.int (n : Int)) [])))) := Ex.mut (eG2.trans e3) gx
    have hx4 : (upd H3 x (.ins CF dx (putF "_arrows" (.ref la) (putF "_size" (.int (n : Int)) [])))) x = some (.ins CF dx (putF "_arrows" (.ref la) (putF "_size" (.int (n : Int)) []))) := upd_same
    have o4 := o3.trans (Of1.upd x H3 (.ins CF dx (putF "_arrows" (.ref la) (putF "_size" (.int (n : Int)) []))))
    have hla4 := Of1.upd x H3 (.ins CF dx (putF "_arrows" (.ref la) (putF "_size" (.int (n : Int)) []))) la _ xla hla
    have k34 : ∀ p ∈ ks, (upd H3 x (.ins CF dx (putF "_arrows" (.ref la) (putF "_size" (.int (n : Int)) [])))) p.1 = some (.tup (p.2.map V.int)) := fun p hp => Of1.upd x H3 _ _ _ (xks p hp) (k3 p hp)
    have ln2 : (putF "_arrows" (.ref la) (putF "_size" (V.int (n : Int)) [])).length ≤ 2 := Nat.le_trans (len_putF _ _ _) (Nat.succ_le_succ (len_putF _ _ _))
    generalize upd H3 x (.ins CF dx (putF "_arrows" (.ref la) (putF "_size" (.int (n : Int)) []))) = H4 at *
    clear k3 hla hx3 o3 hx2 off2 nla e3
    intro D0 nD0
    refine ⟨by show 1 ≤ sizeLine; decide, fun T0 nT0 => ?_⟩
    have xD0 : D0 ≠ x := fun z => by rw [z, hx4] at nD0; cases nD0
    have nD00 := o4.back xD0 nD0
    have e45 := Ex.new (o := .dK []) nD0
    have e56 := Ex.new (o := .tup [V.ref D0]) nT0
    have hD6 := e56 _ _ (show (upd H4 D0 (.dK [])) D0 = some (.dK []) from upd_same)
    have hT6 : (upd (upd H4 D0 (.dK [])) T0 (.tup [V.ref D0])) T0 = some (.tup [V.ref D0]) := upd_same
    have e46 := e45.trans e56
    generalize upd (upd H4 D0 (.dK [])) T0 (.tup [V.ref D0]) = H6 at *
    have z1 := es_rep (K := K) (σ := [some (.ref x), some (.int (n : Int)), some (.ref l)]) (H := H6) (ta := tC (.ref T0)) (tb := tVar 1) (v := .ref D0) (n := n) (es_var ev_c hT6) (ev_var rfl) hn1 (by omega)
    refine z1 H6 (Ex.refl _) _ fun tb H7 e67 htb => ?_
    have z2 := es_rep (K := K) (σ := [some (.ref x), some (.int (n : Int)), some (.ref l)]) (H := H7) (ta := tTup (tCons (tC .non) tNil)) (tb := tVar 1) (v := .non) (n := n) (es_tup (xs := [.non]) (ea_cons ev_c ea_nil) (by show 1 ≤ 100000; decide)) (ev_var rfl) hn1 (by omega)
    refine z2 H7 (Ex.refl _) _ fun tc H8 e78 htc => ?_
    refine ⟨by show 2 ≤ sizeLine; decide, fun st nst => ?_⟩
    have e89 := Ex.new (o := .tup [V.ref tb, V.ref tc]) nst
    have hst : (upd H8 st (.tup [V.ref tb, V.ref tc])) st = some (.tup [V.ref tb, V.ref tc]) := upd_same
    have e49 := (e46.trans (e67.trans e78)).trans e89
    have htb9 := e89 _ _ (e78 _ _ htb)
    have htc9 := e89 _ _ htc
    have hD9 := e89 _ _ (e78 _ _ (e67 _ _ hD6))
    generalize upd H8 st (.tup [V.ref tb, V.ref tc]) = H9 at *
    have hx9 := e49 _ _ hx4
    refine ⟨.ref x, rfl, x, CF, dx, _, rfl, hx9, X.cl, X.nS, Nat.lt_of_le_of_lt ln2 (by decide), ?_⟩
    have o9 : Of1 x H H9 := o4.trans (Of1.ex e49)
    have ln3 : (putF "_state" (.ref st) (putF "_arrows" (.ref la) (putF "_size" (V.int (n : Int)) []))).length ≤ 3 := Nat.le_trans (len_putF _ _ _) (Nat.succ_le_succ ln2)
    have ln4 : (putF "many" (.int 0) (putF "_state" (.ref st) (putF "_arrows" (.ref la) (putF "_size" (V.int (n : Int)) [])))).length ≤ 4 := Nat.le_trans (len_putF _ _ _) (Nat.succ_le_succ ln3)
    refine ⟨.ref x, rfl, x, CF, dx, _, rfl, upd_same, X.cl, X.nM, Nat.lt_of_le_of_lt ln3 (by decide), ?_⟩
    have eB : Ex G H9 := eG4.trans e49
    have oB := Of1.trans (Of1.upd x H9 (.ins CF dx (putF "_state" (.ref st) (putF "_arrows" (.ref la) (putF "_size" (V.int (n : Int)) []))))) (Of1.upd x _ (.ins CF dx (putF "many" (.int 0) (putF "_state" (.ref st) (putF "_arrows" (.ref la) (putF "_size" (V.int (n : Int)) []))))))
    have hxB : (upd (upd H9 x (.ins CF dx (putF "_state" (.ref st) (putF "_arrows" (.ref la) (putF "_size" (V.int (n : Int)) []))))) x (.ins CF dx (putF "many" (.int 0) (putF "_state" (.ref st) (putF "_arrows" (.ref la) (putF "_size" (V.int (n : Int)) [])))))) x = some (.ins CF dx (putF "many" (.int 0) (putF "_state" (.ref st) (putF "_arrows" (.ref la) (putF "_size" (V.int (n : Int)) []))))) := upd_same
    have eGB : Ex G (upd (upd H9 x (.ins CF dx (putF "_state" (.ref st) (putF "_arrows" (.ref la) (putF "_size" (V.int (n : Int)) []))))) x (.ins CF dx (putF "many" (.int 0) (putF "_state" (.ref st) (putF "_arrows" (.ref la) (putF "_size" (V.int (n : Int)) [])))))) := Ex.mut (Ex.mut eB gx) gx
    generalize upd (upd H9 x (.ins CF dx (putF "_state" (.ref st) (putF "_arrows" (.ref la) (putF "_size" (V.int (n : Int)) []))))) x (.ins CF dx (putF "many" (.int 0) (putF "_state" (.ref st) (putF "_arrows" (.ref la) (putF "_size" (V.int (n : Int)) []))))) = HB at *
    refine ⟨by show 0 ≤ sizeLine; decide, fun pa npa => ?_⟩
    have xpa : pa ≠ x := fun z => by rw [z, hxB] at npa; cases npa
    have eC := Ex.new (o := .lst ([] : List V)) npa
    have hpC : (upd HB pa (.lst ([] : List V))) pa = some (.lst []) := upd_same
    refine ⟨.ref x, rfl, x, CF, dx, _, rfl, eC _ _ hxB, X.cl, X.nP, Nat.lt_of_le_of_lt ln4 (by decide), ?_⟩
    have oF : Of1 x H9 (upd (upd HB pa (.lst ([] : List V))) x (.ins CF dx (putF "_past" (.ref pa) (putF "many" (.int 0) (putF "_state" (.ref st) (putF "_arrows" (.ref la) (putF "_size" (V.int (n : Int)) []))))))) := (oB.trans (Of1.ex eC)).trans (Of1.upd x _ _)
    have hxF : (upd (upd HB pa (.lst ([] : List V))) x (.ins CF dx (putF "_past" (.ref pa) (putF "many" (.int 0) (putF "_state" (.ref st) (putF "_arrows" (.ref la) (putF "_size" (V.int (n : Int)) []))))))) x = some (.ins CF dx (putF "_past" (.ref pa) (putF "many" (.int 0) (putF "_state" (.ref st) (putF "_arrows" (.ref la) (putF "_size" (V.int (n : Int)) [])))))) := upd_same
    have hpF : (upd (upd HB pa (.lst ([] : List V))) x (.ins CF dx (putF "_past" (.ref pa) (putF "many" (.int 0) (putF "_state" (.ref st) (putF "_arrows" (.ref la) (putF "_size" (V.int (n : Int)) []))))))) pa = some (.lst []) := by rw [upd_ne xpa]; exact hpC
    have eGF : Ex G (upd (upd HB pa (.lst ([] : List V))) x (.ins CF dx (putF "_past" (.ref pa) (putF "many" (.int 0) (putF "_state" (.ref st) (putF "_arrows" (.ref la) (putF "_size" (V.int (n : Int)) []))))))) := Ex.mut (eGB.trans eC) gx
    have np9 : H9 pa = none := oB.back xpa npa
    have np0 : H pa = none := o9.back xpa np9
    dsimp only
    generalize upd (upd HB pa (.lst ([] : List V))) x (.ins CF dx (putF "_past" (.ref pa) (putF "many" (.int 0) (putF "_state" (.ref st) (putF "_arrows" (.ref la) (putF "_size" (V.int (n : Int)) [])))))) = HF at *
    have oH : Of1 x H HF := o9.trans oF
    have nx : ∀ {b u}, H9 b = some u → (∀ C d fs, u ≠ .ins C d fs) → b ≠ x := fun {b u} hb hu z => by
      rw [z, hx9] at hb
      cases hb
      exact hu _ _ _ rfl
    have npx : ∀ {b u}, H9 b = some u → b ≠ pa := fun {b u} hb z => by rw [z, np9] at hb; cases hb
    have tupF : ∀ {b xs}, H9 b = some (.tup xs) → NewG G H HF x pa b = some (.tup xs) := fun {b xs} hb => by
      have h1 := nx hb (fun _ _ _ z => by cases z)
      exact newG_tup oH h1 (npx hb) (oF _ _ h1 hb)
    have hla9 := e49 _ _ hla4
    refine k (NewG G H HF x pa) HF pa la us' (newG_ex eG eGF gx np0) (newG_sub eGF) oH (fun b u hb hh hn => newG_nw hb hh hn) np0 ⟨⟨dx, _, st, hxF, ?_, tb, tc, _, tupF hst, tupF htb9, ?_, ?_⟩, ⟨[], hpF, Nat.le_refl _⟩, ?_, ?_, Ne.symm xpa⟩ ?_ ?_
    · refine ⟨?_, ?_, ?_, ?_, lk_putS, ?_, ?_, ?_, ?_, ?_, ?_, Nat.le_trans (len_putF _ _ _) (Nat.le_trans (Nat.succ_le_succ ln4) (by decide))⟩
      · rw [lk_putF (by decide +kernel), lk_putF (by decide +kernel), lk_putF (by decide +kernel), lk_putF (by decide +kernel)]
        exact lk_putS
      · rw [lk_putF (by decide +kernel), lk_putF (by decide +kernel), lk_putF (by decide +kernel)]
        exact lk_putS
      · rw [lk_putF (by decide +kernel), lk_putF (by decide +kernel)]
        exact lk_putS
      · rw [lk_putF (by decide +kernel)]
        exact lk_putS
      all_goals
        rw [lk_putF (by decide +kernel), lk_putF (by decide +kernel), lk_putF (by decide +kernel), lk_putF (by decide +kernel), lk_putF (by decide +kernel)]
        rfl
    · rw [← cV_none]
      exact tupF htc9
    · refine ⟨List.length_replicate, fun r hr => ⟨D0, ?_, [], [], ?_, BkD.nil _ n⟩⟩
      · rw [List.getElem?_replicate, if_pos hr]
      · rw [newG_new xD0 (npx hD9) nD00]
        exact oF _ _ xD0 hD9
    · unfold NewG
      rw [if_pos (.inl rfl)]
    · unfold NewG
      rw [if_pos (.inr rfl)]
    · rw [newG_new xla (npx hla9) nla0]
      exact oF _ _ xla hla9
    · rw [k1, ← k2]
      exact ks_wds fun q hq => tupF (e49 _ _ (k34 q hq))
end
end Wk

set_option Elab.async false
set_option linter.all false
set_option maxRecDepth 100000
set_option maxHeartbeats 2000000
namespace Wk
open PySem PySem.Spec PyProof.Rows L2 Evl
/-! several except clauses, each with the same name for what it caught -/
def unAs (i : Nat) (D : Ends) : Ends := { nx := fun σ' H' => D.nx (σ'.set i none) H', rt := D.rt, bk := fun σ' H' => D.bk (σ'.set i none) H', ct := fun σ' H' => D.ct (σ'.set i none) H' }
/-- what these clauses wish of an exception, one behind the other -/
def wClauses (K : PySem.W.Frag) (i : Nat) (Wo : WX) (D : Ends) : List (Value × (Addr → Value → Option Addr → TS)) → WX
  | [] => Wo
  | y :: r => fun cls d σ H => ∃ b, PySem.W.exmOne K cls y.1 = some b ∧ (b = true → ∀ a, H a = none → y.2 a cls d (unAs i D) (σ.set i (some (.ref a))) H) ∧ (b = false → wClauses K i Wo D r cls d σ H)
inductive Clauses (X : Cx) (n : Str) : List ExceptHandler → List (Value × (Addr → Value → Option Addr → TS)) → Prop
  | nil : Clauses X n [] []
  | cons {x : Str} {c : Value} {ts : Addr → Value → Option Addr → TS} {b₀ : Stmt} {su : List Stmt} {np pos' : Pos} {hs : List ExceptHandler} {l : List (Value × (Addr → Value → Option Addr → TS))} (hc : Names X x c)
      (hsu : ∀ (a : Addr) (oe : Obj) (cls : Value) (d : Option Addr) (pn : List (Addr × Obj)), Zc cls d oe → (∃ vs, oe.data = .fields vs) → PSs (X.suite a ((a, oe) :: pn)) (b₀ :: su) (ts a cls d)) (r : Clauses X n hs l) :
      Clauses X n (.ExceptHandler (some (.Name x np)) (some n) (b₀ :: su) pos' :: hs) ((c, ts) :: l)
section
variable {X : Cx} {n : Str} {i : Nat} {body : List Stmt} {h₀ : ExceptHandler} {hds : List ExceptHandler} {l : List (Value × (Addr → Value → Option Addr → TS))} {pos : Pos} {tb : WX → TS} {Wout : WX}
theorem ps_try_clauses (hs : X.stack = X.env :: X.outer) (hf : X.env.frame = some X.env.locals) (hN : X.N.Nodup) (hi : X.N[i]? = some n) (hln : X.env.kindOf n = some .local) (tk : Takes X Wout)
    (hb : ∀ (W : WX) (pn : List (Addr × Obj)) (xe : Value → Shared → Prop), Takes (X.tr pn xe) W → PassesOwn (model X.prog X.w) X.A X.env xe → PSs (X.tr pn xe) body (tb W))
    (hh : Clauses X n (h₀ :: hds) l) : PS X (.Try body (h₀ :: hds) [] [] pos) (fun D σ H => tb (wClauses X.K i Wout D l) D σ H) := by
  refine ⟨fun pins s σ H D I h => ?_⟩
  have ok := I.ok
  have hfr : X.A.frames = some (X.env :: X.outer) := by rw [ok.frames, hs]
  have hloc : Loc X.env.scope n := .inl hln
  refine wpAny_Try_except (wpAny_mono ((hb (wClauses X.K i Wout D l) (X.pn ++ pins) (fun e s₁ => wpAny (model X.prog X.w) X.A (noteFrame e X.env) (fun _ s₂ => wpAny (model X.prog X.w) X.A (setFlight e none) (fun _ s₃ =>
    wpAny (model X.prog X.w) X.A (handleBy e X.env (h₀ :: hds)) (SP X pins D) X.xe s₃) X.xe s₂) X.xe s₁) ?air PassesOwn.looking).run [] s σ H D (I.toTry _) h) ?fine (fun _ _ he => he))
  case fine =>
    intro f s1 hsp
    cases f with
    | next => obtain ⟨σ', H', J', q⟩ := hsp; exact wpAny_execs_nil ⟨σ', H', J'.ofTry ok, q⟩
    | brk => obtain ⟨σ', H', J', q⟩ := hsp; exact ⟨σ', H', J'.ofTry ok, q⟩
    | cont => obtain ⟨σ', H', J', q⟩ := hsp; exact ⟨σ', H', J'.ofTry ok, q⟩
    | ret u => obtain ⟨v, σ', H', J', r, q⟩ := hsp; exact ⟨v, σ', H', J'.ofTry ok, r, q⟩
  case air =>
    intro u s' xx
    obtain ⟨a, B, sI, pins', σ', H', cls, d, rfl, J', nb, up, sky, na, os, ag, w⟩ := xx
    have J : Inv X pins σ' H' sI := J'.ofTry ok
    rw [hs] at sky
    refine Sky.land (L := X.env.locals) Zc.steady hfr hf sky fun h3 fl3 up3 => ?_
    have J3 : Inv X pins σ' H' { s' with heap := h3 } := J.landed nb fl3.1 (up.trans up3) os ag
    obtain ⟨oe3, vs3, he3, hz3, hd3⟩ := fl3.there
    have nfr : a ∉ frs (X.env :: X.outer) := fun hm => by
      obtain ⟨_, o', e', hnf⟩ := fl3.2.2.1.mem hm
      rw [he3] at e'
      cases e'
      exact hnf _ hd3
    have nL : a ≠ X.env.locals := fun z => nfr (List.mem_filterMap.mpr ⟨X.env, List.mem_cons_self, by rw [hf, z]⟩)
    have nF : a ∉ X.fs := fun hm => by
      obtain ⟨e, he, q⟩ := List.mem_filterMap.mp hm
      exact nfr (List.mem_filterMap.mpr ⟨e, List.mem_cons_of_mem _ he, q⟩)
    have S3 := J3.suite he3 hd3 na nL nF
    have go : ∀ {hs' : List ExceptHandler} {l' : List (Value × (Addr → Value → Option Addr → TS))}, Clauses X n hs' l' → wClauses X.K i Wout D l' cls d σ' H' → wpAny (model X.prog X.w) X.A (handleBy (.ref a) X.env hs') (SP X pins D) X.xe { s' with heap := h3 } := by
      intro hs' l' hk
      induction hk with
      | nil =>
        intro w
        refine wpAny_handleBy_nil ?_
        obtain ⟨k1, k2, k3, oe, vs, T, oT, ts', he, hz, hd, h1, hr⟩ := id fl3
        unfold PySem.passOn
        refine wpAny_bind (wpAny_field he hd h1 ?_)
        rw [if_neg (show ¬ ((Value.ref T == Value.none) = true) from by simp)]
        have fin : wpAny (model X.prog X.w) X.A (setFlight (.ref a) X.env.frame) (fun _ s4 => wpAny (model X.prog X.w) X.A (throw (.ref a) : Sem Flow) (SP X pins D) X.xe s4) X.xe { s' with heap := h3 } := by
          rw [hf]
          exact HandSPX.setFlight_upZ fl3 fun h4 hh4 up4 => wpAny_throw (tk _ _ ⟨a, B, sI, pins, σ', H', cls, d, rfl, J, nb, (up.trans up3).trans up4, .inr (.inr (by rw [hs]; exact hh4)), na, os, ag, w⟩)
        first
          | exact wpAny_bind (wpAny_pure (wpAny_bind fin))
          | exact wpAny_bind fin
      | @cons x c ts b₀ su np pos' hs2 l2 hc hsu r ih =>
        intro w
        obtain ⟨b, hb1, hyes, hno⟩ := w
        refine wpAny_handleBy_cons (codeAny_handlers_test ?_) (by intro q; cases q)
        have LM := PySem.W.exm_one (M := model X.prog X.w) (J3.kIn) (fun A Q E s k q => wpAny_typeOf_ref (k _ _ he3) (by rw [hz3.1]; exact q)) hb1
        have test : ∀ {Q E : Value → Shared → Prop}, Q c { s' with heap := h3 } → wpAny (model X.prog X.w) (X.A.mark (some (.ref a))) (eval (.Name x np) X.env) Q E { s' with heap := h3 } := fun {Q E} q => by
          obtain ⟨hg, hdbg, hm | ⟨hm, hv, hnn⟩⟩ := hc
          · exact ld_glob (X := X.suite a ((a, oe3) :: (X.pn ++ pins))) S3 hg hm q hdbg
          · exact ld_blt (X := X.suite a ((a, oe3) :: (X.pn ++ pins))) S3 hg hm hv q hnn hdbg
        refine test (LM.here ?_)
        cases b with
        | false => exact ih (hno rfl)
        | true =>
          refine codeAny_handlers_suite_as (HandSPX.lands_againZ fl3 fun h4 fl4 up4 => ?_)
          have J4 : Inv X pins σ' H' { s' with heap := h4 } := J.landed nb fl4.1 ((up.trans up3).trans up4) os ag
          obtain ⟨oe4, vs4, he4, hz4, hd4⟩ := fl4.there
          have S4 := J4.suite he4 hd4 na nL nF
          refine store_ok (X := X.suite a ((a, oe4) :: (X.pn ++ pins))) (v := .ref a) S4 hN hi hloc rfl (fun s5 S5 => ?_) (.inr hln)
          refine wpAny_mono ((hsu a oe4 cls d (X.pn ++ pins) hz4 ⟨_, hd4⟩).run [] s5 _ H' _ S5 (hyes rfl a na)) (fun f s6 hsp => ?_) (fun _ _ z => False.elim z)
          cases f with
          | next => obtain ⟨σ6, H6, S6, q6⟩ := hsp; exact gone_ok (S6.unsuite ok) hN hi hln fun s7 J7 => ⟨_, _, J7, q6⟩
          | brk => obtain ⟨σ6, H6, S6, q6⟩ := hsp; exact gone_ok (S6.unsuite ok) hN hi hln fun s7 J7 => ⟨_, _, J7, q6⟩
          | cont => obtain ⟨σ6, H6, S6, q6⟩ := hsp; exact gone_ok (S6.unsuite ok) hN hi hln fun s7 J7 => ⟨_, _, J7, q6⟩
          | ret u => obtain ⟨v6, σ6, H6, S6, r6, q6⟩ := hsp; exact gone_ok (S6.unsuite ok) hN hi hln fun s7 J7 => ⟨_, _, _, J7, r6, q6⟩
    exact go hh w
end
end Wk

set_option Elab.async false
set_option linter.all false
set_option maxRecDepth 100000
set_option maxHeartbeats 4000000
namespace Wk
open PySem PySem.Spec PyProof.Rows L2 Evl
/-- an error class without a field -/
structure ErrN (K : PySem.W.Frag) (mg : Str → Option Value) (x : Str) (C : Addr) : Prop where
  g : mg x = some (.ref C)
  q : PySem.W.excIn K C [.type "ValueError", .type "Exception", .type "BaseException", .type "object"] "ValueError.__new__" = true
  k : PySem.W.keepIn K (.ref C) = true
  b : PySem.W.subIn K (.ref C) (.type "BaseException") = some true
  t : PySem.W.typeIn K (.ref C) = some (.type "type")
theorem pmk_errN {X : Cx} {K : PySem.W.Frag} {mg : Str → Option Value} {x : Str} {C : Addr} {p pos : Pos} (hK : X.K = K) (hm : X.mg = mg) (T : ErrN K mg x C) (hg : Gl X x) (hdb : (x == ("__debug__" : Str)) = false := by decide) :
    PMk X (.Call (.Name x p) [] [] pos) (fun _ H Q => Q (.ref C) none H) := by
  subst hK hm
  intro ps s σ H Q I h
  refine wpAny_Call_Name_kw (ld_glob I hg T.g ?_ hdb)
  refine PySem.W.callWith_K0 I.kIn T.k ?_
  show wpAny _ _ (call (.ref C) []) _ _ _
  obtain ⟨bm, N, nm, qn, bs, hdct, sn, sub, ab, col, dd, k0, k1, k2, k3, k5, mN, hC, hN, hni, T2⟩ := exc_obj I.kIn T.q
  refine wpAny_call_exc_subT PySem.F.excBase_ValueError T2 hC hN hni (fun h' e hm => ?_) (Nat.zero_le _)
  exact mk_of I hm (raises_own T.b T.t) h (I.hok.gone hm.new)
structure CalX (P : Program) (w : World) (K : PySem.W.Frag) (mg : Str → Option Value) (base : Heap) (x : Str) (ps : List Str) (k : Nat) (sp : Sp) : Prop where
  ex : ∃ (f : Addr) (fd : FuncData), FnOk P w K mg base (L2.CX P w) k f fd ps sp ∧ mg x = some (.ref f) ∧ PySem.W.keepIn K (.ref f) = true ∧ Binds K fd ps []
def isStr : PyData → Bool
  | .str _ => true
  | _ => false
theorem kit_str (d : PyData) : kitB (tyN d) "str" = some (isStr d) := by
  cases d with
  | none => exact show kitB "NoneType" "str" = some false by decide +kernel
  | bool b => exact show kitB "bool" "str" = some false by decide +kernel
  | int i => exact show kitB "int" "str" = some false by decide +kernel
  | str z => exact show kitB "str" "str" = some true by decide +kernel
  | list ds => exact show kitB "list" "str" = some false by decide +kernel
  | tuple ds => exact show kitB "tuple" "str" = some false by decide +kernel
  | dict ds => exact show kitB "dict" "str" = some false by decide +kernel
theorem tu_inv {H : Hp} {v : V} {d : PyData} (hd : Dq H v d) (h : isTu d = true) : ∃ (a : Addr) (xs : List V) (ds : List PyData), v = .ref a ∧ d = .tuple ds ∧ H a = some (.tup xs) ∧ DqA H xs ds := by
  cases hd <;> first | (cases h; done) | skip
  rename_i a xs ds h1 h2
  exact ⟨a, xs, ds, rfl, rfl, h1, h2⟩
theorem pss_when {X : Cx} {l : List Stmt} {t : TS} {c : Prop} (h : c → PSs X l t) : PSs X l (fun D σ H => c ∧ t D σ H) := ⟨fun pins s σ H D I hh => (h hh.1).run pins s σ H D I hh.2⟩
theorem call_isiK {X : Cx} {K : PySem.W.Frag} (hK : X.K = K) : CallR X (.builtin "isinstance") (rIsi K) := by
  subst hK
  exact call_isi
theorem call_isEK {X : Cx} {K : PySem.W.Frag} {a D : Addr} {oe : Obj} {pn : List (Addr × Obj)} (hK : X.K = K) (C : ExcC K D) (hz : Zc (.ref D) none oe) (hf : ∃ vs, oe.data = .fields vs) : CallR (X.suite a ((a, oe) :: pn)) (.builtin "isinstance") (rIsE K D a) := by
  subst hK
  exact call_isE C hz hf
theorem all_bad {f : PyData → Bool} {l : List PyData} (h : ∃ x, x ∈ l ∧ f x = false) : l.all f = false := by
  obtain ⟨x, hx, hf⟩ := h
  cases hc : l.all f with
  | false => rfl
  | true =>
    rw [List.all_eq_true.mp hc x hx] at hf
    cases hf
/-- a method that may raise -/
structure MskX (P : Program) (w : World) (K : PySem.W.Frag) (mg : Str → Option Value) (base : Heap) (CS : Addr) (m : Str) (ps : List Str) (n : Nat) (sp : Sp) : Prop where
  ex : ∃ (fM : Addr) (fd : FuncData), Meth K CS m fM ∧ FnOk P w K mg base (L2.CX P w) n fM fd ps sp ∧ Binds K fd ps []
def W0 : WX := fun _ _ _ _ => False
end Wk

set_option Elab.async false
set_option linter.all false
set_option maxRecDepth 100000
set_option maxHeartbeats 4000000
namespace Wk
open PySem PySem.Spec PyProof.Rows L2 Evl
/-! an own error with one field of any name -/
def spXF (C : Addr) (n : Str) : Sp := fun vs H Q _ => ∃ (a : Addr) (y : V), vs = [.ref a, y] ∧ H a = some (exo a C none) ∧ ∀ dx, H dx = none → dx ≠ a → Q .non (upd (upd H dx (exd dx [(n, y)])) a (exo a C (some dx)))
theorem mk_errF {C : Addr} {n : Str} {te : TE} {σ : L2.St} {H : Hp} {y : V} {W : XK} (h : Ev te σ H y) (k : ∀ d H', H d = none → Ex H H' → H' d = some (.xd [(n, y)]) → W (.ref C) (some d) H') : tMkO C (spXF C n) [] (tCons te tNil) σ H W := by
  refine h H (Ex.refl H) _ fun H1 e => ⟨by show 1 ≤ 1000; decide, fun a ha => ?_⟩
  refine ⟨a, y, rfl, upd_same, fun dx hd hne => ⟨rfl, dx, [(n, y)], upd_same, by rw [upd_ne hne, upd_same], ?_, ?_⟩⟩
  · rw [upd_ne hne] at hd
    exact hd
  · have hd1 : H1 dx = none := by rw [upd_ne hne] at hd; exact hd
    refine k dx _ (fresh_back e hd1) (fun b o hb => ?_) upd_same
    have hb1 := e b o hb
    have nb : b ≠ dx := ne_of_none hb1 hd1
    have na : b ≠ a := ne_of_none hb1 ha
    rw [upd_ne nb, del_ne na, upd_ne na, upd_ne nb, upd_ne na]
    exact hb1
structure ErrF (P : Program) (w : World) (K : PySem.W.Frag) (mg : Str → Option Value) (base : Heap) (x : Str) (C : Addr) (n : Str) : Prop where
  g : mg x = some (.ref C)
  oex : OexC K C
  xf : XfC K C
  no : PySem.W.findIn K (.ref C) n = some none
  te : PySem.W.exmOne K (.ref C) (.ref C) = some true
  ini : ∃ (fI : Addr) (fd : FuncData), PySem.W.findIn K (.ref C) "__init__" = some (some (.ref fI)) ∧ PySem.W.typeIn K (.ref fI) = some (.type "function") ∧ FnOk P w K mg base CX0 1 fI fd ["self", n] (spXF C n) ∧ Binds K fd ["self", n] []
theorem pmk_errF {X : Cx} {x n : Str} {C : Addr} {e : Expr} {ta : TA} {p pos : Pos} (T : ErrF X.prog X.w X.K X.mg X.base x C n) (hr : Room 2 X.A) (hg : Gl X x) (ha : PA X [e] ta)
    (hdb : (x == ("__debug__" : Str)) = false := by decide) (he : starEach [e] X.env = (false, eval e X.env) :: starEach [] X.env := by rfl) (hpl : (backTo pos (starEach [] X.env)).any (·.1) = false := by rfl) : PMk X (.Call (.Name x p) [e] [] pos) (tMkO C (spXF C n) [] ta) := by
  obtain ⟨fI, fd, h1, h2, h3, h4⟩ := T.ini
  exact pmk_oex T.oex h1 h2 h3 hr h4 .nil pass0 hg T.g ha hdb he hpl
section
variable {P : Program} {w : World} {K : PySem.W.Frag} {mg : Str → Option Value} {base : Heap} {f : Addr} {fd : FuncData}
abbrev sXN : Stmt := inClass (top 3) 0
abbrev sXB : Stmt := inClass (top 4) 0
theorem scXN : FnScope ["self", "router"] ["self", "router"] (defScope sXN) := ⟨rfl, rfl, rfl, by decide +kernel, rfl, by decide +kernel, by decide +kernel⟩
theorem scXB : FnScope ["self", "part"] ["self", "part"] (defScope sXB) := ⟨rfl, rfl, rfl, by decide +kernel, rfl, by decide +kernel, by decide +kernel⟩
theorem ok_xn {C : Addr} (T : OexC K C) (no : PySem.W.findIn K (.ref C) "router" = some none) (F : FunD K "__init__" "NoRouter.__init__" (defArgs sXN) (defBody sXN) (defScope sXN) [] [] f fd) : FnOk P w K mg base CX0 1 f fd ["self", "router"] (spXF C "router") := by
  refine F.ok scXN (fun vs H Q E h => ?_) (fun cdv A outer s H vs Q E hr h => ?_)
  · obtain ⟨a, y, rfl, _⟩ := h
    rfl
  · obtain ⟨a, y, rfl, ha, k⟩ := h
    exact ⟨_, pss_one (ps_ost (pv 0) (pv 1)), y, rfl, .ref a, rfl, a, C, rfl, T, no, .inl ⟨ha, k⟩⟩
theorem ok_xb {C : Addr} (T : OexC K C) (no : PySem.W.findIn K (.ref C) "part" = some none) (F : FunD K "__init__" "BadFlood.__init__" (defArgs sXB) (defBody sXB) (defScope sXB) [] [] f fd) : FnOk P w K mg base CX0 1 f fd ["self", "part"] (spXF C "part") := by
  refine F.ok scXB (fun vs H Q E h => ?_) (fun cdv A outer s H vs Q E hr h => ?_)
  · obtain ⟨a, y, rfl, _⟩ := h
    rfl
  · obtain ⟨a, y, rfl, ha, k⟩ := h
    exact ⟨_, pss_one (ps_ost (pv 0) (pv 1)), y, rfl, .ref a, rfl, a, C, rfl, T, no, .inl ⟨ha, k⟩⟩
end
/-! isinstance of a caught error with a field -/
def rIsF (K : PySem.W.Frag) (D a dx : Addr) : List V → Hp → VK → Prop := fun xs H Q => ∃ (c : V) (cv : Value) (b : Bool) (fs : List (Str × V)), xs = [.ref a, c] ∧ ClsV c cv ∧ PySem.W.kitOne K (.ref D) cv = some b ∧ H dx = some (.xd fs) ∧ Q (.bl b) H
def rIsFT (K : PySem.W.Frag) (D a dx : Addr) : List V → Hp → VK → Prop := fun xs H Q => ∃ (tp : Addr) (cs : List V) (us : List Value) (b : Bool) (fs : List (Str × V)), xs = [.ref a, .ref tp] ∧ H tp = some (.tup cs) ∧ Paired ClsV cs us ∧ PySem.W.kitAny K (.ref D) us = some b ∧ H dx = some (.xd fs) ∧ Q (.bl b) H
theorem excC_cls {K : PySem.W.Frag} {D : Addr} (C : ExcC K D) : (PySem.W.clsIn K D).isSome = true := by
  obtain ⟨cd, hc, _⟩ := PySem.W.any_some C.hd
  rw [hc]
  rfl
theorem inst_of {X : Cx} {pins : List (Addr × Obj)} {σ : L2.St} {H : Hp} {s : Shared} {a D dx : Addr} {oe : Obj} {pn : List (Addr × Obj)} {fs : List (Str × V)} (I : Inv (X.suite a ((a, oe) :: pn)) pins σ H s) (hz : Zc (.ref D) (some dx) oe) (hf : ∃ vs, oe.data = .fields vs) (ea : H dx = some (.xd fs)) :
    ∃ od, PySem.W.InstAt s.heap a oe D (some od) := by
  obtain ⟨ha, _⟩ := I.pin (a, oe) (List.mem_append_left _ List.mem_cons_self)
  obtain ⟨vs, hd⟩ := hf
  have hx : ObjOk X.prog X.w H s.heap dx (.xd fs) := I.hok dx _ ea
  obtain ⟨mA, hns, hr⟩ := hx
  obtain ⟨od, ho, hl⟩ := lookIn_ns hns
  exact ⟨od, ha, hz.1, by unfold PySem.W.notCls; rw [hd] <;> rfl, by rw [hz.2]; exact ho⟩
theorem call_isF {X : Cx} {K : PySem.W.Frag} {a D dx : Addr} {oe : Obj} {pn : List (Addr × Obj)} (hK : X.K = K) (C : ExcC K D) (hz : Zc (.ref D) (some dx) oe) (hf : ∃ vs, oe.data = .fields vs) : CallR (X.suite a ((a, oe) :: pn)) (.builtin "isinstance") (rIsF K D a dx) := by
  subst hK
  intro pins s σ H xs us Q I r h
  obtain ⟨c, cv, b, fs, rfl, hcv, e, ea, q⟩ := h
  obtain ⟨u1, u2, rfl, r1, r2⟩ := vals2 r
  obtain rfl : u1 = Value.ref a := r1
  have e2 := hcv.eq r2
  subst e2
  obtain ⟨od, J⟩ := inst_of I hz hf ea
  exact PySem.W.kia_one (PySem.W.kitx_exc (excC_cls C) C.hg C.hk C.hs C.ha C.hn C.ht C.hm) I.kIn J e (fun z => nomatch z) fun tk => ⟨.bl b, H, I.kept (t' := tk) fun _ _ z => z, rfl, q⟩
theorem call_isFT {X : Cx} {K : PySem.W.Frag} {a D dx : Addr} {oe : Obj} {pn : List (Addr × Obj)} (hK : X.K = K) (C : ExcC K D) (hz : Zc (.ref D) (some dx) oe) (hf : ∃ vs, oe.data = .fields vs) : CallR (X.suite a ((a, oe) :: pn)) (.builtin "isinstance") (rIsFT K D a dx) := by
  subst hK
  intro pins s σ H xs us Q I r h
  obtain ⟨tp, cs, ws, b, fs, rfl, hT, k, e, ea, q⟩ := h
  obtain ⟨u1, u2, rfl, r1, r2⟩ := vals2 r
  obtain rfl : u1 = Value.ref a := r1
  cases (show u2 = Value.ref tp from r2)
  obtain ⟨od, J⟩ := inst_of I hz hf ea
  obtain ⟨_, its, rv, o, h1, h2, n, h3⟩ := (show ObjOk X.prog X.w H s.heap tp (.tup cs) from I.hok tp _ hT)
  have e3 := ClsV.all k rv
  subst e3
  obtain ⟨oc, od2, dt, sl⟩ := o
  simp only at h2 h3
  subst h2 h3
  exact PySem.W.kia_tup (PySem.W.kitx_exc (excC_cls C) C.hg C.hk C.hs C.ha C.hn C.ht C.hm) I.kIn J h1 e (fun z => nomatch z) fun tk => ⟨.bl b, H, I.kept (t' := tk) fun _ _ z => z, rfl, q⟩
/-! for x in a list or a tuple -/
def iRow (K : PySem.W.Frag) (tl : TE) : TI := fun σ H R => tl σ H fun x H1 => ∃ a, x = .ref a ∧ (((∃ xs, SqL K H1 a xs) ∧ R (Itl K a) H1) ∨ ((∃ xs, SqT K H1 a xs) ∧ R (Itt K a) H1))
theorem pi_row {X : Cx} {tg l : Expr} {tl : TE} (hl : PE X l tl) : PI X tg l (iRow X.K tl) := by
  refine ⟨fun pins s σ H R I h => ?_⟩
  refine thn (hl.run pins s σ H _ I h) fun v s1 ⟨x, H1, I1, r1, q1⟩ => ?_
  obtain ⟨a, e, q1⟩ := q1
  subst e
  cases r1
  rcases q1 with ⟨⟨xs, hq⟩, q⟩ | ⟨⟨xs, hq⟩, q⟩
  · obtain ⟨its, rv, p, hz⟩ := I1.list hq
    refine wpAny_pyIter_list p.isList ?_
    refine ⟨s1.heap.objs.size, [s1.heap.objs.size], _, _, H1, rfl, I1.kept (t' := s1.toks) fun b o e => Heap.get?_push_of_some _ e, turn_list a _, ⟨_, Heap.get?_push_size _ rfl, rfl, rfl⟩, fun b hb => ?_, q⟩
    have e : b = s1.heap.objs.size := by simpa using hb
    subst e
    exact I1.fpOk (Nat.le_refl _) (I1.hok.fresh (Nat.le_refl _))
  · obtain ⟨its, rv, p, hz⟩ := I1.tuple hq
    refine wpAny_pyIter_tuple (show s1.heap.IsTuple a its.toArray from p) ?_
    refine ⟨s1.heap.objs.size, [s1.heap.objs.size], _, _, H1, rfl, I1.kept (t' := s1.toks) fun b o e => Heap.get?_push_of_some _ e, turn_tuple a _, ⟨_, Heap.get?_push_size _ rfl, rfl, rfl⟩, fun b hb => ?_, q⟩
    have e : b = s1.heap.objs.size := by simpa using hb
    subst e
    exact I1.fpOk (Nat.le_refl _) (I1.hok.fresh (Nat.le_refl _))
/-- a row: a list or a tuple -/
def Row (H : Hp) (a : Addr) (xs : List V) : Prop := H a = some (.lst xs) ∨ H a = some (.tup xs)
theorem Row.mono {H H' : Hp} {a : Addr} {xs : List V} (e : Ex H H') (h : Row H a xs) : Row H' a xs := h.imp (e _ _) (e _ _)
section
variable {K : PySem.W.Frag} {σ : L2.St} {H : Hp} {t : TT} {te : TE}
theorem el_lcR {a : Addr} {xs : List V} {tl : TE} {j : Nat} {vs : List Nat} (f : Nat → Bool) (v : Nat → V) (h : Ev tl σ H (.ref a)) (hx : Row H a xs) (hz : xs.length ≤ 40000) (hw : ∀ x, wipe ((wipe σ vs).set j (some x)) vs = wipe σ vs)
    (ht : ∀ (i : Nat) (x : V) H1, Ex H H1 → xs[i]? = some x → EvT t ((wipe σ vs).set j (some x)) H1 (f i)) (he : ∀ (i : Nat) (x : V) H1, Ex H H1 → xs[i]? = some x → f i = true → Ev te ((wipe σ vs).set j (some x)) H1 (v i)) :
    EvL (tLc (iRow K tl) (gName j) t te vs) σ H (given xs.length f v) := fun H0 e Q q => h H0 e _ fun H1 e1 => by
  rcases hx with hx | hx
  · have hx1 := (e.trans e1) _ _ hx
    exact ⟨a, rfl, .inl ⟨⟨xs, sq_of hx1⟩, fun Dl hD => lc_it (walk_list (K := K) (a := a) (xs := xs)) (Cw H1 f v Dl) ⟨hD, Ex.new hD, upd_same⟩ (fun i H' _ p => sq_of (p.2.1 _ _ hx1))
      (fun i x H' H2 hi p y => by
        obtain ⟨rfl, hxi⟩ := y
        exact ⟨hw x, cw_turn p (by omega) (ht i x H1 (e.trans e1) hxi) (fun hf => he i x H1 (e.trans e1) hxi hf)⟩)
      (fun H' p => q Dl H' (fresh_back e1 p.1) (e1.trans p.2.1) p.2.2)⟩⟩
  · have hx1 := (e.trans e1) _ _ hx
    exact ⟨a, rfl, .inr ⟨⟨xs, st_of hx1⟩, fun Dl hD => lc_it (walk_tup (K := K) (a := a) (xs := xs)) (Cw H1 f v Dl) ⟨hD, Ex.new hD, upd_same⟩ (fun i H' _ p => st_of (p.2.1 _ _ hx1))
      (fun i x H' H2 hi p y => by
        obtain ⟨rfl, hxi⟩ := y
        exact ⟨hw x, cw_turn p (by omega) (ht i x H1 (e.trans e1) hxi) (fun hf => he i x H1 (e.trans e1) hxi hf)⟩)
      (fun H' p => q Dl H' (fresh_back e1 p.1) (e1.trans p.2.1) p.2.2)⟩⟩
end
end Wk

set_option Elab.async false
set_option linter.all false
set_option maxRecDepth 100000
set_option maxHeartbeats 4000000
namespace Wk
open PySem PySem.Spec PyProof.Rows L2 Evl
/-! what is a deed, of any datum -/
def betI (a b : Int) (d : PyData) : Bool := isI d && (decide (a ≤ valI d) && decide (valI d ≤ b))
def fdR (n : Nat) (js : List Wy) (s : Str) (r : List PyData) : Bool :=
  r.all isI && (if decide (V.str s = V.str "write") = true then decide (r.length = 2) && (isR (n : Int) (r.getD 0 .none) && betI 0 99 (r.getD 1 .none))
    else if decide (V.str s = V.str "restart") = true then decide (r.length = 1) && isR (n : Int) (r.getD 0 .none)
    else inV (.str s) [.str "pass", .str "lose"] && decide (r.map valI ∈ js))
def isFD (n : Nat) (js : List Wy) (d : PyData) : Bool := match d with
  | .tuple (.str s :: r) => fdR n js s r
  | _ => false
theorem isR_nat {n r : Nat} (h : r < n) : isR (n : Int) (.int (r : Int)) = true := isR_yes h
theorem bet_nat {c : Nat} (h : c < 100) : betI 0 99 (.int (c : Int)) = true := by
  show (true && (decide ((0 : Int) ≤ (c : Int)) && decide ((c : Int) ≤ 99))) = true
  rw [decide_eq_true (show (0 : Int) ≤ (c : Int) by omega), decide_eq_true (show (c : Int) ≤ 99 by omega)]
  rfl
theorem Deed.good {n : Nat} {js : List Wy} {rs : Bool} {x : Deed} (h : x.ok n js rs) : isFD n js x.d = true := by
  cases x with
  | pas a b =>
    show fdR n js "pass" [.int (a : Int), .int (b : Int)] = true
    unfold fdR
    rw [show decide (V.str "pass" = V.str "write") = false by decide +kernel, show decide (V.str "pass" = V.str "restart") = false by decide +kernel, show inV (.str "pass") [.str "pass", .str "lose"] = true by decide +kernel, decide_eq_true (show ([PyData.int (a : Int), .int (b : Int)].map valI) ∈ js from h)]
    rfl
  | los a b =>
    show fdR n js "lose" [.int (a : Int), .int (b : Int)] = true
    unfold fdR
    rw [show decide (V.str "lose" = V.str "write") = false by decide +kernel, show decide (V.str "lose" = V.str "restart") = false by decide +kernel, show inV (.str "lose") [.str "pass", .str "lose"] = true by decide +kernel, decide_eq_true (show ([PyData.int (a : Int), .int (b : Int)].map valI) ∈ js from h)]
    rfl
  | rst r =>
    show fdR n js "restart" [.int (r : Int)] = true
    unfold fdR
    rw [show decide (V.str "restart" = V.str "write") = false by decide +kernel, show decide (V.str "restart" = V.str "restart") = true by decide +kernel]
    show (true && (true && isR (n : Int) (.int (r : Int)))) = true
    rw [isR_nat h.1]
    rfl
  | wri r c =>
    show fdR n js "write" [.int (r : Int), .int (c : Int)] = true
    unfold fdR
    rw [show decide (V.str "write" = V.str "write") = true by decide +kernel]
    show (true && (true && (isR (n : Int) (.int (r : Int)) && betI 0 99 (.int (c : Int))))) = true
    rw [isR_nat h.1, bet_nat h.2]
    rfl
theorem DqA.nth {G : Hp} {ds : List PyData} {vs : List V} (h : DqA G vs ds) {i : Nat} (hi : i < ds.length) : ∃ v, vs[i]? = some v ∧ Dq G v (ds.getD i .none) := by
  obtain ⟨v, h1, h2⟩ := h.at (i := i) (d := ds[i]) (List.getElem?_eq_getElem hi)
  refine ⟨v, h1, ?_⟩
  rw [List.getD_eq_getElem?_getD, List.getElem?_eq_getElem hi]
  exact h2
theorem DqA.all_int {G : Hp} : ∀ {ds : List PyData} {vs : List V}, DqA G vs ds → ds.all isI = true → vs = (ds.map valI).map V.int
  | [], _, .nil, _ => rfl
  | d :: ds, _, .cons h t, e => by
    rw [List.all_cons, Bool.and_eq_true] at e
    have e1 := isI_eq e.1
    rw [e1] at h
    cases h
    rw [t.all_int e.2, List.map_cons, List.map_cons]
section
variable {P : Program} {w : World} {K : PySem.W.Frag} {mg : Str → Option Value} {base : Heap} {f : Addr} {fd : FuncData}
/-! is_flood_deed -/
abbrev spFD : Sp := spP fun H vs z => ∃ (n : Nat) (la : Addr) (v : V) (d : PyData) (us : List V) (js : List Wy), vs = [.int (n : Int), .ref la, v] ∧ H la = some (.lst us) ∧ DqA H us (js.map wd) ∧ Dq H v d ∧ (itemsT d).length ≤ 1000 ∧ z = .bl (isFD n js d)
abbrev sFD : Stmt := top 25
abbrev nFD : List Str := ["size", "arrows", "thing", "item"]
theorem scFD : FnScope nFD ["size", "arrows", "thing"] (defScope sFD) := ⟨rfl, rfl, rfl, by decide +kernel, rfl, by decide +kernel, by decide +kernel⟩
theorem fd_no {n : Nat} {js : List Wy} {d : PyData} (h : isTu d = false) : isFD n js d = false := by
  cases d <;> first | rfl | cases h
theorem fd_nstr {n : Nat} {js : List Wy} {d : PyData} {ds : List PyData} (h : isStr d = false) : isFD n js (.tuple (d :: ds)) = false := by
  cases d <;> first | rfl | cases h
theorem str_inv {d : PyData} (h : isStr d = true) : ∃ s, d = .str s := by
  cases d <;> first | (cases h; done) | skip
  exact ⟨_, rfl⟩
theorem ok_fd (B : Bl mg) {t99 : Tok} (hM : mg "MOST_CONTENT" = some (.int 99 t99)) (CI : Cal P w K mg base "is_integer" ["thing"] 1 spIsInt) (CB : Cal P w K mg base "is_between" ["least", "most", "thing"] 2 spBetween) (CR : Cal P w K mg base "is_router" ["size", "thing"] 3 spRouter) (F : FnP K "is_flood_deed" sFD f fd) : FnOk P w K mg base CX0 4 f fd ["size", "arrows", "thing"] spFD := by
  refine F.ok scFD (fun vs H Q E h => ?_) (fun cdv A outer s H vs Q E hr h => ?_)
  · obtain ⟨z, ⟨n, la, v, d, us, js, rfl, _⟩, _⟩ := h
    rfl
  · obtain ⟨z, ⟨n, la, v, d, us, js, rfl, hla, hus, hd, hlen, rfl⟩, k⟩ := h
    have hu : (A.deeper (envOfC "is_flood_deed" (defScope sFD) s.heap.objs.size f cdv)).units + 65 < cLine := by have := hr.un; omega
    refine ⟨_, pss_cons (ps_if (PW.pt (pw_or (pt_not (pt_val (pe_callB call_isi (by rfl) B.isi boot_isinstance (pa_cons (pv 2) (pa_cons (pe_bltn (v := .ty "tuple") (by rfl) B.tuple PyProof.Rows.boot_tuple rfl) pa_nil)))))
        (pw_or (pt_cmpR op_eq (pe_callB call_len_seq (by rfl) B.len PySem.boot_len (pa_cons (pv 2) pa_nil)) pe_int (nomark _)) (pw_or1 (pt_not (pt_val (pe_callB call_isi (by rfl) B.isi boot_isinstance (pa_cons (pe_ix ix_tup (pv 2) pe_int (fun _ _ => rfl)) (pa_cons (pe_bltn (v := .ty "str") (by rfl) B.str PyProof.Rows.boot_str rfl) pa_nil))))))))) (pss_one (ps_ret pe_bl)) pss_nil)
      (pss_cons (ps_if (pt_not (pt_val (pe_callB (cr_all rfl) (by rfl) B.all boot_all (pa_cons
          (pe_lc (own := [("item", 3)]) (g := gName 3) (tt := tYes) (te := tCall spIsInt [] E0 (tCons (tVar 3) tNil)) rfl scFD.nd (pi_tup (pe_slice sl_tupA (pv 2) (po_some pe_int) po_none)) (blkOk_by (N := nFD) (sc := defScope sFD) (by decide +kernel))
            (fun _ _ _ _ _ => pg_name (i := 3) scFD.nd rfl (Or.inl rfl)) (fun _ _ _ _ _ => pts_nil) (fun _ _ _ _ _ => pe_cal CI hr (by rfl) (pa_cons (pv 3) pa_nil))) pa_nil)))) (pss_one (ps_ret pe_bl)) pss_nil)
      (pss_cons (ps_if (pt_cmpR op_eq (pe_ix ix_tup (pv 2) pe_int (fun _ _ => rfl)) pe_str (nomark _)) (pss_one (ps_ret (pe_and (pe_cmpR op_eq (pe_callB call_len_seq (by rfl) B.len PySem.boot_len (pa_cons (pv 2) pa_nil)) pe_int (nomark _))
          (pe_and (pe_cal CR hr (by rfl) (pa_cons (pv 0) (pa_cons (pe_ix ix_tup (pv 2) pe_int (fun _ _ => rfl)) pa_nil))) (pe_one (pe_cal CB hr (by rfl) (pa_cons pe_int (pa_cons (pe_glob (v := .int 99) (by rfl) hM ⟨_, rfl⟩) (pa_cons (pe_ix ix_tup (pv 2) pe_int (fun _ _ => rfl)) pa_nil))))))))) pss_nil)
      (pss_cons (ps_if (pt_cmpR op_eq (pe_ix ix_tup (pv 2) pe_int (fun _ _ => rfl)) pe_str (nomark _)) (pss_one (ps_ret (pe_and (pe_cmpR op_eq (pe_callB call_len_seq (by rfl) B.len PySem.boot_len (pa_cons (pv 2) pa_nil)) pe_int (nomark _))
          (pe_one (pe_cal CR hr (by rfl) (pa_cons (pv 0) (pa_cons (pe_ix ix_tup (pv 2) pe_int (fun _ _ => rfl)) pa_nil))))))) pss_nil)
      (pss_one (ps_ret (pe_and (pe_cmpR op_in_seq (pe_ix ix_tup (pv 2) pe_int (fun _ _ => rfl)) (pe_tup (pa_cons pe_str (pa_cons pe_str pa_nil))) rfl) (pe_one (pe_cmpR (op_inD hu) (pe_slice sl_tupA (pv 2) (po_some pe_int) po_none) (pv 1) rfl)))))))), ?_⟩
    have v2 : ∀ {H1 : Hp}, Ev (tVar 2) (start nFD [.int (n : Int), .ref la, v]) H1 v := ev_var rfl
    have v0 : ∀ {H1 : Hp}, Ev (tVar 0) (start nFD [.int (n : Int), .ref la, v]) H1 (.int (n : Int)) := ev_var rfl
    have i1 : EvT (tNot (tB (tCB (rIsi K) (tCons (tVar 2) (tCons (tC (.ty "tuple")) tNil))))) (start nFD [.int (n : Int), .ref la, v]) H (!isTu d) := et_not (et_B (ev_isi (K := K) v2 hd (kit_tup d)))
    cases ht : isTu d with
    | false =>
      rw [ht] at i1
      refine q_when (et_or (b := true) i1 fun z => by cases z) (fun _ H1 e1 => ?_) (fun z => by cases z)
      rw [fd_no ht] at k
      exact k H1 e1
    | true =>
    rw [ht] at i1
    obtain ⟨t, xs, ds, rfl, rfl, hT, hxs⟩ := tu_inv hd ht
    have hl := hxs.length
    have hlen : ds.length ≤ 1000 := hlen
    have ln : ∀ {H1 : Hp}, Ex H H1 → Ev (tCB (rLenS K) (tCons (tVar 2) tNil)) (start nFD [.int (n : Int), .ref la, .ref t]) H1 (.int (xs.length : Int)) := fun e => ev_lenT v2 (st_of (e _ _ hT))
    cases ds with
    | nil =>
      have hx0 : xs = [] := by cases hxs; rfl
      subst hx0
      have l0 := et_test (ev_op (r := rEq) (ln (Ex.refl H)) (ev_c (v := .int 0)) (rv_eq rfl))
      rw [show decide (V.int (([] : List V).length : Int) = V.int 0) = true from decide_eq_true rfl] at l0
      refine q_when (et_or (b := true) i1 fun _ => et_or (b := true) l0 fun z => by cases z) (fun _ H1 e1 => ?_) (fun z => by cases z)
      exact k H1 e1
    | cons d0 r =>
    obtain ⟨x0, xr, rfl, hx0, hxr⟩ : ∃ x0 xr, xs = x0 :: xr ∧ Dq H x0 d0 ∧ DqA H xr r := by
      cases hxs with
      | cons a b => exact ⟨_, _, rfl, a, b⟩
    have hlr := hxr.length
    have w0 : ∀ {H1 : Hp}, Ex H H1 → Ev (tOp (rIxT K) (tVar 2) (tC (.int 0))) (start nFD [.int (n : Int), .ref la, .ref t]) H1 x0 := fun e => ev_op v2 ev_c (rv_ixT (i := 0) (st_of (e _ _ hT)) (atI_nat (j := 0) rfl))
    have l0 := et_test (ev_op (r := rEq) (ln (Ex.refl H)) (ev_c (v := .int 0)) (rv_eq rfl))
    rw [show decide (V.int ((x0 :: xr).length : Int) = V.int 0) = false from decide_eq_false (fun z => by injection z with z; rw [List.length_cons] at z; omega)] at l0
    have i2 := et_not (et_B (ev_isi (K := K) (w0 (Ex.refl H)) hx0 (kit_str d0)))
    cases hs : isStr d0 with
    | false =>
      rw [hs] at i2
      refine q_when (et_or (b := true) i1 fun _ => et_or (b := true) l0 fun _ => i2) (fun _ H1 e1 => ?_) (fun z => by cases z)
      rw [fd_nstr hs] at k
      exact k H1 e1
    | true =>
    rw [hs] at i2
    refine q_when (et_or (b := false) i1 fun _ => et_or (b := false) l0 fun _ => i2) (fun z => by cases z) (fun _ H1 e1 => ?_)
    obtain ⟨sw, rfl⟩ := str_inv hs
    obtain rfl : x0 = .str sw := by cases hx0; rfl
    have sl : ∀ {H1 : Hp}, Ex H H1 → EvS (tSl (rSlA K) (tVar 2) (tPart (tC (.int 1))) tNoPart) (start nFD [.int (n : Int), .ref la, .ref t]) H1 xr := fun {H1} e => by
      have z := es_sl (K := K) (te := tVar 2) (σ := start nFD [.int (n : Int), .ref la, .ref t]) (H := H1) (lo := some ((1 : Nat) : Int)) (hi := none) v2 (eo_some ev_c) eo_none (e _ _ hT)
      rw [cut_from _ 1 (by rw [List.length_cons]; omega)] at z
      exact z
    have hrl : r.length ≤ 1000 := by rw [List.length_cons] at hlen; omega
    have cint : Ev (tCB (rAll K) (tCons (tLc (iTup K (tSl (rSlA K) (tVar 2) (tPart (tC (.int 1))) tNoPart)) (gName 3) tYes (tCall spIsInt [] E0 (tCons (tVar 3) tNil)) [3]) tNil)) (start nFD [.int (n : Int), .ref la, .ref t]) H1 (.bl (r.all isI)) := by
      have q := el_lcS (K := K) (te := tCall spIsInt [] E0 (tCons (tVar 3) tNil)) (j := 3) (vs := [3]) (fun _ => true) (fun i => .bl (((r[i]?).map isI).getD false)) (sl e1) (by omega) (fun x => rfl) (fun _ _ _ _ _ => et_yes) fun i v H2 e2 hv _ => by
        obtain ⟨d, hd1, hd2⟩ := hxr.get hv
        rw [hd1]
        exact ev_call (ea_cons (ev_var rfl) ea_nil) (spP_v fun H3 e3 => ⟨_, d, rfl, (hd2.mono (e1.trans e2)).mono e3, rfl⟩)
      rw [given_all, hlr] at q
      have q2 := ev_allL (K := K) (bs := (List.range r.length).map fun i => ((r[i]?).map isI).getD false) (by rw [List.map_map]; exact q)
      rw [all_get] at q2
      exact q2
    show tSeq _ _ _ _ _
    cases hai : r.all isI with
    | false =>
      rw [hai] at cint
      refine q_when (b := !false) (et_not (et_B cint)) (fun _ H2 e2 => ?_) (fun z => by cases z)
      have e : isFD n js (.tuple (.str sw :: r)) = false := by
        show fdR n js sw r = false
        unfold fdR
        rw [hai]
        rfl
      rw [e] at k
      exact k H2 (e1.trans e2)
    | true =>
    rw [hai] at cint
    refine q_when (b := !true) (et_not (et_B cint)) (fun z => by cases z) fun _ H2 e2 => ?_
    have e12 := e1.trans e2
    have hxi := hxr.all_int hai
    have ek : isFD n js (.tuple (.str sw :: r)) = (if decide (V.str sw = V.str "write") = true then decide (r.length = 2) && (isR (n : Int) (r.getD 0 .none) && betI 0 99 (r.getD 1 .none))
      else if decide (V.str sw = V.str "restart") = true then decide (r.length = 1) && isR (n : Int) (r.getD 0 .none)
      else inV (.str sw) [.str "pass", .str "lose"] && decide (r.map valI ∈ js)) := by
      show fdR n js sw r = _
      unfold fdR
      rw [hai]
      rfl
    rw [ek] at k
    have lnN : ∀ (m : Nat) {H1 : Hp}, Ex H H1 → Ev (tOp rEq (tCB (rLenS K) (tCons (tVar 2) tNil)) (tC (.int ((m + 1 : Nat) : Int)))) (start nFD [.int (n : Int), .ref la, .ref t]) H1 (.bl (decide (r.length = m))) := fun m {H1} e => by
      have z := ev_op (r := rEq) (ln e) (ev_c (v := .int ((m + 1 : Nat) : Int))) (rv_eq rfl)
      have e2 : decide (V.int ((V.str sw :: xr).length : Int) = V.int ((m + 1 : Nat) : Int)) = decide (r.length = m) := by
        rw [decide_eq_decide]
        constructor
        · intro h
          injection h with h
          rw [List.length_cons] at h
          omega
        · intro h
          rw [List.length_cons, hlr, h]
      rw [e2] at z
      exact z
    have at_ : ∀ (i : Nat) {H1 : Hp}, Ex H H1 → i < r.length → ∃ x, Ev (tOp (rIxT K) (tVar 2) (tC (.int ((i + 1 : Nat) : Int)))) (start nFD [.int (n : Int), .ref la, .ref t]) H1 x ∧ Dq H x (r.getD i .none) := fun i {H1} e hi => by
      obtain ⟨x, hx1, hx2⟩ := hxr.nth hi
      exact ⟨x, ev_op v2 ev_c (rv_ixT (st_of (e _ _ hT)) (atI_nat (j := i + 1) hx1)), hx2⟩
    have tw := et_test (ev_op (r := rEq) (w0 e12) ev_c (rv_eq (y := .str "write") rfl))
    refine q_when tw (fun hb H3 e3 => ?_) (fun hb H3 e3 => ?_)
    · rw [if_pos hb] at k
      have e03 := e12.trans e3
      refine s_ret (ev_andV (lnN 2 e03) fun h2 => ?_) fun H4 e4 => k H4 (e03.trans e4)
      have h2 := of_decide_eq_true h2
      obtain ⟨x1, hx1, hd1⟩ := at_ 0 e03 (by omega)
      obtain ⟨x2, hx2, hd2⟩ := at_ 1 e03 (by omega)
      refine ev_andV (ev_call (ea_cons v0 (ea_cons hx1 ea_nil)) (spP_v fun H1 e => ⟨(n : Int), x1, _, rfl, (hd1.mono e03).mono e, rfl⟩)) fun _ => ?_
      exact ev_call (ea_cons ev_c (ea_cons ev_c (ea_cons hx2 ea_nil))) (spP_v fun H1 e => ⟨0, 99, x2, _, rfl, (hd2.mono e03).mono e, rfl⟩)
    rw [if_neg (by rw [hb]; exact Bool.false_ne_true)] at k
    have e03 := e12.trans e3
    have tr := et_test (ev_op (r := rEq) (w0 e03) ev_c (rv_eq (y := .str "restart") rfl))
    refine q_when tr (fun hb2 H4 e4 => ?_) (fun hb2 H4 e4 => ?_)
    · rw [if_pos hb2] at k
      have e04 := e03.trans e4
      refine s_ret (ev_andV (lnN 1 e04) fun h2 => ?_) fun H5 e5 => k H5 (e04.trans e5)
      have h2 := of_decide_eq_true h2
      obtain ⟨x1, hx1, hd1⟩ := at_ 0 e04 (by omega)
      exact ev_call (ea_cons v0 (ea_cons hx1 ea_nil)) (spP_v fun H1 e => ⟨(n : Int), x1, _, rfl, (hd1.mono e04).mono e, rfl⟩)
    rw [if_neg (by rw [hb2]; exact Bool.false_ne_true)] at k
    have e04 := e03.trans e4
    have c1 := ev_inS (K := K) (w0 e04) (es_tup (xs := [.str "pass", .str "lose"]) (ea_cons ev_c (ea_cons ev_c ea_nil)) (by show 2 ≤ 100000; decide)) rfl rfl
    have sl4 := sl e04
    rw [hxi] at sl4
    have c2 := ev_inDw (K := K) (tb := tVar 1) sl4 (ev_var rfl) (e04 _ _ hla) (hus.mono e04)
    exact s_ret (ev_andV c1 fun _ => c2) fun H5 e5 => k H5 (e04.trans e5)
end
end Wk

set_option Elab.async false
set_option linter.all false
set_option maxRecDepth 100000
set_option maxHeartbeats 4000000
namespace Wk
open PySem PySem.Spec PyProof.Rows L2 Evl
/-! which things are no links, no size -/
def isLi : PyData → Bool
  | .list _ => true
  | _ => false
theorem kit_lst (d : PyData) : kitB (tyN d) "list" = some (isLi d) := by
  cases d with
  | none => exact show kitB "NoneType" "list" = some false by decide +kernel
  | bool b => exact show kitB "bool" "list" = some false by decide +kernel
  | int i => exact show kitB "int" "list" = some false by decide +kernel
  | str z => exact show kitB "str" "list" = some false by decide +kernel
  | list ds => exact show kitB "list" "list" = some true by decide +kernel
  | tuple ds => exact show kitB "tuple" "list" = some false by decide +kernel
  | dict ds => exact show kitB "dict" "list" = some false by decide +kernel
def itemsR : PyData → List PyData
  | .tuple ds => ds
  | .list ds => ds
  | _ => []
def rowD (d : PyData) : Bool := isLi d || isTu d
def rpD (n : Int) (d : PyData) : Bool := (isTu d && decide (V.int ((itemsT d).length : Int) = V.int 2)) && (isR n ((itemsT d).getD 0 .none) && isR n ((itemsT d).getD 1 .none))
def prD (n : Int) (d : PyData) : Bool := rpD n d && !decide (V.int (valI ((itemsT d).getD 0 .none)) = V.int (valI ((itemsT d).getD 1 .none)))
def unlD (n : Int) (d : PyData) : Bool := rowD d && (itemsR d).all (prD n)
def szB (d : PyData) : Bool := isI d && (decide (1 ≤ valI d) && decide (valI d ≤ 8))
def fdue (d1 d2 : PyData) : Option Str := if szB d1 = true then (if unlD (valI d1) d2 = true then none else some "links") else some "size"
/-- data, or some dict -/
def Tg (H : Hp) (v : V) (d : PyData) : Prop := Dq H v d ∨ (d = .dict [] ∧ ∃ (a : Addr) (kvs : List (List L2.Key × V)), v = .ref a ∧ H a = some (.dT kvs))
theorem Tg.mono {H H' : Hp} {v : V} {d : PyData} (e : Ex H H') (h : Tg H v d) : Tg H' v d := h.imp (fun h => h.mono e) fun ⟨h1, a, kvs, h2, h3⟩ => ⟨h1, a, kvs, h2, e _ _ h3⟩
theorem Tg.ty {K : PySem.W.Frag} {H : Hp} {v : V} {d : PyData} (h : Tg H v d) : TyX K H v (.type (tyN d)) := by
  rcases h with h | ⟨rfl, a, kvs, rfl, h⟩
  · exact h.ty
  · exact .base (.dT h)
theorem rp_inv {H : Hp} {n : Int} {v : V} {d : PyData} (hd : Dq H v d) (h : rpD n d = true) : ∃ (t : Addr) (i j : Int), v = .ref t ∧ d = .tuple [.int i, .int j] ∧ H t = some (.tup [.int i, .int j]) := by
  unfold rpD at h
  simp only [Bool.and_eq_true, decide_eq_true_eq] at h
  obtain ⟨⟨ht, hl⟩, h0, h1⟩ := h
  obtain ⟨t, xs, ds, rfl, rfl, hT, hxs⟩ := tu_inv hd ht
  have hl : ds.length = 2 := by injection hl with hl; have : ((itemsT (.tuple ds)).length : Int) = 2 := hl; simp [itemsT] at this; omega
  match ds, hl, hxs, h0, h1 with
  | [d0, d1], _, hxs, h0, h1 =>
    have i0 : isI d0 = true := by
      have : isR n d0 = true := h0
      unfold isR at this
      simp only [Bool.and_eq_true] at this
      exact this.1
    have i1 : isI d1 = true := by
      have : isR n d1 = true := h1
      unfold isR at this
      simp only [Bool.and_eq_true] at this
      exact this.1
    have e0 := isI_eq i0
    have e1 := isI_eq i1
    rw [e0, e1] at hxs
    cases hxs with
    | cons a b =>
      cases a
      cases b with
      | cons a b =>
        cases a
        cases b
        refine ⟨t, valI d0, valI d1, rfl, ?_, hT⟩
        rw [← e0, ← e1]
theorem row_inv {H : Hp} {v : V} {d : PyData} (h : Tg H v d) (hr : rowD d = true) : ∃ (a : Addr) (xs : List V), v = .ref a ∧ Row H a xs ∧ DqA H xs (itemsR d) := by
  rcases h with h | ⟨rfl, _⟩
  · cases h <;> first | (cases hr; done) | skip
    · rename_i a xs ds h1 h2
      exact ⟨a, xs, rfl, .inl h1, h2⟩
    · rename_i a xs ds h1 h2
      exact ⟨a, xs, rfl, .inr h1, h2⟩
  · cases hr
section
variable {K : PySem.W.Frag} {σ : L2.St} {H : Hp} {ta : TE}
theorem ev_isiTg {v : V} {d : PyData} {n m : String} {b c : Bool} (h : Ev ta σ H v) (hd : Tg H v d) (h1 : kitB (tyN d) n = some b) (h2 : kitB (tyN d) m = some c) :
    Ev (tCB (rIsiT K) (tCons ta (tCons (tTup (tCons (tC (.ty n)) (tCons (tC (.ty m)) tNil))) tNil))) σ H (.bl (b || c)) := fun H1 e Q q =>
  h H1 e _ fun H2 e2 => ⟨by show 2 ≤ sizeLine; decide, fun p hp => ⟨v, p, [.ty n, .ty m], .type (tyN d), [.type n, .type m], b || c, rfl, upd_same, .cons (.ty n) (.cons (.ty m) .nil), (hd.mono ((e.trans e2).trans (Ex.new hp))).ty,
    kitAny_cons (kit_ty h1) (fun hb => kitAny_cons (kit_ty h2) (fun hc => by rw [hb, hc]; exact kitAny_nil) (fun hc => by rw [hc]; simp)) (fun hb => by rw [hb]; rfl), q _ (e2.trans (Ex.new hp))⟩⟩
end
section
variable {P : Program} {w : World} {K : PySem.W.Frag} {mg : Str → Option Value} {base : Heap} {f : Addr} {fd : FuncData}
abbrev spIsRow2 : Sp := spP fun H vs z => ∃ (v : V) (d : PyData), vs = [v] ∧ Tg H v d ∧ z = .bl (rowD d)
theorem ok_isRow2 (B : Bl mg) (F : FnP K "is_row" sIsRow f fd) : FnOk P w K mg base CX0 1 f fd ["thing"] spIsRow2 := by
  refine F.ok scIsRow (fun vs H Q E h => ?_) (fun cdv A outer s H vs Q E hr h => ?_)
  · obtain ⟨z, ⟨v, d, rfl, _⟩, _⟩ := h
    rfl
  · obtain ⟨z, ⟨v, d, rfl, hv, rfl⟩, k⟩ := h
    exact ⟨_, pss_one (ps_ret (pe_callB call_isiT (by rfl) B.isi boot_isinstance (pa_cons (pv 0) (pa_cons (pe_tup (pa_cons (pe_bltn (v := .ty "list") (by rfl) B.list PyProof.Rows.boot_list rfl) (pa_cons (pe_bltn (v := .ty "tuple") (by rfl) B.tuple PyProof.Rows.boot_tuple rfl) pa_nil))) pa_nil)))),
      s_ret (ev_isiTg (ev_var rfl) hv (kit_lst d) (kit_tup d)) k⟩
abbrev spTupOf2 : Sp := spP fun H vs z => ∃ (m : Int) (v : V) (d : PyData), vs = [.int m, v] ∧ Dq H v d ∧ z = .bl (isTu d && decide (V.int ((itemsT d).length : Int) = V.int m))
theorem ok_tupOf2 (B : Bl mg) (F : FnP K "is_tuple_of" sTupOf f fd) : FnOk P w K mg base CX0 1 f fd ["many", "thing"] spTupOf2 := by
  refine F.ok scTupOf (fun vs H Q E h => ?_) (fun cdv A outer s H vs Q E hr h => ?_)
  · obtain ⟨z, ⟨m, v, d, rfl, _⟩, _⟩ := h
    rfl
  · obtain ⟨z, ⟨m, v, d, rfl, hv, rfl⟩, k⟩ := h
    refine ⟨_, pss_one (ps_ret (pe_and (pe_callB call_isi (by rfl) B.isi boot_isinstance (pa_cons (pv 1) (pa_cons (pe_bltn (v := .ty "tuple") (by rfl) B.tuple PyProof.Rows.boot_tuple rfl) pa_nil)))
      (pe_one (pe_cmpR op_eq (pe_callB call_len_seq (by rfl) B.len PySem.boot_len (pa_cons (pv 1) pa_nil)) (pv 0) (nomark _))))), ?_⟩
    refine s_ret (ev_andV (ev_isi (K := K) (ev_var rfl) hv (kit_tup d)) fun ht => ?_) k
    obtain ⟨t, xs, ds, rfl, rfl, hT, hxs⟩ := tu_inv hv ht
    have v1 : Ev (tVar 1) (start ["many", "thing"] [.int m, .ref t]) H (.ref t) := ev_var rfl
    have v0 : Ev (tVar 0) (start ["many", "thing"] [.int m, .ref t]) H (.int m) := ev_var rfl
    have z := ev_op (r := rEq) (ev_lenT (K := K) v1 (st_of hT)) v0 (rv_eq rfl)
    rw [hxs.length] at z
    exact z
abbrev spRPair2 : Sp := spP fun H vs z => ∃ (n : Int) (v : V) (d : PyData), vs = [.int n, v] ∧ Dq H v d ∧ z = .bl (rpD n d)
theorem ok_rPair2 (CT : Cal P w K mg base "is_tuple_of" ["many", "thing"] 1 spTupOf2) (CR : Cal P w K mg base "is_router" ["size", "thing"] 3 spRouter) (F : FnP K "is_router_pair" sRPair f fd) : FnOk P w K mg base CX0 4 f fd ["size", "thing"] spRPair2 := by
  refine F.ok scRPair (fun vs H Q E h => ?_) (fun cdv A outer s H vs Q E hr h => ?_)
  · obtain ⟨z, ⟨n, v, d, rfl, _⟩, _⟩ := h
    rfl
  · obtain ⟨z, ⟨n, v, d, rfl, hv, rfl⟩, k⟩ := h
    refine ⟨_, pss_one (ps_ret (pe_and (pe_cal CT hr (by rfl) (pa_cons pe_int (pa_cons (pv 1) pa_nil))) (pe_and (pe_cal CR hr (by rfl) (pa_cons (pv 0) (pa_cons (pe_ix ix_tup (pv 1) pe_int (fun _ _ => rfl)) pa_nil)))
      (pe_one (pe_cal CR hr (by rfl) (pa_cons (pv 0) (pa_cons (pe_ix ix_tup (pv 1) pe_int (fun _ _ => rfl)) pa_nil))))))), ?_⟩
    refine s_ret (ev_andV (ev_call (ea_cons ev_c (ea_cons (ev_var rfl) ea_nil)) (spP_v fun H1 e => ⟨2, v, d, rfl, hv.mono e, rfl⟩)) fun ht => ?_) k
    rw [Bool.and_eq_true] at ht
    obtain ⟨ht, hl⟩ := ht
    obtain ⟨t, xs, ds, rfl, rfl, hT, hxs⟩ := tu_inv hv ht
    have hl := of_decide_eq_true hl
    have hl : ds.length = 2 := by injection hl with hl; have : ((itemsT (.tuple ds)).length : Int) = 2 := hl; simp [itemsT] at this; omega
    obtain ⟨x0, hx0, hd0⟩ := hxs.nth (i := 0) (by omega)
    obtain ⟨x1, hx1, hd1⟩ := hxs.nth (i := 1) (by omega)
    have v1 : Ev (tVar 1) (start ["size", "thing"] [.int n, .ref t]) H (.ref t) := ev_var rfl
    refine ev_andV (ev_call (ea_cons (ev_var rfl) (ea_cons (ev_op v1 ev_c (rv_ixT (st_of hT) (atI_nat (j := 0) hx0))) ea_nil)) (spP_v fun H1 e => ⟨n, x0, _, rfl, hd0.mono e, rfl⟩)) fun _ => ?_
    exact ev_call (ea_cons (ev_var rfl) (ea_cons (ev_op v1 ev_c (rv_ixT (st_of hT) (atI_nat (j := 1) hx1))) ea_nil)) (spP_v fun H1 e => ⟨n, x1, _, rfl, hd1.mono e, rfl⟩)
abbrev spUnl2 : Sp := spP fun H vs z => ∃ (n : Int) (v : V) (d : PyData), vs = [.int n, v] ∧ Tg H v d ∧ (itemsR d).length ≤ 1000 ∧ z = .bl (unlD n d)
theorem ok_unl2 (B : Bl mg) (CI : Cal P w K mg base "is_row" ["thing"] 1 spIsRow2) (CP : Cal P w K mg base "is_router_pair" ["size", "thing"] 4 spRPair2) (F : FnP K "is_row_of_unlike_pairs" sUnl f fd) : FnOk P w K mg base CX0 5 f fd ["size", "thing"] spUnl2 := by
  refine F.ok scUnl (fun vs H Q E h => ?_) (fun cdv A outer s H vs Q E hr h => ?_)
  · obtain ⟨z, ⟨n, v, d, rfl, _⟩, _⟩ := h
    rfl
  · obtain ⟨z, ⟨n, v, d, rfl, hv, hl, rfl⟩, k⟩ := h
    refine ⟨_, pss_one (ps_ret (pe_and (pe_cal CI hr (by rfl) (pa_cons (pv 1) pa_nil)) (pe_one (pe_callB (cr_all rfl) (by rfl) B.all boot_all (pa_cons
      (pe_lc (own := [("pair", 2)]) (g := gName 2) (tt := tYes) (te := tAndV (tCall spRPair2 [] E0 (tCons (tVar 0) (tCons (tVar 2) tNil))) (tOp rNe (tOp (rIxT K) (tVar 2) (tC (.int 0))) (tOp (rIxT K) (tVar 2) (tC (.int 1))))) rfl scUnl.nd (pi_row (pv 1)) (blkOk_by (N := nUnl) (sc := defScope sUnl) (by decide +kernel))
        (fun _ _ _ _ _ => pg_name (i := 2) scUnl.nd rfl (Or.inl rfl)) (fun _ _ _ _ _ => pts_nil) (fun _ _ _ _ _ => pe_and (pe_cal CP hr (by rfl) (pa_cons (pv 0) (pa_cons (pv 2) pa_nil))) (pe_one (pe_cmpR op_ne (pe_ix ix_tup (pv 2) pe_int (fun _ _ => rfl)) (pe_ix ix_tup (pv 2) pe_int (fun _ _ => rfl)) rfl)))) pa_nil))))), ?_⟩
    refine s_ret (ev_andV (ev_call (ea_cons (ev_var rfl) ea_nil) (spP_v fun H1 e => ⟨v, d, rfl, hv.mono e, rfl⟩)) fun hrow => ?_) k
    obtain ⟨a, xs, rfl, hR, hxs⟩ := row_inv hv hrow
    have hxl := hxs.length
    have q := el_lcR (K := K) (te := tAndV (tCall spRPair2 [] E0 (tCons (tVar 0) (tCons (tVar 2) tNil))) (tOp rNe (tOp (rIxT K) (tVar 2) (tC (.int 0))) (tOp (rIxT K) (tVar 2) (tC (.int 1))))) (tl := tVar 1) (σ := start nUnl [.int n, .ref a]) (j := 2) (vs := [2]) (fun _ => true) (fun i => .bl ((((itemsR d)[i]?).map (prD n)).getD false)) (ev_var rfl) hR (by omega) (fun x => rfl) (fun _ _ _ _ _ => et_yes) fun i x H1 e hx _ => by
      obtain ⟨dx, hd1, hd2⟩ := hxs.get hx
      rw [hd1]
      have hd3 := hd2.mono e
      refine ev_andV (ev_call (ea_cons (ev_var rfl) (ea_cons (ev_var rfl) ea_nil)) (spP_v fun H2 e2 => ⟨n, x, dx, rfl, hd3.mono e2, rfl⟩)) fun hrp => ?_
      obtain ⟨t, i0, i1, rfl, rfl, hT⟩ := rp_inv hd3 hrp
      exact ev_op (r := rNe) (ev_op (ev_var rfl) ev_c (rv_ixT (K := K) (i := 0) (v := .int i0) (st_of hT) rfl)) (ev_op (ev_var rfl) ev_c (rv_ixT (K := K) (i := 1) (v := .int i1) (st_of hT) rfl)) (rv_ne rfl)
    rw [given_all, hxl] at q
    have q2 := ev_allL (K := K) (bs := (List.range (itemsR d).length).map fun i => (((itemsR d)[i]?).map (prD n)).getD false) (by rw [List.map_map]; exact q)
    rw [all_get] at q2
    exact q2
def spRWF2 (CB : Addr) : Sp := fun vs H Q E => ∃ (v1 v2 : V) (d1 d2 : PyData), vs = [v1, v2] ∧ Dq H v1 d1 ∧ Tg H v2 d2 ∧ (itemsR d2).length ≤ 1000 ∧ (fdue d1 d2 = none → ∀ H', Ex H H' → Q .non H') ∧
  ∀ s, fdue d1 d2 = some s → ∀ dx H', H dx = none → Ex H H' → H' dx = some (.xd [("part", .str s)]) → E (.ref CB) (some dx) H'
theorem ok_rwf2 {CB : Addr} {t1 : Tok} (hM : mg "LEAST_SIZE" = some (.int 1 t1)) (T : ErrF P w K mg base "BadFlood" CB "part") (CS : Cal P w K mg base "is_size" ["least", "thing"] 3 spSize) (CU : Cal P w K mg base "is_row_of_unlike_pairs" ["size", "thing"] 5 spUnl2) (F : FnP K "refuse_wrong_flood" sRWF f fd) : FnOk P w K mg base (L2.CX P w) 6 f fd ["size", "links"] (spRWF2 CB) := by
  refine F.ok scRWF (fun vs H Q E h => ?_) (fun cdv A outer s H vs Q E hr h => ?_)
  · obtain ⟨v1, v2, d1, d2, rfl, _⟩ := h
    rfl
  · obtain ⟨v1, v2, d1, d2, rfl, h1, h2, hl, kQ, kE⟩ := h
    have hr2 : Room 2 _ := hr.mono (by decide)
    refine ⟨_, pss_cons (ps_if (pt_not (pt_val (pe_cal CS hr (by rfl) (pa_cons (pe_glob (v := .int 1) (by rfl) hM ⟨_, rfl⟩) (pa_cons (pv 0) pa_nil))))) (pss_one (ps_raise rfl (takes_of rfl rfl rfl rfl) (pmk_errF T hr2 (by rfl) (pa_cons pe_str pa_nil)))) pss_nil)
      (pss_one (ps_if (pt_not (pt_val (pe_cal CU hr (by rfl) (pa_cons (pv 0) (pa_cons (pv 1) pa_nil))))) (pss_one (ps_raise rfl (takes_of rfl rfl rfl rfl) (pmk_errF T hr2 (by rfl) (pa_cons pe_str pa_nil)))) pss_nil)), ?_⟩
    have c1 : Ev (tCall spSize [] E0 (tCons (tC (.int 1)) (tCons (tVar 0) tNil))) (start ["size", "links"] [v1, v2]) H (.bl (szB d1)) := ev_call (ea_cons ev_c (ea_cons (ev_var rfl) ea_nil)) (spP_v fun H1 e => ⟨1, v1, d1, rfl, h1.mono e, rfl⟩)
    refine q_when (b := !szB d1) (et_not (et_B c1)) (fun hb H1 e1 => ?_) fun hb H1 e1 => ?_
    · have hb : szB d1 = false := by simpa using hb
      exact mk_errF ev_c fun dx H' h0 e' hx => kE "size" (by unfold fdue; rw [hb]; rfl) dx H' (fresh_back e1 h0) (e1.trans e') hx
    · have hb : szB d1 = true := by simpa using hb
      have hi : isI d1 = true := by
        unfold szB at hb
        rw [Bool.and_eq_true] at hb
        exact hb.1
      have ei := isI_eq hi
      have h1' := h1
      rw [ei] at h1'
      have e1v : v1 = .int (valI d1) := by cases h1'; rfl
      have c2 : Ev (tCall spUnl2 [] E0 (tCons (tVar 0) (tCons (tVar 1) tNil))) (start ["size", "links"] [v1, v2]) H1 (.bl (unlD (valI d1) d2)) := ev_call (ea_cons (ev_var rfl) (ea_cons (ev_var rfl) ea_nil)) (spP_v fun H2 e => ⟨valI d1, v2, d2, by rw [e1v]; rfl, h2.mono (e1.trans e), hl, rfl⟩)
      refine s_when (b := !unlD (valI d1) d2) (et_not (et_B c2)) (fun hc H2 e2 => ?_) fun hc H2 e2 => ?_
      · have hc : unlD (valI d1) d2 = false := by simpa using hc
        exact mk_errF ev_c fun dx H' h0 e' hx => kE "links" (by unfold fdue; rw [hb, hc]; rfl) dx H' (fresh_back (e1.trans e2) h0) ((e1.trans e2).trans e') hx
      · have hc : unlD (valI d1) d2 = true := by simpa using hc
        exact kQ (by unfold fdue; rw [hb, hc]; rfl) H2 (e1.trans e2)
end
end Wk

set_option Elab.async false
set_option linter.all false
set_option maxRecDepth 100000
set_option maxHeartbeats 4000000
namespace Wk
open PySem PySem.Spec PyProof.Rows L2 Evl
theorem good_links {n : Nat} {prs : List Wy} (h1 : 1 ≤ n) (h8 : n ≤ 8) (hok : ∀ p ∈ prs, PrOk n p) {d : PyData} (hd : d = .list (prs.map wd) ∨ d = .tuple (prs.map wd)) : fdue (.int (n : Int)) d = none := by
  have e1 : szB (.int (n : Int)) = true := by
    show (true && (decide ((1 : Int) ≤ (n : Int)) && decide ((n : Int) ≤ 8))) = true
    rw [decide_eq_true (show (1 : Int) ≤ n by omega), decide_eq_true (show (n : Int) ≤ 8 by omega)]
    rfl
  have e3 : (prs.map wd).all (prD (n : Int)) = true := by
    rw [List.all_eq_true]
    intro x hx
    obtain ⟨w, hw, rfl⟩ := List.mem_map.mp hx
    obtain ⟨u, v, rfl, hu, hv, hne⟩ := hok w hw
    show (((true && decide (V.int 2 = V.int 2)) && (isR (n : Int) (.int (u : Int)) && isR (n : Int) (.int (v : Int)))) && !decide (V.int (u : Int) = V.int (v : Int))) = true
    rw [isR_yes hu, isR_yes hv, decide_eq_true rfl, decide_eq_false]
    · rfl
    · intro z
      injection z with z
      omega
  have e2 : unlD (n : Int) d = true := by
    rcases hd with rfl | rfl
    · show (true && (prs.map wd).all (prD (n : Int))) = true
      rw [e3]
      rfl
    · show (true && (prs.map wd).all (prD (n : Int))) = true
      rw [e3]
      rfl
  unfold fdue
  rw [e1, if_pos rfl, show valI (.int (n : Int)) = (n : Int) from rfl, e2, if_pos rfl]
theorem row_tg {H : Hp} {l : Addr} {us : List V} {ds : List PyData} (h : Row H l us) (hus : DqA H us ds) : ∃ d, Tg H (.ref l) d ∧ itemsR d = ds ∧ (d = .list ds ∨ d = .tuple ds) := by
  rcases h with h | h
  · exact ⟨_, .inl (.lst h hus), rfl, .inl rfl⟩
  · exact ⟨_, .inl (.tup h hus), rfl, .inr rfl⟩
section
variable {P : Program} {w : World} {K : PySem.W.Frag} {mg : Str → Option Value} {base : Heap} {f : Addr} {fd : FuncData} {CF CB CN : Addr}
/-! both_ways of a row -/
def spPairs2 : Sp := fun vs H Q _ => ∃ (l : Addr) (us : List V) (prs : List Wy), vs = [.ref l] ∧ Row H l us ∧ DqA H us (prs.map wd) ∧ (∀ w ∈ prs, PrOk 8 w) ∧ prs.length ≤ 22 ∧
  ∀ H' l' us', Ex H H' → H l' = none → H' l' = some (.lst us') → DqA H' us' ((joinW prs).map wd) → Q (.ref l') H'
theorem ok_both2 (B : Bl mg) (hs : mg "sorted" = none) (F : FnP K "both_ways" sBoth f fd) : FnOk P w K mg base CX0 1 f fd ["links"] spPairs2 := by
  refine F.ok scBoth (fun vs H Q E h => ?_) (fun cdv A outer s H vs Q E hr h => ?_)
  · obtain ⟨l, us, prs, rfl, _⟩ := h
    rfl
  · obtain ⟨l, us, prs, rfl, hl, hus, hok, hpl, k⟩ := h
    have hu : (A.deeper (envOfC "both_ways" (defScope sBoth) s.heap.objs.size f cdv)).units + 64 < cLine := by have := hr.un; omega
    refine ⟨_, pss_one (ps_ret (pe_callB (cr_sortedT rfl) (by rfl) hs boot_sorted (pa_cons (pe_callTy (cr_setOfT rfl hu) (by rfl) B.set PyProof.Rows.boot_set (pa_cons (pe_op op_cat (pe_callTy (call_listK2 (K := K) rfl) (by rfl) B.list PyProof.Rows.boot_list (pa_cons (pv 0) pa_nil))
      (pe_lc (own := [("a", 1), ("b", 2)]) (g := gTup K 2 (gCons (gName 1) (gCons (gName 2) gNil))) (tt := tYes) (te := tTup (tCons (tVar 2) (tCons (tVar 1) tNil))) rfl scBoth.nd
        (pi_row (pv 0)) (blkOk_by (N := nBoth) (sc := defScope sBoth) (by decide +kernel)) (fun _ _ _ _ _ => pg_tup rfl (pgs_cons (pg_name (i := 1) scBoth.nd rfl (Or.inl rfl)) (pgs_cons (pg_name (i := 2) scBoth.nd rfl (Or.inl rfl)) pgs_nil)))
        (fun _ _ _ _ _ => pts_nil)
        (fun _ _ _ _ _ => pe_tup (pa_cons (pv 2) (pa_cons (pv 1) pa_nil))))) pa_nil)) pa_nil))), ?_⟩
    have hul := hus.length
    rw [List.length_map] at hul
    have hbd := PrOk.bd (n := 8) (by omega) (both_ok hok)
    refine ret_cb (cb1 ?_)
    refine ⟨.ref l, rfl, l, us, rfl, hl.imp sq_of st_of, fun l1 hl1 => ?_⟩
    have ex1 := Ex.new (o := .lst us) hl1
    have h11 : (upd H l1 (.lst us)) l1 = some (.lst us) := upd_same
    generalize upd H l1 (.lst us) = H1 at *
    have two : ∀ {i : Nat} {x : V}, us[i]? = some x → ∃ a, x = .ref a ∧ H1 a = some (.tup [.int ((prs.getD i []).getD 0 0), .int ((prs.getD i []).getD 1 0)]) := by
      intro i x hx
      obtain ⟨w, h1, h2⟩ := DqA.wds_inv hus hx
      obtain ⟨a, rfl, ha⟩ := wd_ref h2
      obtain ⟨u, v, rfl, _⟩ := hok w (List.mem_of_getElem? h1)
      refine ⟨a, rfl, ?_⟩
      rw [List.getD_eq_getElem?_getD (l := prs), h1]
      exact ex1 _ _ ha
    rcases hl.mono ex1 with h11l | h11l
    · refine ⟨.ref l, rfl, l, rfl, .inl ⟨⟨us, sq_of h11l⟩, fun D hD => ?_⟩⟩
      refine grow_lc2 (K := K) (fun i => .int ((prs.getD i []).getD 0 0)) (fun i => .int ((prs.getD i []).getD 1 0)) ((walk_list (K := K) (a := l) (xs := us)).mono (fun H h => h) fun i H' x H'' hi _ y => ⟨y.1, two y.2⟩) (tupY_good fun i => (swW (prs.getD i [])).map V.int) hD (by omega)
        (fun H' e => sq_of (e _ _ h11l)) (fun x y => rfl) (fun i H' e hi => ?_) (fun us2 H2 e2 hd g => ?_)
      · intro H3 e3 Q3 q
        exact ⟨_, rfl, _, rfl, by show 2 ≤ sizeLine; decide, fun p hp => q _ _ (Ex.new hp) ⟨p, rfl, upd_same⟩⟩
      · obtain ⟨ks2, k1, k2, k3⟩ := grown_ks g
        subst k1
        rw [upTo_all, hul, range_sw] at k2
        have e2' := ex1.trans e2
        obtain ⟨ks1, j1, j2, j3⟩ := wds_ks (hus.mono e2')
        have l1' : ks1.length = prs.length := by rw [← j2, List.length_map]
        have l2 : ks2.length = prs.length := by
          have := congrArg List.length k2
          simpa using this
        refine ⟨l1, D, us, _, rfl, rfl, e2 _ _ h11, hd, by rw [List.length_map, sizeLine_eq]; omega, fun t ht => ?_⟩
        have et := Ex.new (o := .lst (us ++ ks2.map fun p => V.ref p.1)) ht
        have htt : (upd H2 t (.lst (us ++ ks2.map fun p => V.ref p.1))) t = some (.lst ((ks1 ++ ks2).map fun p => V.ref p.1)) := by
          rw [upd_same, List.map_append, ← j1]
        generalize upd H2 t (.lst (us ++ ks2.map fun p => V.ref p.1)) = H3 at *
        have hm3 : ∀ p ∈ ks1 ++ ks2, H3 p.1 = some (.tup (p.2.map V.int)) := fun p hp => by
          rcases List.mem_append.mp hp with z | z
          · exact et _ _ (j3 p z)
          · exact et _ _ (k3 p z)
        have hmem : ∀ p, p ∈ (ks1 ++ ks2).map (·.2) ↔ p ∈ prs ++ prs.map swW := by
          intro p
          rw [List.map_append, j2, k2]
        refine ⟨t, ks1 ++ ks2, rfl, sq_of htt, fun p hp => st_of (hm3 p hp), by rw [List.length_append]; omega, fun a L ha h1 h2 => ?_⟩
        have ea := Ex.new (o := SetTO P w a L) ha
        refine ⟨a, L, 2, 64, rfl, upd_same, fun p hp => st_of (ea _ _ (hm3 p (h1 p hp))), by decide, fun p hp => ?_, fun L' p pm nd l64 pw hp => ?_⟩
        · obtain ⟨u, v', hu', hv', ep⟩ := hbd p.2 ((hmem _).mp (List.mem_map.mpr ⟨p, h1 p hp, rfl⟩))
          rw [ep]
          refine ⟨rfl, fun m hm => ?_⟩
          rcases List.mem_cons.mp hm with z | z
          · omega
          · rcases List.mem_cons.mp z with z | z
            · omega
            · cases z
        · have eM : L'.map (·.2) = joinW prs := by
            refine asc_unique hbd (fun q => ?_) nd (List.pairwise_map.mpr pw)
            rw [← hmem]
            constructor
            · intro hq
              obtain ⟨r, hr', rfl⟩ := List.mem_map.mp hq
              exact List.mem_map.mpr ⟨r, h1 r (pm.mem_iff.mp hr'), rfl⟩
            · intro hq
              obtain ⟨r, hr', rfl⟩ := List.mem_map.mp hq
              obtain ⟨r2, hr2, e⟩ := List.mem_map.mp (h2 r hr')
              exact List.mem_map.mpr ⟨r2, pm.mem_iff.mpr hr2, e⟩
          have ep := Ex.new (o := .lst (L'.map fun q => V.ref q.1)) hp
          refine k _ p _ ((e2'.trans et).trans (ea.trans ep)) (fresh_back ((e2'.trans et).trans ea) hp) upd_same ?_
          rw [← eM]
          exact ks_wds fun q hq => ep _ _ (ea _ _ (hm3 q (h1 q (pm.mem_iff.mp hq))))
    · refine ⟨.ref l, rfl, l, rfl, .inr ⟨⟨us, st_of h11l⟩, fun D hD => ?_⟩⟩
      refine grow_lc2 (K := K) (fun i => .int ((prs.getD i []).getD 0 0)) (fun i => .int ((prs.getD i []).getD 1 0)) ((walk_tup (K := K) (a := l) (xs := us)).mono (fun H h => h) fun i H' x H'' hi _ y => ⟨y.1, two y.2⟩) (tupY_good fun i => (swW (prs.getD i [])).map V.int) hD (by omega)
        (fun H' e => st_of (e _ _ h11l)) (fun x y => rfl) (fun i H' e hi => ?_) (fun us2 H2 e2 hd g => ?_)
      · intro H3 e3 Q3 q
        exact ⟨_, rfl, _, rfl, by show 2 ≤ sizeLine; decide, fun p hp => q _ _ (Ex.new hp) ⟨p, rfl, upd_same⟩⟩
      · obtain ⟨ks2, k1, k2, k3⟩ := grown_ks g
        subst k1
        rw [upTo_all, hul, range_sw] at k2
        have e2' := ex1.trans e2
        obtain ⟨ks1, j1, j2, j3⟩ := wds_ks (hus.mono e2')
        have l1' : ks1.length = prs.length := by rw [← j2, List.length_map]
        have l2 : ks2.length = prs.length := by
          have := congrArg List.length k2
          simpa using this
        refine ⟨l1, D, us, _, rfl, rfl, e2 _ _ h11, hd, by rw [List.length_map, sizeLine_eq]; omega, fun t ht => ?_⟩
        have et := Ex.new (o := .lst (us ++ ks2.map fun p => V.ref p.1)) ht
        have htt : (upd H2 t (.lst (us ++ ks2.map fun p => V.ref p.1))) t = some (.lst ((ks1 ++ ks2).map fun p => V.ref p.1)) := by
          rw [upd_same, List.map_append, ← j1]
        generalize upd H2 t (.lst (us ++ ks2.map fun p => V.ref p.1)) = H3 at *
        have hm3 : ∀ p ∈ ks1 ++ ks2, H3 p.1 = some (.tup (p.2.map V.int)) := fun p hp => by
          rcases List.mem_append.mp hp with z | z
          · exact et _ _ (j3 p z)
          · exact et _ _ (k3 p z)
        have hmem : ∀ p, p ∈ (ks1 ++ ks2).map (·.2) ↔ p ∈ prs ++ prs.map swW := by
          intro p
          rw [List.map_append, j2, k2]
        refine ⟨t, ks1 ++ ks2, rfl, sq_of htt, fun p hp => st_of (hm3 p hp), by rw [List.length_append]; omega, fun a L ha h1 h2 => ?_⟩
        have ea := Ex.new (o := SetTO P w a L) ha
        refine ⟨a, L, 2, 64, rfl, upd_same, fun p hp => st_of (ea _ _ (hm3 p (h1 p hp))), by decide, fun p hp => ?_, fun L' p pm nd l64 pw hp => ?_⟩
        · obtain ⟨u, v', hu', hv', ep⟩ := hbd p.2 ((hmem _).mp (List.mem_map.mpr ⟨p, h1 p hp, rfl⟩))
          rw [ep]
          refine ⟨rfl, fun m hm => ?_⟩
          rcases List.mem_cons.mp hm with z | z
          · omega
          · rcases List.mem_cons.mp z with z | z
            · omega
            · cases z
        · have eM : L'.map (·.2) = joinW prs := by
            refine asc_unique hbd (fun q => ?_) nd (List.pairwise_map.mpr pw)
            rw [← hmem]
            constructor
            · intro hq
              obtain ⟨r, hr', rfl⟩ := List.mem_map.mp hq
              exact List.mem_map.mpr ⟨r, h1 r (pm.mem_iff.mp hr'), rfl⟩
            · intro hq
              obtain ⟨r, hr', rfl⟩ := List.mem_map.mp hq
              obtain ⟨r2, hr2, e⟩ := List.mem_map.mp (h2 r hr')
              exact List.mem_map.mpr ⟨r2, pm.mem_iff.mpr hr2, e⟩
          have ep := Ex.new (o := .lst (L'.map fun q => V.ref q.1)) hp
          refine k _ p _ ((e2'.trans et).trans (ea.trans ep)) (fresh_back ((e2'.trans et).trans ea) hp) upd_same ?_
          rw [← eM]
          exact ks_wds fun q hq => ep _ _ (ea _ _ (hm3 q (h1 q (pm.mem_iff.mp hq))))
/-! refuse_no_router -/
def spNoRt (CN : Addr) : Sp := fun vs H Q E => ∃ (n : Int) (v : V) (d : PyData), vs = [.int n, v] ∧ Dq H v d ∧ (isR n d = true → ∀ H', Ex H H' → Q .non H') ∧ (isR n d = false → ∀ dx H', H dx = none → Ex H H' → H' dx = some (.xd [("router", v)]) → E (.ref CN) (some dx) H')
theorem ok_noRt (TN : ErrF P w K mg base "NoRouter" CN "router") (C : Cal P w K mg base "is_router" ["size", "thing"] 3 spRouter) (F : FnP K "refuse_no_router" sRNR f fd) : FnOk P w K mg base (L2.CX P w) 4 f fd ["size", "thing"] (spNoRt CN) := by
  refine F.ok scRNR (fun vs H Q E h => ?_) (fun cdv A outer s H vs Q E hr h => ?_)
  · obtain ⟨n, v, d, rfl, _⟩ := h
    rfl
  · obtain ⟨n, v, d, rfl, hd, kQ, kE⟩ := h
    have hr2 : Room 2 _ := hr.mono (by decide)
    refine ⟨_, pss_one (ps_if (pt_not (pt_val (pe_cal C hr (by rfl) (pa_cons (pv 0) (pa_cons (pv 1) pa_nil))))) (pss_one (ps_raise rfl (takes_of rfl rfl rfl rfl) (pmk_errF TN hr2 (by rfl) (pa_cons (pv 1) pa_nil)))) pss_nil), ?_⟩
    refine s_when (b := !isR n d) (et_not (et_B (ev_call (ea_cons (ev_var rfl) (ea_cons (ev_var rfl) ea_nil)) (spP_v fun H1 e => ⟨_, v, d, rfl, hd.mono e, rfl⟩)))) (fun hb H1 e => ?_) (fun hb H1 e => ?_)
    · exact mk_errF (ev_var rfl) fun dx H' h0 e' hx => kE (by simpa using hb) dx H' (fresh_back e h0) (e.trans e') hx
    · exact kQ (by simpa using hb) H1 e
def spBook2 (CF CN : Addr) : Sp := fun vs H Q E => ∃ (G : Hp) (x pa la : Addr) (v : V) (n m : Nat) (B : Nat → Bk) (cs : Nat → Option Nat), vs = [.ref x, v] ∧ Ex G H ∧ FdA CF G H x pa la n m B cs ∧ n ≤ 8 ∧
  ((∃ r : Nat, v = .int (r : Int) ∧ r < n ∧ ∀ H' D kvs ks, Ex H H' → H D = none → H' D = some (.dK kvs) → BkD G kvs ks n (B r) → ks.Pairwise (· ≤ ·) → Q (.ref D) H') ∨ (∃ d, Dq H v d ∧ isR (n : Int) d = false ∧ ∀ dx H', H dx = none → Ex H H' → H' dx = some (.xd [("router", v)]) → E (.ref CN) (some dx) H'))
theorem ok_book2 (X : FX K CF) (hs : mg "sorted" = none) (CR : CalX P w K mg base "refuse_no_router" ["size", "thing"] 4 (spNoRt CN)) (F : FnM K "book" "Flood.book" sBook f fd) : FnOk P w K mg base (L2.CX P w) 5 f fd ["self", "router"] (spBook2 CF CN) := by
  obtain ⟨fR, fdR, FR, gR, kR, bR⟩ := CR.ex
  refine F.ok scBook (fun vs H Q E h => ?_) (fun cdv A outer s H vs Q E hr h => ?_)
  · obtain ⟨G, x, pa, la, v, n, m, B, cs, rfl, _⟩ := h
    rfl
  · obtain ⟨G, x, pa, la, v, n, m, B, cs, rfl, eG, hF, hn, hv⟩ := h
    have hu : (A.deeper (envOfC "Flood.book" (defScope sBook) s.heap.objs.size f cdv)).units + 1 < cLine := by have := hr.un; omega
    refine ⟨_, pss_cons (ps_expr (pe_call FR hr (by rfl) gR kR bR .nil (passes_call (takes_of rfl rfl rfl rfl) (fun _ _ _ _ h => h)) (pa_cons (pe_fld (pv 0) rfl) (pa_cons (pv 1) pa_nil))))
      (pss_cons (ps_set (i := 2) scBook.nd rfl (Or.inr rfl) (pe_ix ix_tup (pe_ix ix_tup (pe_fld (pv 0) rfl) pe_int (fun _ _ => rfl)) (pv 1) (fun _ _ => rfl)))
      (pss_one (ps_ret (pe_dc (own := [("key", 3)]) (g := gName 3) (tt := tYes) (tk := tVar 3) (tv := tDGet (tVar 2) (tVar 3)) rfl scBook.nd (pi_list (pe_callB (call_sortedDI rfl) (by rfl) hs boot_sorted (pa_cons (pv 2) pa_nil))) (blkOk_by (N := nBook) (sc := defScope sBook) (by decide +kernel))
        (fun _ _ _ _ _ => pg_name (i := 3) scBook.nd rfl (Or.inl rfl)) (fun _ _ _ _ _ => pts_nil) (fun _ _ _ _ _ => pv 3) (fun _ _ _ _ _ => pe_dget hu (pv 2) (pv 3) (fun _ _ => rfl)))))), ?_⟩
    obtain ⟨dx, fs, st, hx, ff, tb, tc, bs, g1, g2, g3, hB⟩ := hF.ob
    rcases hv with ⟨r, rfl, hrn, k⟩ | ⟨d, hd, hb, k⟩
    rotate_left
    · exact ⟨.ref x, rfl, x, CF, dx, fs, _, rfl, hx, X.cl, X.nZ, ff.sz, v, rfl, (n : Int), v, d, rfl, hd, (fun z => by rw [hb] at z; cases z), fun _ dy H' h0 e' hy => k dy H' h0 e' hy⟩
    refine ⟨.ref x, rfl, x, CF, dx, fs, _, rfl, hx, X.cl, X.nZ, ff.sz, .int (r : Int), rfl, (n : Int), _, .int (r : Int), rfl, .int _, fun _ H1 e1 => ?_, fun z => by rw [isR_yes hrn] at z; cases z⟩
    obtain ⟨a, hba, kvs, ks, ha, hbk⟩ := hB.at_ r hrn
    have eG1 := eG.trans e1
    refine ⟨.ref x, rfl, x, CF, dx, fs, _, rfl, e1 _ _ hx, X.cl, X.nS, ff.st, st, _, 0, .ref tb, rfl, rfl, st_of (eG1 _ _ g1), atI_nat (j := 0) rfl, .int (r : Int), rfl, tb, bs, (r : Int), .ref a, rfl, rfl, st_of (eG1 _ _ g2), atI_nat hba, ?_⟩
    refine g_name ?_
    dsimp only
    change tRet _ _ [some (.ref x), some (.int (r : Int)), some (.ref a), none] H1
    have hl := hbk.len
    refine ⟨.ref a, rfl, a, kvs, ks, rfl, .inl (eG1 _ _ ha), hbk.nk.1, by omega, fun ys L pm pw hL => ?_⟩
    have exL := Ex.new (o := .lst (ys.map V.int)) hL
    have hLL : (upd H1 L (.lst (ys.map V.int))) L = some (.lst (ys.map V.int)) := upd_same
    generalize upd H1 L (.lst (ys.map V.int)) = H2 at *
    refine ⟨L, rfl, ⟨_, sq_of hLL⟩, fun D hD => ?_⟩
    have haL := exL _ _ (eG1 _ _ ha)
    refine dc_it (H := H2) (ks := ys) (fun _ => true) (fun k => (valV kvs (.inl k)).getD .non) walk_ints hD (by rw [pm.length_eq]; omega) (fun H' e => sq_of (e _ _ hLL)) (fun x => rfl) (by show 3 < 4; decide) (fun k hk H' e => et_yes) (fun k hk _ H' e => ?_) fun H' e hD5 => ?_
    · obtain ⟨v, hv⟩ := (hbk.nk.mem k).mp (pm.mem_iff.mp hk)
      rw [hv]
      exact ev_dget (kvs := kvs) (ev_var rfl) (ev_var rfl) (.inl (e _ _ haL)) hv
    · rw [filter_yes] at hD5
      exact k H' D _ ys ((e1.trans exL).trans e) (fresh_back (e1.trans exL) hD) hD5 (book_of hbk pm) pw
def spCont2 (CF CN : Addr) : Sp := fun vs H Q E => ∃ (G : Hp) (x pa la : Addr) (v : V) (n m : Nat) (B : Nat → Bk) (cs : Nat → Option Nat), vs = [.ref x, v] ∧ Ex G H ∧ FdA CF G H x pa la n m B cs ∧ n ≤ 8 ∧
  ((∃ r : Nat, v = .int (r : Int) ∧ r < n ∧ ∀ H', Ex H H' → Q (oV (cs r)) H') ∨ (∃ d, Dq H v d ∧ isR (n : Int) d = false ∧ ∀ dx H', H dx = none → Ex H H' → H' dx = some (.xd [("router", v)]) → E (.ref CN) (some dx) H'))
theorem ok_cont2 (X : FX K CF) (CR : CalX P w K mg base "refuse_no_router" ["size", "thing"] 4 (spNoRt CN)) (F : FnM K "content" "Flood.content" sCont f fd) : FnOk P w K mg base (L2.CX P w) 5 f fd ["self", "router"] (spCont2 CF CN) := by
  obtain ⟨fR, fdR, FR, gR, kR, bR⟩ := CR.ex
  refine F.ok scCont (fun vs H Q E h => ?_) (fun cdv A outer s H vs Q E hr h => ?_)
  · obtain ⟨G, x, pa, la, v, n, m, B, cs, rfl, _⟩ := h
    rfl
  · obtain ⟨G, x, pa, la, v, n, m, B, cs, rfl, eG, hF, hn, hv⟩ := h
    refine ⟨_, pss_cons (ps_expr (pe_call FR hr (by rfl) gR kR bR .nil (passes_call (takes_of rfl rfl rfl rfl) (fun _ _ _ _ h => h)) (pa_cons (pe_fld (pv 0) rfl) (pa_cons (pv 1) pa_nil))))
      (pss_one (ps_ret (pe_ix ix_tup (pe_ix ix_tup (pe_fld (pv 0) rfl) pe_int (fun _ _ => rfl)) (pv 1) (fun _ _ => rfl)))), ?_⟩
    obtain ⟨dx, fs, st, hx, ff, tb, tc, bs, g1, g2, g3, hB⟩ := hF.ob
    rcases hv with ⟨r, rfl, hrn, k⟩ | ⟨d, hd, hb, k⟩
    rotate_left
    · exact ⟨.ref x, rfl, x, CF, dx, fs, _, rfl, hx, X.cl, X.nZ, ff.sz, v, rfl, (n : Int), v, d, rfl, hd, (fun z => by rw [hb] at z; cases z), fun _ dy H' h0 e' hy => k dy H' h0 e' hy⟩
    refine ⟨.ref x, rfl, x, CF, dx, fs, _, rfl, hx, X.cl, X.nZ, ff.sz, .int (r : Int), rfl, (n : Int), _, .int (r : Int), rfl, .int _, fun _ H1 e1 => ?_, fun z => by rw [isR_yes hrn] at z; cases z⟩
    have eG1 := eG.trans e1
    exact ⟨.ref x, rfl, x, CF, dx, fs, _, rfl, e1 _ _ hx, X.cl, X.nS, ff.st, st, _, 1, .ref tc, rfl, rfl, st_of (eG1 _ _ g1), atI_nat (j := 1) rfl, .int (r : Int), rfl, tc, _, (r : Int), oV (cs r), rfl, rfl, st_of (eG1 _ _ g3), atI_nat (cV_at hrn), k H1 e1⟩
def spInit2 (CF CB : Addr) : Sp := fun vs H Q E => ∃ (G : Hp) (x dx : Addr) (v1 v2 : V), vs = [.ref x, v1, v2] ∧ H x = some (.ins CF dx []) ∧ Ex G H ∧ G x = none ∧
  ((∃ (l : Addr) (n : Nat) (us : List V) (prs : List Wy), v1 = .int (n : Int) ∧ v2 = .ref l ∧ Row H l us ∧ DqA G us (prs.map wd) ∧ (∀ p ∈ prs, PrOk n p) ∧ prs.length ≤ 22 ∧ 1 ≤ n ∧ n ≤ 8 ∧
    ∀ G' H' pa la us', Ex G G' → Ex G' H' → (∀ b u, b ≠ x → H b = some u → H' b = some u) → (∀ b u, G b = none → H b = some u → (∀ xs, u ≠ .tup xs) → G' b = none) → H pa = none → FdA CF G' H' x pa la n 0 (fun _ _ => none) (fun _ => none) → G' la = some (.lst us') → DqA G' us' ((joinW prs).map wd) → Q .non H') ∨
   (∃ d1 d2 s, Dq H v1 d1 ∧ Tg H v2 d2 ∧ (itemsR d2).length ≤ 1000 ∧ fdue d1 d2 = some s ∧ ∀ dy H', H dy = none → Ex H H' → H' dy = some (.xd [("part", .str s)]) → E (.ref CB) (some dy) H'))
theorem ok_init2 (X : FX K CF) (CW : CalX P w K mg base "refuse_wrong_flood" ["size", "links"] 6 (spRWF2 CB)) (CBw : Cal P w K mg base "both_ways" ["links"] 1 spPairs2) (F : FnM K "__init__" "Flood.__init__" sInit f fd) : FnOk P w K mg base (L2.CX P w) 7 f fd nInit (spInit2 CF CB) := by
  obtain ⟨fR, fdR, FR, gR, kR, bR⟩ := CW.ex
  refine F.ok scInit (fun vs H Q E h => ?_) (fun cdv A outer s H vs Q E hr h => ?_)
  · obtain ⟨G, x, dx, v1, v2, rfl, _⟩ := h
    rfl
  · obtain ⟨G, x, dx, v1, v2, rfl, hx, eG, gx, hv⟩ := h
    refine ⟨_, pss_cons (ps_expr (pe_call FR hr (by rfl) gR kR bR .nil (passes_call (takes_of rfl rfl rfl rfl) (fun _ _ _ _ h => h)) (pa_cons (pv 1) (pa_cons (pv 2) pa_nil))))
      (pss_cons (ps_fld (pv 0) (pv 1) rfl)
      (pss_cons (ps_fld (pv 0) (pe_cal CBw hr (by rfl) (pa_cons (pv 2) pa_nil)) rfl)
      (pss_cons (ps_fld (pv 0) (pe_tup (pa_cons (pe_op (op_repU (K := K) rfl) (pe_tup (pa_cons pe_dnewK pa_nil)) (pv 1)) (pa_cons (pe_op (op_repU (K := K) rfl) (pe_tup (pa_cons pe_non pa_nil)) (pv 1)) pa_nil))) rfl)
      (pss_cons (ps_fld (pv 0) pe_int rfl)
      (pss_one (ps_fld (pv 0) (pe_lst pa_nil) rfl)))))), ?_⟩
    rcases hv with ⟨l, n, us, prs, rfl, rfl, hl, hus, hok, hpl, hn1, hn8, k⟩ | ⟨d1, d2, s, hd1, hd2, hdl, hdue, k⟩
    rotate_left
    · exact ⟨v1, rfl, v2, rfl, v1, v2, d1, d2, rfl, hd1, hd2, hdl, (fun z => by rw [hdue] at z; cases z), fun s' hs' dy H' h0 e' hy => by
        rw [hdue] at hs'
        cases hs'
        exact k dy H' h0 e' hy⟩
    obtain ⟨d2, hd2, hdi, hdd⟩ := row_tg hl (hus.mono eG)
    have hdue := good_links hn1 hn8 hok hdd
    refine ⟨.int (n : Int), rfl, .ref l, rfl, .int (n : Int), .ref l, .int (n : Int), d2, rfl, .int _, hd2, by rw [hdi, List.length_map]; omega, fun _ H1 e1 => ?_, fun s hs => by rw [hdue] at hs; cases hs⟩
    have hprs8 : ∀ w ∈ prs, PrOk 8 w := fun w hw => by
      obtain ⟨u, v, e, h1, h2, h3⟩ := hok w hw
      exact ⟨u, v, e, by omega, by omega, h3⟩
    have eG1 := eG.trans e1
    refine ⟨.int (n : Int), rfl, .ref x, rfl, x, CF, dx, [], rfl, e1 _ _ hx, X.cl, X.nZ, by decide, ?_⟩
    have off2 : ∀ b u, b ≠ x → H b = some u → (upd H1 x (.ins CF dx (putF "_size" (.int (n : Int)) []))) b = some u := fun b u hb hh => by rw [upd_ne hb]; exact e1 _ _ hh
    have eG2 : Ex G (upd H1 x (.ins CF dx (putF "_size" (.int (n : Int)) []))) := Ex.mut eG1 gx
    have hx2 : (upd H1 x (.ins CF dx (putF "_size" (.int (n : Int)) []))) x = some (.ins CF dx (putF "_size" (.int (n : Int)) [])) := upd_same
    generalize upd H1 x (.ins CF dx (putF "_size" (.int (n : Int)) [])) = H2 at *
    have lx : l ≠ x := fun z => by
      rw [z] at hl
      rcases hl with hl | hl <;> (rw [hx] at hl; cases hl)
    have hl2 := hl.imp (off2 _ _ lx) (off2 _ _ lx)
    refine ⟨.ref l, rfl, l, us, prs, rfl, hl2, hus.mono eG2, hprs8, hpl, fun H3 la us' e3 nla hla husa => ?_⟩
    have hx3 := e3 _ _ hx2
    refine ⟨.ref x, rfl, x, CF, dx, _, rfl, hx3, X.cl, X.nA, ?_, ?_⟩
    · exact Nat.lt_of_le_of_lt (len_putF _ _ _) (by decide)
    have xla : la ≠ x := fun z => by rw [z, hx2] at nla; cases nla
    obtain ⟨ks, k1, k2, k3⟩ := wds_ks husa
    have o3 : Of1 x H H3 := fun b u hb hh => e3 _ _ (off2 b u hb hh)
    have nla0 : H la = none := by
      cases e : H la with
      | none => rfl
      | some u => rw [off2 la u xla e] at nla; cases nla
    have xks : ∀ p ∈ ks, p.1 ≠ x := fun p hp z => by
      have := k3 p hp
      rw [z, hx3] at this
      cases this
    have eG4 : Ex G (upd H3 x (.ins CF dx (putF "_arrows" (.ref la) (putF "_size" (.int (n : Int)) [])))) := Ex.mut (eG2.trans e3) gx
    have hx4 : (upd H3 x (.ins CF dx (putF "_arrows" (.ref la) (putF "_size" (.int (n : Int)) [])))) x = some (.ins CF dx (putF "_arrows" (.ref la) (putF "_size" (.int (n : Int)) []))) := upd_same
    have o4 := o3.trans (Of1.upd x H3 (.ins CF dx (putF "_arrows" (.ref la) (putF "_size" (.int (n : Int)) []))))
    have hla4 := Of1.upd x H3 (.ins CF dx (putF "_arrows" (.ref la) (putF "_size" (.int (n : Int)) []))) la _ xla hla
    have k34 : ∀ p ∈ ks, (upd H3 x (.ins CF dx (putF "_arrows" (.ref la) (putF "_size" (.int (n : Int)) [])))) p.1 = some (.tup (p.2.map V.int)) := fun p hp => Of1.upd x H3 _ _ _ (xks p hp) (k3 p hp)
    have ln2 : (putF "_arrows" (.ref la) (putF "_size" (V.int (n : Int)) [])).length ≤ 2 := Nat.le_trans (len_putF _ _ _) (Nat.succ_le_succ (len_putF _ _ _))
    generalize upd H3 x (.ins CF dx (putF "_arrows" (.ref la) (putF "_size" (.int (n : Int)) []))) = H4 at *
    clear k3 hla hx3 o3 hx2 off2 nla e3
    intro D0 nD0
    refine ⟨by show 1 ≤ sizeLine; decide, fun T0 nT0 => ?_⟩
    have xD0 : D0 ≠ x := fun z => by rw [z, hx4] at nD0; cases nD0
    have nD00 := o4.back xD0 nD0
    have e45 := Ex.new (o := .dK []) nD0
    have e56 := Ex.new (o := .tup [V.ref D0]) nT0
    have hD6 := e56 _ _ (show (upd H4 D0 (.dK [])) D0 = some (.dK []) from upd_same)
    have hT6 : (upd (upd H4 D0 (.dK [])) T0 (.tup [V.ref D0])) T0 = some (.tup [V.ref D0]) := upd_same
    have e46 := e45.trans e56
    generalize upd (upd H4 D0 (.dK [])) T0 (.tup [V.ref D0]) = H6 at *
    have z1 := es_rep (K := K) (σ := [some (.ref x), some (.int (n : Int)), some (.ref l)]) (H := H6) (ta := tC (.ref T0)) (tb := tVar 1) (v := .ref D0) (n := n) (es_var ev_c hT6) (ev_var rfl) hn1 (by omega)
    refine z1 H6 (Ex.refl _) _ fun tb H7 e67 htb => ?_
    have z2 := es_rep (K := K) (σ := [some (.ref x), some (.int (n : Int)), some (.ref l)]) (H := H7) (ta := tTup (tCons (tC .non) tNil)) (tb := tVar 1) (v := .non) (n := n) (es_tup (xs := [.non]) (ea_cons ev_c ea_nil) (by show 1 ≤ 100000; decide)) (ev_var rfl) hn1 (by omega)
    refine z2 H7 (Ex.refl _) _ fun tc H8 e78 htc => ?_
    refine ⟨by show 2 ≤ sizeLine; decide, fun st nst => ?_⟩
    have e89 := Ex.new (o := .tup [V.ref tb, V.ref tc]) nst
    have hst : (upd H8 st (.tup [V.ref tb, V.ref tc])) st = some (.tup [V.ref tb, V.ref tc]) := upd_same
    have e49 := (e46.trans (e67.trans e78)).trans e89
    have htb9 := e89 _ _ (e78 _ _ htb)
    have htc9 := e89 _ _ htc
    have hD9 := e89 _ _ (e78 _ _ (e67 _ _ hD6))
    generalize upd H8 st (.tup [V.ref tb, V.ref tc]) = H9 at *
    have hx9 := e49 _ _ hx4
    refine ⟨.ref x, rfl, x, CF, dx, _, rfl, hx9, X.cl, X.nS, Nat.lt_of_le_of_lt ln2 (by decide), ?_⟩
    have o9 : Of1 x H H9 := o4.trans (Of1.ex e49)
    have ln3 : (putF "_state" (.ref st) (putF "_arrows" (.ref la) (putF "_size" (V.int (n : Int)) []))).length ≤ 3 := Nat.le_trans (len_putF _ _ _) (Nat.succ_le_succ ln2)
    have ln4 : (putF "many" (.int 0) (putF "_state" (.ref st) (putF "_arrows" (.ref la) (putF "_size" (V.int (n : Int)) [])))).length ≤ 4 := Nat.le_trans (len_putF _ _ _) (Nat.succ_le_succ ln3)
    refine ⟨.ref x, rfl, x, CF, dx, _, rfl, upd_same, X.cl, X.nM, Nat.lt_of_le_of_lt ln3 (by decide), ?_⟩
    have eB : Ex G H9 := eG4.trans e49
    have oB := Of1.trans (Of1.upd x H9 (.ins CF dx (putF "_state" (.ref st) (putF "_arrows" (.ref la) (putF "_size" (V.int (n : Int)) []))))) (Of1.upd x _ (.ins CF dx (putF "many" (.int 0) (putF "_state" (.ref st) (putF "_arrows" (.ref la) (putF "_size" (V.int (n : Int)) []))))))
    have hxB : (upd (upd H9 x (.ins CF dx (putF "_state" (.ref st) (putF "_arrows" (.ref la) (putF "_size" (V.int (n : Int)) []))))) x (.ins CF dx (putF "many" (.int 0) (putF "_state" (.ref st) (putF "_arrows" (.ref la) (putF "_size" (V.int (n : Int)) [])))))) x = some (.ins CF dx (putF "many" (.int 0) (putF "_state" (.ref st) (putF "_arrows" (.ref la) (putF "_size" (V.int (n : Int)) []))))) := upd_same
    have eGB : Ex G (upd (upd H9 x (.ins CF dx (putF "_state" (.ref st) (putF "_arrows" (.ref la) (putF "_size" (V.int (n : Int)) []))))) x (.ins CF dx (putF "many" (.int 0) (putF "_state" (.ref st) (putF "_arrows" (.ref la) (putF "_size" (V.int (n : Int)) [])))))) := Ex.mut (Ex.mut eB gx) gx
    generalize upd (upd H9 x (.ins CF dx (putF "_state" (.ref st) (putF "_arrows" (.ref la) (putF "_size" (V.int (n : Int)) []))))) x (.ins CF dx (putF "many" (.int 0) (putF "_state" (.ref st) (putF "_arrows" (.ref la) (putF "_size" (V.int (n : Int)) []))))) = HB at *
    refine ⟨by show 0 ≤ sizeLine; decide, fun pa npa => ?_⟩
    have xpa : pa ≠ x := fun z => by rw [z, hxB] at npa; cases npa
    have eC := Ex.new (o := .lst ([] : List V)) npa
    have hpC : (upd HB pa (.lst ([] : List V))) pa = some (.lst []) := upd_same
    refine ⟨.ref x, rfl, x, CF, dx, _, rfl, eC _ _ hxB, X.cl, X.nP, Nat.lt_of_le_of_lt ln4 (by decide), ?_⟩
    have oF : Of1 x H9 (upd (upd HB pa (.lst ([] : List V))) x (.ins CF dx (putF "_past" (.ref pa) (putF "many" (.int 0) (putF "_state" (.ref st) (putF "_arrows" (.ref la) (putF "_size" (V.int (n : Int)) []))))))) := (oB.trans (Of1.ex eC)).trans (Of1.upd x _ _)
    have hxF : (upd (upd HB pa (.lst ([] : List V))) x (.ins CF dx (putF "_past" (.ref pa) (putF "many" (.int 0) (putF "_state" (.ref st) (putF "_arrows" (.ref la) (putF "_size" (V.int (n : Int)) []))))))) x = some (.ins CF dx (putF "_past" (.ref pa) (putF "many" (.int 0) (putF "_state" (.ref st) (putF "_arrows" (.ref la) (putF "_size" (V.int (n : Int)) [])))))) := upd_same
    have hpF : (upd (upd HB pa (.lst ([] : List V))) x (.ins CF dx (putF "_past" (.ref pa) (putF "many" (.int 0) (putF "_state" (.ref st) (putF "_arrows" (.ref la) (putF "_size" (V.int (n : Int)) []))))))) pa = some (.lst []) := by rw [upd_ne xpa]; exact hpC
    have eGF : Ex G (upd (upd HB pa (.lst ([] : List V))) x (.ins CF dx (putF "_past" (.ref pa) (putF "many" (.int 0) (putF "_state" (.ref st) (putF "_arrows" (.ref la) (putF "_size" (V.int (n : Int)) []))))))) := Ex.mut (eGB.trans eC) gx
    have np9 : H9 pa = none := oB.back xpa npa
    have np0 : H pa = none := o9.back xpa np9
    dsimp only
    generalize upd (upd HB pa (.lst ([] : List V))) x (.ins CF dx (putF "_past" (.ref pa) (putF "many" (.int 0) (putF "_state" (.ref st) (putF "_arrows" (.ref la) (putF "_size" (V.int (n : Int)) [])))))) = HF at *
    have oH : Of1 x H HF := o9.trans oF
    have nx : ∀ {b u}, H9 b = some u → (∀ C d fs, u ≠ .ins C d fs) → b ≠ x := fun {b u} hb hu z => by
      rw [z, hx9] at hb
      cases hb
      exact hu _ _ _ rfl
    have npx : ∀ {b u}, H9 b = some u → b ≠ pa := fun {b u} hb z => by rw [z, np9] at hb; cases hb
    have tupF : ∀ {b xs}, H9 b = some (.tup xs) → NewG G H HF x pa b = some (.tup xs) := fun {b xs} hb => by
      have h1 := nx hb (fun _ _ _ z => by cases z)
      exact newG_tup oH h1 (npx hb) (oF _ _ h1 hb)
    have hla9 := e49 _ _ hla4
    refine k (NewG G H HF x pa) HF pa la us' (newG_ex eG eGF gx np0) (newG_sub eGF) oH (fun b u hb hh hn => newG_nw hb hh hn) np0 ⟨⟨dx, _, st, hxF, ?_, tb, tc, _, tupF hst, tupF htb9, ?_, ?_⟩, ⟨[], hpF, Nat.le_refl _⟩, ?_, ?_, Ne.symm xpa⟩ ?_ ?_
    · refine ⟨?_, ?_, ?_, ?_, lk_putS, ?_, ?_, ?_, ?_, ?_, ?_, Nat.le_trans (len_putF _ _ _) (Nat.le_trans (Nat.succ_le_succ ln4) (by decide))⟩
      · rw [lk_putF (by decide +kernel), lk_putF (by decide +kernel), lk_putF (by decide +kernel), lk_putF (by decide +kernel)]
        exact lk_putS
      · rw [lk_putF (by decide +kernel), lk_putF (by decide +kernel), lk_putF (by decide +kernel)]
        exact lk_putS
      · rw [lk_putF (by decide +kernel), lk_putF (by decide +kernel)]
        exact lk_putS
      · rw [lk_putF (by decide +kernel)]
        exact lk_putS
      all_goals
        rw [lk_putF (by decide +kernel), lk_putF (by decide +kernel), lk_putF (by decide +kernel), lk_putF (by decide +kernel), lk_putF (by decide +kernel)]
        rfl
    · rw [← cV_none]
      exact tupF htc9
    · refine ⟨List.length_replicate, fun r hr => ⟨D0, ?_, [], [], ?_, BkD.nil _ n⟩⟩
      · rw [List.getElem?_replicate, if_pos hr]
      · rw [newG_new xD0 (npx hD9) nD00]
        exact oF _ _ xD0 hD9
    · unfold NewG
      rw [if_pos (.inl rfl)]
    · unfold NewG
      rw [if_pos (.inr rfl)]
    · rw [newG_new xla (npx hla9) nla0]
      exact oF _ _ xla hla9
    · rw [k1, ← k2]
      exact ks_wds fun q hq => tupF (e49 _ _ (k34 q hq))
end
end Wk

set_option Elab.async false
set_option linter.all false
set_option maxRecDepth 100000
set_option maxHeartbeats 2000000
namespace Wk
open PySem PySem.Spec PyProof.Rows L2 Evl
/-! chains -/
/-- going on by passes: where it leads -/
def fol (ds : List Deed) : Int → List Int → Option Int
  | h, [] => some h
  | h, i :: r => match ds[i.toNat]? with
    | some (.pas a b) => if (a : Int) = h then fol ds (b : Int) r else none
    | _ => none
theorem fol_snoc {ds : List Deed} {k : Nat} {a b : Nat} (hk : ds[k]? = some (.pas a b)) : ∀ {r : List Int} {h : Int}, fol ds h r = some (a : Int) → fol ds h (r ++ [(k : Int)]) = some (b : Int)
  | [], h, e => by
    have e' : h = (a : Int) := by simpa [fol] using e
    subst e'
    simp [fol, hk]
  | i :: r, h, e => by
    unfold fol at e
    show fol ds h (i :: (r ++ [(k : Int)])) = _
    unfold fol
    split at e
    · rename_i x y hx
      split at e
      · rename_i hxh
        rw [if_pos hxh]
        exact fol_snoc hk e
      · cases e
    · cases e
/-- a chain as built: where it began, where it leads -/
structure ChB (ds : List Deed) (cs : List Int) (i : Nat) (r : List Int) (x y : Nat) (e : Int) : Prop where
  eq : cs = (i : Int) :: r
  at_ : ds[i]? = some (.wri x y)
  asc : cs.Pairwise (· < ·)
  rg : ∀ z ∈ cs, 0 ≤ z ∧ z < ds.length
  fo : fol ds (x : Int) r = some e
theorem if_and {a : Bool} {t u : TT} {tu tw : TS} {D : Ends} {σ : L2.St} {H : Hp} (h1 : EvT t σ H a) (hF : a = false → ∀ H1, Ex H H1 → tw D σ H1) (hT : a = true → ∀ H1, Ex H H1 → tIfS u tu tw D σ H1) : tIfS (tAnd t u) tu tw D σ H :=
  h1 H (Ex.refl _) _ fun H1 e1 => by
    cases a with
    | true => exact hT rfl H1 e1
    | false => exact hF rfl H1 e1
theorem deeds_at {G : Hp} {us : List V} {ds : List Deed} (h : DqA G us (ds.map Deed.d)) {i : Nat} (hi : i < ds.length) : ∃ t, us[i]? = some (.ref t) ∧ G t = some (.tup ds[i].vs) := by
  obtain ⟨v, h1, h2⟩ := h.at (i := i) (d := ds[i].d) (by rw [List.getElem?_map, List.getElem?_eq_getElem hi]; rfl)
  obtain ⟨t, rfl, ht⟩ := Deed.inv h2
  exact ⟨t, h1, ht⟩
theorem given_ints (n : Nat) (f : Nat → Bool) : given n f (fun i => .int (i : Int)) = (((List.range n).filter f).map fun (i : Nat) => (i : Int)).map V.int := by
  unfold given
  rw [List.map_map]
  rfl
end Wk

set_option Elab.async false
set_option linter.all false
set_option maxRecDepth 100000
set_option maxHeartbeats 2000000
namespace Wk
open PySem PySem.Spec PyProof.Rows L2 Evl
/-! x[i], len(x), x[a:b] of a list or a tuple -/
def rIxR (K : PySem.W.Frag) : R2 := fun x y H Q => rIxL K x y H Q ∨ rIxT K x y H Q
theorem ix_row {X : Cx} {K : PySem.W.Frag} (hK : X.K = K) : IxR X (rIxR K) := by
  subst hK
  intro value slice pins s σ H x y v u Q I rx ry h hs
  rcases h with h | h
  · exact ix_list value slice pins s σ H x y v u Q I rx ry h hs
  · exact ix_tup value slice pins s σ H x y v u Q I rx ry h hs
theorem rv_ixR {K : PySem.W.Frag} {H : Hp} {p : Addr} {xs : List V} {i : Int} {v : V} (h : Row H p xs) (ha : atI xs i = some v) : RV (rIxR K) (.ref p) (.int i) H v := fun H1 e Q q => h.elim (fun h => .inl (rv_ixL (sq_of h) ha H1 e Q q)) (fun h => .inr (rv_ixT (st_of h) ha H1 e Q q))
theorem ev_lenR {K : PySem.W.Frag} {σ : L2.St} {H : Hp} {ta : TE} {a : Addr} {xs : List V} (h : Ev ta σ H (.ref a)) (hx : Row H a xs) : Ev (tCB (rLenS K) (tCons ta tNil)) σ H (.int (xs.length : Int)) := by
  rcases hx with hx | hx
  · exact ev_len h (sq_of hx)
  · exact ev_lenT h (st_of hx)
end Wk

set_option Elab.async false
set_option linter.all false
set_option maxRecDepth 100000
set_option maxHeartbeats 4000000
namespace Wk
open PySem PySem.Spec PyProof.Rows L2 Evl
/-! sorted of a tuple of ints -/
section
variable {prog : Program} {w : World} {A : Around} {E : Value → Shared → Prop} {s : Shared}
theorem collect_tupS {l : Addr} {vs : List Value} {Q : List Value → Shared → Prop} (hl : s.heap.IsTuple l vs.toArray)
    (h : Q vs { s with heap := (s.heap.push (seqObj "list" #[] 0)).update s.heap.objs.size (Obj.mapSeq (· ++ vs.toArray)) }) (hsz : vs.length ≤ sizeLine) :
    wpAny (model prog w) A (collect (.ref l)) Q E s := by
  obtain ⟨o, ho, hc, n, hd⟩ := id hl
  unfold collect
  refine wpAny_bind (wpAny_runValue (codeAny_builtin entry_proto_collect' ?_))
  show wpAny _ _ (do again (.builtin "list.__iadd__" ⟨[← newList [], .ref l], []⟩)) _ _ s
  refine wpAny_bind (wpAny_newList (wpAny_pure ⟨Code.quiet_builtin _ (by decide +kernel), codeAny_builtin entry_list_iadd' ?_⟩))
  show wpAny _ _ (Builtin.List.listExtendWith (.ref s.heap.objs.size) (.ref l) (.ref s.heap.objs.size)) _ _ { s with heap := s.heap.push (seqObj "list" #[] 0) }
  unfold Builtin.List.listExtendWith
  have ho' : (s.heap.push (seqObj "list" #[] 0)).get? l = some o := Heap.get?_push_of_some _ ho
  refine wpAny_bind (wpAny_typeOf (T := "tuple") ⟨o, ho', hc⟩ ?_)
  have ht : (Value.type "tuple" == Value.type "tuple") = true := by rfl
  rw [if_pos (by rw [ht]; simp)]
  refine wpAny_bind (listItems_at ho' hd ?_)
  refine wpAny_bind (listItems_at (xs := #[]) (n := 0) (Heap.get?_push_size _ rfl) rfl ?_)
  rw [if_neg (by simp)]
  refine wpAny_bind (listUpdate_at (xs := #[]) (n := 0) (Heap.get?_push_size _ rfl) rfl ?_ (Nat.zero_le _) (by show (#[] ++ vs.toArray).size ≤ sizeLine + 1; simp only [Array.size_append, List.size_toArray, List.length_nil]; omega))
  refine wpAny_pure ?_
  show wpAny (model prog w) A (do
      let o ← load s.heap.objs.size
      match o.data with
      | .seq xs _ => pure xs.toList
      | _ => unsupported "internal:collect") Q E { s with heap := (s.heap.push (seqObj "list" #[] 0)).update s.heap.objs.size (Obj.mapSeq (· ++ vs.toArray)) }
  refine wpAny_bind (wpAny_load (get?_update_seq (Heap.get?_push_size _ rfl) _) ?_)
  show wpAny _ _ (pure ((#[] : Array Value) ++ vs.toArray).toList) Q E _
  rw [show ((#[] : Array Value) ++ vs.toArray).toList = vs by simp]
  exact wpAny_pure h
theorem sorted_intsT {l : Addr} {vs : List Value} {ns : List Int} {Q : Value → Shared → Prop} (hl : s.heap.IsTuple l vs.toArray) (hI : IntsAre vs ns) (h64 : vs.length < 64)
    (h : ∀ (out : Array Value) (ns' : List Int), IntsAre out.toList ns' → ns'.Perm ns → ns'.Pairwise (· ≤ ·) → Q (.ref (s.heap.objs.size + 1)) { s with heap := sortedAll s.heap vs out }) :
    wpAny (model prog w) A (call (.builtin "sorted") [.ref l]) Q E s := by
  refine Calls.call_function_entry kind_sorted plain_sorted entry_sorted (args_sorted1 _) ?_
  unfold Builtin.«sorted»
  refine wpAny_bind (m := checkCount "sorted" 1 1 _) (wpAny_pure ?_)
  refine wpAny_bind (collect_tupS hl ?_ (by rw [sizeLine_eq]; omega))
  refine wpAny_bind (wpAny_newList ?_)
  have hsz : ((s.heap.push (seqObj "list" #[] 0)).update s.heap.objs.size (Obj.mapSeq (· ++ vs.toArray))).objs.size = s.heap.objs.size + 1 := by
    rw [Heap.size_update, size_push']
  have hoL : (((s.heap.push (seqObj "list" #[] 0)).update s.heap.objs.size (Obj.mapSeq (· ++ vs.toArray))).push (seqObj "list" vs.toArray 0)).get? (s.heap.objs.size + 1) = some (seqObj "list" vs.toArray 0) := by
    rw [← hsz]; exact Heap.get?_push_size _ rfl
  show wpAny _ _ _ _ _ { s with heap := ((s.heap.push (seqObj "list" #[] 0)).update s.heap.objs.size (Obj.mapSeq (· ++ vs.toArray))).push (seqObj "list" vs.toArray 0) }
  rw [hsz]
  refine wpAny_bind (wpAny_holding (wpAny_call_entry slot_list_sort ⟨_, hoL, rfl⟩ entry_list_sort (list_sort_tree hoL hI h64 fun out ns' a1 a2 a3 => ⟨_, rfl, ?_⟩) (args_list_sort _)))
  exact wpAny_pure ⟨_, rfl, h out ns' a1 a2 a3⟩
end
def rSortedTu (K : PySem.W.Frag) : List V → Hp → VK → Prop := fun vs H Q => ∃ (a : Addr) (ns : List Int), vs = [V.ref a] ∧ SqT K H a (ns.map V.int) ∧ ns.length < 64 ∧ ∀ (ns' : List Int) (p : Addr), ns'.Perm ns → ns'.Pairwise (· ≤ ·) → H p = none → Q (.ref p) (upd H p (.lst (ns'.map V.int)))
theorem cr_sortedTu {X : Cx} {K : PySem.W.Frag} (hK : X.K = K) : CallR X (.builtin "sorted") (rSortedTu K) := by
  subst hK
  intro pins s σ H vs us Q I r h
  obtain ⟨a, ns, rfl, hs, h64, q⟩ := h
  obtain ⟨its, rv, hl, _⟩ := I.tuple hs
  rw [Vals.ref1 r]
  have hi := rv.ints
  refine sorted_intsT hl hi (by rw [hi.length]; exact h64) fun out ns' h1 h2 h3 => ?_
  obtain ⟨ep, he'⟩ := PyProof.Rows.sortedAll_at s.heap its out
  have hlen : (ns'.map V.int).length ≤ sizeLine := by rw [List.length_map, h2.length_eq, sizeLine_eq]; omega
  exact ⟨.ref _, upd H (s.heap.objs.size + 1) (.lst (ns'.map V.int)), I.laid (t' := s.toks) (fun _ _ => PyProof.Rows.sortedAll_old) (Nat.le_succ _) ⟨hlen, out.toList, ep, vals_of_ints h1, he'⟩, rfl, q ns' _ h2 h3 (I.hok.fresh (Nat.le_succ _))⟩
/-! what a chain is -/
def chI (ds : List Deed) (r b : Int) : List Int → Bool
  | [] => false
  | i :: t => (decide ((i :: t).Pairwise (· ≤ ·)) && (match ds[i.toNat]? with | some x => isWri x && decide ((x.one : Int) = r) | none => false)) && decide (fol ds r t = some b)
def chB (ds : List Deed) (r b : Int) (d : PyData) : Bool := isTu d && ((itemsT d).all (isR (ds.length : Int)) && chI ds r b (wi d))
theorem ints_of {n : Int} : ∀ {ds : List PyData}, ds.all (isR n) = true → ds = (ds.map valI).map PyData.int
  | [], _ => rfl
  | d :: ds, h => by
    have h' : isR n d = true ∧ ds.all (isR n) = true := by simpa using h
    have h1 : isI d = true := (Bool.and_eq_true_iff.mp h'.1).1
    show d :: ds = .int (valI d) :: (ds.map valI).map PyData.int
    rw [← ints_of h'.2, ← isI_eq h1]
def headD (x : Deed) : List PyData := [.str x.word, .int (x.one : Int)]
theorem Deed.take2 (x : Deed) : cutV x.vs none (some 2) = [.str x.word, .int (x.one : Int)] := by
  have h2 : 2 ≤ x.vs.length := by cases x <;> simp [Deed.vs]
  rw [show (2 : Int) = ((2 : Nat) : Int) from rfl, cut_to _ _ h2]
  cases x <;> rfl
theorem beq_word {x : Deed} {w : Str} {c : Bool} (h : decide (V.str x.word = V.str w) = c) : (x.word == w) = c := by
  rw [← h]
  by_cases e : x.word = w
  · rw [e]; simp
  · have : (x.word == w) = false := by simpa using e
    rw [this]
    exact (decide_eq_false fun z => e (by injection z)).symm
theorem eqv_head {x : Deed} {w : Str} {c : Bool} (r : Int) (h : decide (V.str x.word = V.str w) = c) : PyData.eqv (.tuple [.str x.word, .int (x.one : Int)]) (.tuple [.str w, .int r]) = (c && decide ((x.one : Int) = r)) := by
  show ((x.word == w) && (((x.one : Int) == r) && true)) = _
  rw [beq_word h, Bool.and_true]
  rfl
theorem shaped2 {a : Str} (i : Int) (ha : PyData.strOk a = true) : SeqAt.shaped (.tuple [.str a, .int i]) = true := by
  unfold SeqAt.shaped
  simp [PyData.canLay0, PyData.canLayAll0, PyData.depth, PyData.depthAll, ha]
theorem lay2 {a : Str} (i : Int) (ha : PyData.strOk a = true) : (PyData.tuple [.str a, .int i]).canLay0 = true := SeqAt.canLay_of_shaped (shaped2 i ha)
theorem Deed.word_ok (x : Deed) : PyData.strOk x.word = true := by
  cases x with
  | pas a b => exact show PyData.strOk ("pass" : Str) = true by decide +kernel
  | los a b => exact show PyData.strOk ("lose" : Str) = true by decide +kernel
  | rst r => exact show PyData.strOk ("restart" : Str) = true by decide +kernel
  | wri r c => exact show PyData.strOk ("write" : Str) = true by decide +kernel
theorem not_t {b : Bool} (h : (!b) = true) : b = false := by cases b <;> simp_all
theorem not_f {b : Bool} (h : (!b) = false) : b = true := by cases b <;> simp_all
def Deed.snd : Deed → Int
  | .pas _ b => (b : Int)
  | _ => 0
theorem chI_cons {ds : List Deed} {r b i : Int} {t : List Int} {x : Deed} (hx : ds[i.toNat]? = some x) : chI ds r b (i :: t) = ((decide ((i :: t).Pairwise (· ≤ ·)) && (isWri x && decide ((x.one : Int) = r))) && decide (fol ds r t = some b)) := by
  show ((decide ((i :: t).Pairwise (· ≤ ·)) && (match ds[i.toNat]? with | some x => isWri x && decide ((x.one : Int) = r) | none => false)) && decide (fol ds r t = some b)) = _
  rw [hx]
section
variable {K : PySem.W.Frag} {σ : L2.St} {H : Hp} {ta tb tl : TE}
/-- deed[:2] != (w, r) -/
theorem ev_neHead {x : Deed} {w : Str} {r : Int} {c : Bool} {u : TE} (ha : EvS ta σ H [.str x.word, .int (x.one : Int)]) (hu : Ev u σ H (.int r)) (hw : PyData.strOk w = true) (h : decide (V.str x.word = V.str w) = c) :
    Ev (tOp (rNeD K) ta (tTup (tCons (tC (.str w)) (tCons u tNil)))) σ H (.bl (!(c && decide ((x.one : Int) = r)))) := fun H1 e1 Q q =>
  ha H1 e1 _ fun p H2 e2 hp => (ea_cons ev_c (ea_cons hu ea_nil)) H2 (e1.trans e2) _ fun H3 e3 => ⟨by show 2 ≤ sizeLine; decide, fun p' hp' => by
    have e4 := Ex.new (o := .tup [V.str w, .int r]) hp'
    refine ⟨.tuple [.str x.word, .int (x.one : Int)], .tuple [.str w, .int r], Dq.dp (lay2 _ x.word_ok) (.tup ((e3.trans e4) _ _ hp) (.cons (.str _) (.cons (.int _) .nil))), Dq.dp (lay2 _ hw) (.tup upd_same (.cons (.str _) (.cons (.int _) .nil))), shaped2 _ x.word_ok, shaped2 _ hw, ?_⟩
    rw [eqv_head r h]
    exact q _ ((e2.trans e3).trans e4)⟩
theorem s_forS {xs : List V} {g : TG} {tu : TS} {D : Ends} (h : EvS tl σ H xs) (Pv : Addr → Nat → L2.St → Hp → Prop) (h0 : ∀ p H1, Ex H H1 → H1 p = some (.tup xs) → Pv p 0 σ H1) (hl : ∀ p i σ' H', i ≤ xs.length → Pv p i σ' H' → SqT K H' p xs)
    (hs : ∀ p i x σ' H', xs[i]? = some x → Pv p i σ' H' → g x σ' H' fun σ2 H2 => tu { D with nx := Pv p (i + 1), ct := Pv p (i + 1), bk := D.nx } σ2 H2) (hd : ∀ p σ' H', Pv p xs.length σ' H' → D.nx σ' H') : tFor (iTup K tl) g tu D σ H :=
  h H (Ex.refl H) _ fun p H1 e h1 => ⟨p, rfl, ⟨xs, st_of h1⟩, for_tup (Pv p) (h0 p H1 e h1) (hl p) (hs p) (hd p)⟩
theorem q_forS {xs : List V} {g : TG} {tu tz : TS} {D : Ends} (h : EvS tl σ H xs) (Pv : Addr → Nat → L2.St → Hp → Prop) (h0 : ∀ p H1, Ex H H1 → H1 p = some (.tup xs) → Pv p 0 σ H1) (hl : ∀ p i σ' H', i ≤ xs.length → Pv p i σ' H' → SqT K H' p xs)
    (hs : ∀ p i x σ' H', xs[i]? = some x → Pv p i σ' H' → g x σ' H' fun σ2 H2 => tu { D with nx := Pv p (i + 1), ct := Pv p (i + 1), bk := tz D } σ2 H2) (hd : ∀ p σ' H', Pv p xs.length σ' H' → tz D σ' H') : tSeq (tFor (iTup K tl) g tu) tz D σ H :=
  s_forS (D := { D with nx := tz D }) h Pv h0 hl hs hd
end
theorem sorted_iff {ns ns' : List Int} (h1 : ns'.Perm ns) (h2 : ns'.Pairwise (· ≤ ·)) : ns = ns' ↔ ns.Pairwise (· ≤ ·) := by
  constructor
  · intro e
    rw [e]
    exact h2
  · intro h
    exact List.Perm.eq_of_pairwise (fun _ _ _ _ a b => Int.le_antisymm a b) h h2 h1.symm
/-- the pieces of fol, a turn -/
theorem fol_cons {ds : List Deed} {h i : Int} {r : List Int} {x : Deed} (hx : ds[i.toNat]? = some x) : fol ds h (i :: r) = if (isPas x && decide ((x.one : Int) = h)) = true then fol ds x.snd r else none := by
  show (match ds[i.toNat]? with | some (.pas a b) => if (a : Int) = h then fol ds (b : Int) r else none | _ => none) = _
  rw [hx]
  cases x with
  | pas a b =>
    by_cases c : (a : Int) = h
    · simp [isPas, Deed.one, Deed.snd, c]
    · simp [isPas, Deed.one, Deed.snd, c]
  | los a b => rfl
  | rst r => rfl
  | wri r c => rfl
theorem lay_i {ns : List Int} : SeqAt.shaped (.list (ns.map PyData.int)) = true := by
  unfold SeqAt.shaped
  have h1 := lay_ints ns
  have h2 := depth_ints ns
  simp [PyData.canLay0, PyData.depth, h1, h2]
section
variable {P : Program} {w : World} {K : PySem.W.Frag} {mg : Str → Option Value} {base : Heap} {f : Addr} {fd : FuncData}
/-! is_chain -/
abbrev spChain : Sp := spP fun H vs z => ∃ (nv kv v : V) (l : Addr) (us : List V) (ds : List Deed) (r b : Int) (d : PyData), vs = [nv, kv, .ref l, .int r, .int b, v] ∧ Row H l us ∧ DqA H us (ds.map Deed.d) ∧ ds.length ≤ 60 ∧ Dq H v d ∧ (itemsT d).length ≤ 62 ∧ z = .bl (chB ds r b d)
abbrev sChain : Stmt := top 34
abbrev nChain : List Str := ["size", "links", "deeds", "r", "b", "thing", "index", "there"]
theorem scChain : FnScope nChain ["size", "links", "deeds", "r", "b", "thing"] (defScope sChain) := ⟨rfl, rfl, rfl, by decide +kernel, rfl, by decide +kernel, by decide +kernel⟩
theorem ok_chain (B : Bl mg) (hs : mg "sorted" = none) (C : Cal P w K mg base "is_between" ["least", "most", "thing"] 2 spBetween) (F : FnP K "is_chain" sChain f fd) : FnOk P w K mg base CX0 3 f fd ["size", "links", "deeds", "r", "b", "thing"] spChain := by
  refine F.ok scChain (fun vs H Q E h => ?_) (fun cdv A outer s H vs Q E hr h => ?_)
  · obtain ⟨z, ⟨nv, kv, v, l, us, ds, r, b, d, rfl, _⟩, _⟩ := h
    rfl
  · obtain ⟨z, ⟨nv, kv, v, l, us, ds, r, b, d, rfl, hl, hus, hd60, hd, h62, rfl⟩, k⟩ := h
    have hu0 : (A.deeper (envOfC "is_chain" (defScope sChain) s.heap.objs.size f cdv)).units + 64 < cLine := by have := hr.un; omega
    refine ⟨_, pss_cons (ps_if (PW.pt (pw_or (pt_not (pt_val (pe_callB call_isi (by rfl) B.isi boot_isinstance (pa_cons (pv 5) (pa_cons (pe_bltn (v := .ty "tuple") (by rfl) B.tuple PyProof.Rows.boot_tuple rfl) pa_nil)))))
        (pw_or1 (pt_not (pt_val (pe_callB (cr_all rfl) (by rfl) B.all boot_all (pa_cons (pe_lc (own := [("index", 6)]) (g := gName 6) (tt := tYes) (te := tCall spBetween [] E0 (tCons (tC (.int 0)) (tCons (tOp (rI0 fun i j => .int (i - j)) (tCB (rLenS K) (tCons (tVar 2) tNil)) (tC (.int 1))) (tCons (tVar 6) tNil)))) rfl scChain.nd (pi_tup (pv 5)) (blkOk_by (N := nChain) (sc := defScope sChain) (by decide +kernel))
          (fun _ _ _ _ _ => pg_name (i := 6) scChain.nd rfl (Or.inl rfl)) (fun _ _ _ _ _ => pts_nil) (fun _ _ _ _ _ => pe_cal C hr (by rfl) (pa_cons pe_int (pa_cons (pe_op op_sub (pe_callB call_len_seq (by rfl) B.len PySem.boot_len (pa_cons (pv 2) pa_nil)) pe_int) (pa_cons (pv 6) pa_nil))))) pa_nil))))))) (pss_one (ps_ret pe_bl)) pss_nil)
      (pss_cons (ps_if (PW.pt (pw_or (pt_cmpR op_eq (pe_callB call_len_seq (by rfl) B.len PySem.boot_len (pa_cons (pv 5) pa_nil)) pe_int (nomark _))
        (pw_or (pt_cmpR (op_neD hu0) (pe_callTy (call_listK2 (K := K) rfl) (by rfl) B.list PyProof.Rows.boot_list (pa_cons (pv 5) pa_nil)) (pe_callB (cr_sortedTu (K := K) rfl) (by rfl) hs boot_sorted (pa_cons (pv 5) pa_nil)) (nomark _))
          (pw_or1 (pt_cmpR (op_neD hu0) (pe_slice sl_tupA (pe_ix (ix_row (K := K) rfl) (pv 2) (pe_ix ix_tup (pv 5) pe_int (fun _ _ => rfl)) (fun _ _ => rfl)) po_none (po_some pe_int)) (pe_tup (pa_cons pe_str (pa_cons (pv 3) pa_nil))) (nomark _)))))) (pss_one (ps_ret pe_bl)) pss_nil)
      (pss_cons (ps_set (i := 7) scChain.nd rfl (Or.inl rfl) (pv 3))
      (pss_cons (ps_for (passes_of rfl) rfl (pi_tup (pe_slice sl_tupA (pv 5) (po_some pe_int) po_none)) (pg_name (i := 6) scChain.nd rfl (Or.inl rfl))
        (pss_cons (ps_if (pt_cmpR (op_neD hu0) (pe_slice sl_tupA (pe_ix (ix_row (K := K) rfl) (pv 2) (pv 6) (fun _ _ => rfl)) po_none (po_some pe_int)) (pe_tup (pa_cons pe_str (pa_cons (pv 7) pa_nil))) (nomark _)) (pss_one (ps_ret pe_bl)) pss_nil)
        (pss_one (ps_set (i := 7) scChain.nd rfl (Or.inl rfl) (pe_ix ix_tup (pe_ix (ix_row (K := K) rfl) (pv 2) (pv 6) (fun _ _ => rfl)) pe_int (fun _ _ => rfl))))))
      (pss_one (ps_ret (pe_cmpR op_eq (pv 7) (pv 4) (nomark _))))))), ?_⟩
    have hul := hus.length
    rw [List.length_map] at hul
    have v5 : ∀ {H1 : Hp}, Ev (tVar 5) (start nChain [nv, kv, .ref l, .int r, .int b, v]) H1 v := ev_var rfl
    cases htu : isTu d with
    | false =>
      have ez : chB ds r b d = false := by
        unfold chB
        rw [htu]
        rfl
      rw [ez] at k
      exact q_when (b := true || true) (et_or (et_is (et_not (et_B (ev_isi v5 hd (kit_tup d)))) (by rw [htu]; rfl)) fun z => by cases z) (fun _ H1 e1 => s_ret ev_c fun H2 e2 => k H2 (e1.trans e2)) (fun z => by cases z)
    | true =>
      obtain ⟨a, xs, es, rfl, rfl, ha, hxs⟩ := tu_inv hd htu
      have hxl := hxs.length
      have h62 : es.length ≤ 62 := h62
      have qa := ev_allT (K := K) (H := H) (j := 6) (vs := [6]) (σ := start nChain [nv, kv, .ref l, .int r, .int b, .ref a]) (te := tCall spBetween [] E0 (tCons (tC (.int 0)) (tCons (tOp (rI0 fun i j => .int (i - j)) (tCB (rLenS K) (tCons (tVar 2) tNil)) (tC (.int 1))) (tCons (tVar 6) tNil)))) (fun i => ((es[i]?).map (isR (ds.length : Int))).getD false) v5 (st_of ha) (by omega) (fun x => rfl)
        (fun i x H1 e1 hx => by
          obtain ⟨e, he, hv⟩ := hxs.get hx
          rw [he]
          refine ev_call (ea_cons ev_c (ea_cons (ev_op (ev_lenR (ev_var rfl) (hl.mono e1)) ev_c rv_I0) (ea_cons (ev_var rfl) ea_nil))) (spP_v fun H2 e2 => ⟨0, (us.length : Int) - 1, x, e, rfl, hv.mono (e1.trans e2), ?_⟩)
          rw [hul]
          rfl)
      rw [hxl, all_get] at qa
      refine q_when (b := false || !es.all (isR (ds.length : Int))) (et_or (et_is (et_not (et_B (ev_isi v5 hd (kit_tup _)))) (by rw [htu]; rfl)) fun _ => et_not (et_B qa)) (fun hb H1 e1 => s_ret ev_c fun H2 e2 => ?_) (fun hb H1 e1 => ?_)
      · have hb' : es.all (isR (ds.length : Int)) = false := by simpa using hb
        have ez : chB ds r b (.tuple es) = false := by
          show (true && (es.all (isR (ds.length : Int)) && _)) = false
          rw [hb']
          rfl
        rw [ez] at k
        exact k H2 (e1.trans e2)
      have hall : es.all (isR (ds.length : Int)) = true := by simpa using hb
      have ees := ints_of hall
      have exs : xs = (es.map valI).map V.int := by rw [ees] at hxs; exact hxs.int_inv
      have hrg : ∀ x ∈ es.map valI, 0 ≤ x ∧ x < (ds.length : Int) := fun x hx => by
        obtain ⟨e, he, rfl⟩ := List.mem_map.mp hx
        have := List.all_eq_true.mp hall e he
        unfold isR at this
        simp only [Bool.and_eq_true, decide_eq_true_eq] at this
        omega
      have hnl : (es.map valI).length = es.length := List.length_map _
      have ez : chB ds r b (.tuple es) = chI ds r b (es.map valI) := by
        show (true && (es.all (isR (ds.length : Int)) && chI ds r b (es.map valI))) = _
        rw [hall]
        rfl
      rw [ez] at k
      generalize es.map valI = ns at *
      subst exs
      have ha1 := e1 _ _ ha
      have hl1 := hl.mono e1
      have hus1 := hus.mono e1
      clear ha hl hus hxs hd qa ez hb
      cases ns with
      | nil =>
        refine q_when (b := true || (true || true)) (et_or (et_is (et_test (ev_op (ev_lenT (K := K) (ta := tVar 5) v5 (st_of ha1)) ev_c (rv_eq rfl))) rfl) fun z => by cases z) (fun _ H2 e2 => s_ret ev_c fun H3 e3 => k H3 ((e1.trans e2).trans e3)) (fun z => by cases z)
      | cons i t =>
        have hi := hrg i List.mem_cons_self
        have hin : i.toNat < ds.length := by omega
        obtain ⟨td, hd1, hd2⟩ := deeds_at hus1 hin
        have hdi : ds[i.toNat]? = some ds[i.toNat] := List.getElem?_eq_getElem hin
        have hz : decide (V.int ((((i :: t).map V.int).length : Nat) : Int) = V.int 0) = false := by
          apply decide_eq_false
          intro z
          injection z with z
          simp at z
          omega
        have hcs : ∀ {H2 : Hp}, Ex H1 H2 → Ev (tOp (rNeD K) (tCB (fun xs H Q => ∃ p ys, xs = [.ref p] ∧ (SqL K H p ys ∨ SqT K H p ys) ∧ ∀ l, H l = none → Q (.ref l) (upd H l (.lst ys))) (tCons (tVar 5) tNil)) (tCB (rSortedTu K) (tCons (tVar 5) tNil))) (start nChain [nv, kv, .ref l, .int r, .int b, .ref a]) H2 (.bl (!decide ((i :: t).Pairwise (· ≤ ·)))) := fun {H2} e2 H3 e3 Q3 q3 => by
          have ha3 := (e2.trans e3) _ _ ha1
          refine ⟨.ref a, rfl, a, _, rfl, .inr (st_of ha3), fun c hc => ?_⟩
          have ec := Ex.new (o := .lst ((i :: t).map V.int)) hc
          refine ⟨.ref a, rfl, a, i :: t, rfl, st_of (ec _ _ ha3), by have := hnl; simp at this ⊢; omega, fun ns' p' hp hpw hpn => ?_⟩
          have ep := Ex.new (o := .lst (ns'.map V.int)) hpn
          refine ⟨.list ((i :: t).map PyData.int), .list (ns'.map PyData.int), Dq.dp (SeqAt.canLay_of_shaped lay_i) (.lst (ep _ _ upd_same) (DqA.ints _)), Dq.dp (SeqAt.canLay_of_shaped lay_i) (.lst upd_same (DqA.ints _)), lay_i, lay_i, ?_⟩
          have e4 : PyData.eqv (.list ((i :: t).map PyData.int)) (.list (ns'.map PyData.int)) = decide ((i :: t).Pairwise (· ≤ ·)) := by
            show PyData.eqvAll _ _ = _
            rw [eqv_ints, decide_eq_decide]
            exact sorted_iff hp hpw
          rw [e4]
          exact q3 _ (ec.trans ep)
        refine q_when (b := false || ((!decide ((i :: t).Pairwise (· ≤ ·))) || !(isWri ds[i.toNat] && decide ((ds[i.toNat].one : Int) = r)))) (et_or (et_is (et_test (ev_op (ev_lenT (K := K) (ta := tVar 5) v5 (st_of ha1)) ev_c (rv_eq rfl))) hz) fun _ => et_or (et_test (hcs (Ex.refl _))) fun _ => et_test (ev_neHead (x := ds[i.toNat]) (by
            have q := es_sl (K := K) (te := tOp (rIxR K) (tVar 2) (tOp (rIxT K) (tVar 5) (tC (.int 0)))) (σ := start nChain [nv, kv, .ref l, .int r, .int b, .ref a]) (H := H1) (tl := tNoPart) (th := tPart (tC (.int 2))) (ev_op (ev_var rfl) (ev_op v5 ev_c (rv_ixT (st_of ha1) (v := .int i) (atI_nat (j := 0) rfl))) (rv_ixR hl1 (by
                have z := atI_nat hd1
                rw [Int.toNat_of_nonneg hi.1] at z
                exact z))) eo_none (eo_some (i := 2) ev_c) hd2
            rw [Deed.take2] at q
            exact q) (ev_var rfl) (by decide +kernel) (word_wri _))) (fun hb H2 e2 => s_ret ev_c fun H3 e3 => ?_) (fun hb H2 e2 => ?_)
        · have ez : chI ds r b (i :: t) = false := by
            rw [chI_cons hdi]
            have : (decide ((i :: t).Pairwise (· ≤ ·)) && (isWri ds[i.toNat] && decide ((ds[i.toNat].one : Int) = r))) = false := by
              cases hA : decide ((i :: t).Pairwise (· ≤ ·)) with
              | false => rfl
              | true =>
                rw [hA] at hb
                exact not_t hb
            simp only [this, Bool.false_and]
          rw [ez] at k
          exact k H3 ((e1.trans e2).trans e3)
        have hb2 : decide ((i :: t).Pairwise (· ≤ ·)) = true ∧ (isWri ds[i.toNat] && decide ((ds[i.toNat].one : Int) = r)) = true := by
          cases hA : decide ((i :: t).Pairwise (· ≤ ·)) with
          | false => rw [hA] at hb; simp at hb
          | true =>
            rw [hA] at hb
            exact ⟨rfl, not_f hb⟩
        have ez : chI ds r b (i :: t) = decide (fol ds r t = some b) := by
          rw [chI_cons hdi, hb2.1, hb2.2]
          rfl
        rw [ez] at k
        have ha2 := e2 _ _ ha1
        have hl2 := hl1.mono e2
        have hus2 := hus1.mono e2
        have e02 := e1.trans e2
        refine q_asg (v := .int r) (ev_var rfl) fun H3 e3 => ?_
        have ha3 := e3 _ _ ha2
        change tSeq _ _ _ [some nv, some kv, some (.ref l), some (.int r), some (.int b), some (.ref a), none, some (.int r)] H3
        have hsl : EvS (tSl (rSlA K) (tVar 5) (tPart (tC (.int 1))) tNoPart) [some nv, some kv, some (.ref l), some (.int r), some (.int b), some (.ref a), none, some (.int r)] H3 (t.map V.int) := by
          have q := es_sl (K := K) (te := tVar 5) (σ := [some nv, some kv, some (.ref l), some (.int r), some (.int b), some (.ref a), none, some (.int r)]) (H := H3) (tl := tPart (tC (.int 1))) (th := tNoPart) (ev_var rfl) (eo_some (i := 1) ev_c) eo_none ha3
          rw [show (1 : Int) = ((1 : Nat) : Int) from rfl, cut_from _ _ (by simp)] at q
          exact q
        refine q_forS (K := K) hsl (fun p j σ' H' => ∃ (h : Int) (o : Option V), σ' = [some nv, some kv, some (.ref l), some (.int r), some (.int b), some (.ref a), o, some (.int h)] ∧ Ex H3 H' ∧ H' p = some (.tup (t.map V.int)) ∧ fol ds r t = fol ds h (t.drop j)) (fun p H4 e4 hp => ⟨r, none, rfl, e4, hp, rfl⟩) (fun p j σ' H' _ ⟨_, _, _, _, hp, _⟩ => st_of hp) ?_ ?_
        · rintro p j x σ' H4 hx ⟨h, o, rfl, e4, hp, hfol⟩
          rw [List.getElem?_map] at hx
          cases hn : t[j]? with
          | none => rw [hn] at hx; cases hx
          | some n =>
            rw [hn] at hx
            have ex : x = .int n := (Option.some.inj hx).symm
            subst ex
            have hnr := hrg n (List.mem_cons_of_mem _ (List.mem_of_getElem? hn))
            have hnn : n.toNat < ds.length := by omega
            have hl4 := hl2.mono (e3.trans e4)
            have hus4 := hus2.mono (e3.trans e4)
            obtain ⟨tn, hn1, hn2⟩ := deeds_at hus4 hnn
            have hdn : ds[n.toNat]? = some ds[n.toNat] := List.getElem?_eq_getElem hnn
            have atn : atI us n = some (.ref tn) := by
              have z := atI_nat hn1
              rw [Int.toNat_of_nonneg hnr.1] at z
              exact z
            have hdrop : t.drop j = n :: t.drop (j + 1) := by
              obtain ⟨hj, e⟩ := List.getElem?_eq_some_iff.mp hn
              rw [List.drop_eq_getElem_cons hj, e]
            rw [hdrop, fol_cons hdn] at hfol
            refine g_name ?_
            change tSeq _ _ _ [some nv, some kv, some (.ref l), some (.int r), some (.int b), some (.ref a), some (.int n), some (.int h)] H4
            refine q_when (b := !(isPas ds[n.toNat] && decide ((ds[n.toNat].one : Int) = h))) (et_test (ev_neHead (x := ds[n.toNat]) (by
                have q := es_sl (K := K) (te := tOp (rIxR K) (tVar 2) (tVar 6)) (σ := [some nv, some kv, some (.ref l), some (.int r), some (.int b), some (.ref a), some (.int n), some (.int h)]) (H := H4) (tl := tNoPart) (th := tPart (tC (.int 2))) (ev_op (ev_var rfl) (ev_var rfl) (rv_ixR hl4 atn)) eo_none (eo_some (i := 2) ev_c) hn2
                rw [Deed.take2] at q
                exact q) (ev_var rfl) (by decide +kernel) (word_pas _))) (fun hb H5 e5 => s_ret ev_c fun H6 e6 => ?_) (fun hb H5 e5 => ?_)
            · have hb' : (isPas ds[n.toNat] && decide ((ds[n.toNat].one : Int) = h)) = false := not_t hb
              rw [hb'] at hfol
              rw [hfol] at k
              exact k H6 (((e02.trans e3).trans e4).trans (e5.trans e6))
            · have hb' : (isPas ds[n.toNat] && decide ((ds[n.toNat].one : Int) = h)) = true := not_f hb
              rw [hb', if_pos rfl] at hfol
              have hp1 := (Bool.and_eq_true_iff.mp hb').1
              obtain ⟨x1, x2, hx12⟩ : ∃ x1 x2, ds[n.toNat] = .pas x1 x2 := by
                cases hdd : ds[n.toNat] <;> rw [hdd] at hp1 <;> first | (cases hp1; done) | exact ⟨_, _, rfl⟩
              rw [hx12] at hn2 hfol
              refine s_asg (v := .int (x2 : Int)) (ev_op (ev_op (ev_var rfl) (ev_var rfl) (rv_ixR (hl4.mono e5) atn)) ev_c (rv_ixT (st_of (e5 _ _ hn2)) (atI_nat (j := 2) rfl))) fun H6 e6 => ?_
              exact ⟨(x2 : Int), _, rfl, e4.trans (e5.trans e6), (e5.trans e6) _ _ hp, hfol⟩
        · rintro p σ' H4 ⟨h, o, rfl, e4, hp, hfol⟩
          rw [List.length_map, List.drop_length] at hfol
          refine s_ret (ev_is (ev_op (ev_var rfl) (ev_var rfl) (rv_eq rfl)) ?_) fun H5 e5 => k H5 (((e02.trans e3).trans e4).trans e5)
          rw [hfol]
          show V.bl (decide (V.int h = V.int b)) = V.bl (decide (some h = some b))
          congr 1
          rw [decide_eq_decide]
          simp
end
end Wk

set_option Elab.async false
set_option linter.all false
set_option maxRecDepth 100000
set_option maxHeartbeats 4000000
namespace Wk
open PySem PySem.Spec PyProof.Rows L2 Evl
def PasOk (ds : List Deed) : Prop := ∀ (i : Nat) a b, ds[i]? = some (.pas a b) → a ≠ b
theorem asc_of_steps : ∀ {ns : List Int}, (∀ j (h : j + 1 < ns.length), ns[j] < ns[j + 1]) → ns.Pairwise (· < ·)
  | [], _ => .nil
  | [a], _ => List.pairwise_singleton _ _
  | a :: b :: l, h => by
    have ih := asc_of_steps (ns := b :: l) fun j hj => h (j + 1) (by simp at hj ⊢; omega)
    have h0 : a < b := h 0 (by simp)
    refine List.pairwise_cons.mpr ⟨fun x hx => ?_, ih⟩
    rcases List.mem_cons.mp hx with e | e
    · rw [e]; exact h0
    · have := (List.pairwise_cons.mp ih).1 x e
      omega
theorem strict_go {ds : List Deed} (hd : PasOk ds) : ∀ {t : List Int} {i h b : Int}, ((∃ r c, ds[i.toNat]? = some (.wri r c)) ∨ ∃ x y : Nat, ds[i.toNat]? = some (.pas x y) ∧ h = (y : Int)) → (i :: t).Pairwise (· ≤ ·) → fol ds h t = some b → (i :: t).Pairwise (· < ·)
  | [], i, h, b, _, _, _ => List.pairwise_singleton _ _
  | j :: t, i, h, b, hi, hp, hf => by
    obtain ⟨h1, h2⟩ := List.pairwise_cons.mp hp
    have hij := h1 j List.mem_cons_self
    obtain ⟨a, c, hj, ha, hf'⟩ : ∃ a c : Nat, ds[j.toNat]? = some (.pas a c) ∧ (a : Int) = h ∧ fol ds (c : Int) t = some b := by
      unfold fol at hf
      split at hf
      · rename_i x y hx
        split at hf
        · rename_i hc
          exact ⟨x, y, hx, hc, hf⟩
        · cases hf
      · cases hf
    have ih := strict_go hd (.inr ⟨a, c, hj, rfl⟩) h2 hf'
    have hne : i ≠ j := by
      intro e
      subst e
      rcases hi with ⟨r, c', e⟩ | ⟨x, y, e, ey⟩
      · rw [e] at hj
        cases hj
      · rw [e] at hj
        injection hj with hj
        injection hj with e1 e2
        have := hd _ _ _ e
        omega
    refine List.pairwise_cons.mpr ⟨fun x hx => ?_, ih⟩
    rcases List.mem_cons.mp hx with e | e
    · rw [e]; omega
    · have := (List.pairwise_cons.mp ih).1 x e
      omega
def chS (ds : List Deed) (r b : Int) : List Int → Bool
  | [] => false
  | i :: t => (decide ((i :: t).Pairwise (· < ·)) && (match ds[i.toNat]? with | some x => isWri x && decide ((x.one : Int) = r) | none => false)) && decide (fol ds r t = some b)
theorem chS_cons {ds : List Deed} {r b i : Int} {t : List Int} {x : Deed} (hx : ds[i.toNat]? = some x) : chS ds r b (i :: t) = ((decide ((i :: t).Pairwise (· < ·)) && (isWri x && decide ((x.one : Int) = r))) && decide (fol ds r t = some b)) := by
  show ((decide ((i :: t).Pairwise (· < ·)) && (match ds[i.toNat]? with | some x => isWri x && decide ((x.one : Int) = r) | none => false)) && decide (fol ds r t = some b)) = _
  rw [hx]
theorem chI_S {ds : List Deed} (hd : PasOk ds) (r b : Int) : ∀ ns : List Int, chI ds r b ns = chS ds r b ns
  | [] => rfl
  | i :: t => by
    cases hx : ds[i.toNat]? with
    | none =>
      show ((decide ((i :: t).Pairwise (· ≤ ·)) && (match ds[i.toNat]? with | some x => isWri x && decide ((x.one : Int) = r) | none => false)) && decide (fol ds r t = some b)) = ((decide ((i :: t).Pairwise (· < ·)) && (match ds[i.toNat]? with | some x => isWri x && decide ((x.one : Int) = r) | none => false)) && decide (fol ds r t = some b))
      rw [hx]
      simp only [Bool.and_false, Bool.false_and]
    | some x =>
      rw [chI_cons hx, chS_cons hx]
      by_cases hw : (isWri x && decide ((x.one : Int) = r)) = true
      · by_cases hf : fol ds r t = some b
        · have e : decide ((i :: t).Pairwise (· ≤ ·)) = decide ((i :: t).Pairwise (· < ·)) := by
            rw [decide_eq_decide]
            constructor
            · intro h
              refine strict_go hd (.inl ?_) h hf
              have h1 := (Bool.and_eq_true_iff.mp hw).1
              cases x <;> first | (cases h1; done) | exact ⟨_, _, hx⟩
            · exact fun h => h.imp fun h => by omega
          rw [e]
        · rw [decide_eq_false hf, Bool.and_false, Bool.and_false]
      · have hw' : (isWri x && decide ((x.one : Int) = r)) = false := by
          cases hc : (isWri x && decide ((x.one : Int) = r)) with
          | false => rfl
          | true => exact absurd hc hw
        rw [hw', Bool.and_false, Bool.and_false]
section
variable {P : Program} {w : World} {K : PySem.W.Frag} {mg : Str → Option Value} {base : Heap} {f : Addr} {fd : FuncData}
/-! _law_is_integer -/
abbrev sLInt : Stmt := top 42
theorem scLInt : FnScope ["_law_thing"] ["_law_thing"] (defScope sLInt) := ⟨rfl, rfl, rfl, by decide +kernel, rfl, by decide +kernel, by decide +kernel⟩
theorem ok_lInt (B : Bl mg) (F : FnP K "_law_is_integer" sLInt f fd) : FnOk P w K mg base CX0 1 f fd ["_law_thing"] spIsInt := by
  refine F.ok scLInt (fun vs H Q E h => ?_) (fun cdv A outer s H vs Q E hr h => ?_)
  · obtain ⟨z, ⟨v, d, rfl, _⟩, _⟩ := h
    rfl
  · obtain ⟨z, ⟨v, d, rfl, hd, rfl⟩, k⟩ := h
    refine ⟨_, pss_one (ps_ret (pe_and (pe_callB call_isi (by rfl) B.isi boot_isinstance (pa_cons (pv 0) (pa_cons (pe_bltn (v := .ty "int") (by rfl) B.int PyProof.Rows.boot_int rfl) pa_nil)))
      (pe_one (pe_not (pe_callB call_isi (by rfl) B.isi boot_isinstance (pa_cons (pv 0) (pa_cons (pe_bltn (v := .ty "bool") (by rfl) B.bool PyProof.Rows.boot_bool rfl) pa_nil))))))), ?_⟩
    obtain ⟨b, hb, h1, h2⟩ := kit_int d
    have v0 : Ev (tVar 0) (start ["_law_thing"] [v]) H v := ev_var rfl
    cases b with
    | true =>
      obtain ⟨c, hc, e⟩ := h1 rfl
      rw [← e] at k
      exact s_ret (ev_andV (ev_isi v0 hd hb) fun _ => ev_notV (ev_isi v0 hd hc)) k
    | false =>
      rw [h2 rfl] at k
      exact s_ret (ev_andV (b := false) (ev_isi v0 hd hb) fun z => (by cases z)) k
/-! _law_is_chain -/
abbrev spLChain : Sp := spP fun H vs z => ∃ (v : V) (l : Addr) (us : List V) (ds : List Deed) (r b : Int) (d : PyData), vs = [.ref l, .int r, .int b, v] ∧ Row H l us ∧ DqA H us (ds.map Deed.d) ∧ ds.length ≤ 60 ∧ PasOk ds ∧ Dq H v d ∧ (itemsT d).length ≤ 62 ∧ z = .bl (chB ds r b d)
abbrev sLChain : Stmt := top 45
abbrev nLChain : List Str := ["_law_deeds", "_law_r", "_law_b", "_law_thing", "_law_k", "_law_here", "_law_index"]
theorem scLChain : FnScope nLChain ["_law_deeds", "_law_r", "_law_b", "_law_thing"] (defScope sLChain) := ⟨rfl, rfl, rfl, by decide +kernel, rfl, by decide +kernel, by decide +kernel⟩
theorem ok_lChain (B : Bl mg) (C : Cal P w K mg base "_law_is_integer" ["_law_thing"] 1 spIsInt) (F : FnP K "_law_is_chain" sLChain f fd) : FnOk P w K mg base CX0 2 f fd ["_law_deeds", "_law_r", "_law_b", "_law_thing"] spLChain := by
  refine F.ok scLChain (fun vs H Q E h => ?_) (fun cdv A outer s H vs Q E hr h => ?_)
  · obtain ⟨z, ⟨v, l, us, ds, r, b, d, rfl, _⟩, _⟩ := h
    rfl
  · obtain ⟨z, ⟨v, l, us, ds, r, b, d, rfl, hl, hus, hd60, hpo, hd, h62, rfl⟩, k⟩ := h
    refine ⟨_, pss_cons (ps_if (PW.pt (pw_or (pt_not (pt_val (pe_callB call_isi (by rfl) B.isi boot_isinstance (pa_cons (pv 3) (pa_cons (pe_bltn (v := .ty "tuple") (by rfl) B.tuple PyProof.Rows.boot_tuple rfl) pa_nil)))))
        (pw_or1 (pt_cmpR op_eq (pe_callB call_len_seq (by rfl) B.len PySem.boot_len (pa_cons (pv 3) pa_nil)) pe_int (nomark _))))) (pss_one (ps_ret pe_bl)) pss_nil)
      (pss_cons (ps_for (passes_of rfl) rfl (pi_range1 (by rfl) B.range (pa_cons (pe_callB call_len_seq (by rfl) B.len PySem.boot_len (pa_cons (pv 3) pa_nil)) pa_nil)) (pg_name (i := 4) scLChain.nd rfl (Or.inl rfl))
        (pss_cons (ps_if (PW.pt (pw_or (pt_not (pt_val (pe_cal C hr (by rfl) (pa_cons (pe_ix ix_tup (pv 3) (pv 4) (fun _ _ => rfl)) pa_nil)))) (pw_or1 (pt_not (pt_chain op_le op_lt pe_int (pe_ix ix_tup (pv 3) (pv 4) (fun _ _ => rfl)) (pe_callB call_len_seq (by rfl) B.len PySem.boot_len (pa_cons (pv 0) pa_nil))))))) (pss_one (ps_ret pe_bl)) pss_nil)
        (pss_one (ps_if (PW.pt (pw_and (pt_cmpR op_gt (pv 4) pe_int (nomark _)) (pw_and1 (pt_cmpR op_le (pe_ix ix_tup (pv 3) (pv 4) (fun _ _ => rfl)) (pe_ix ix_tup (pv 3) (pe_op op_sub (pv 4) pe_int) (fun _ _ => rfl)) (nomark _))))) (pss_one (ps_ret pe_bl)) pss_nil))))
      (pss_cons (ps_if (PW.pt (pw_or (pt_cmpR op_ne (pe_ix ix_tup (pe_ix (ix_row (K := K) rfl) (pv 0) (pe_ix ix_tup (pv 3) pe_int (fun _ _ => rfl)) (fun _ _ => rfl)) pe_int (fun _ _ => rfl)) pe_str (nomark _))
          (pw_or1 (pt_cmpR op_ne (pe_ix ix_tup (pe_ix (ix_row (K := K) rfl) (pv 0) (pe_ix ix_tup (pv 3) pe_int (fun _ _ => rfl)) (fun _ _ => rfl)) pe_int (fun _ _ => rfl)) (pv 1) (nomark _))))) (pss_one (ps_ret pe_bl)) pss_nil)
      (pss_cons (ps_set (i := 5) scLChain.nd rfl (Or.inl rfl) (pv 1))
      (pss_cons (ps_for (passes_of rfl) rfl (pi_tup (pe_slice sl_tupA (pv 3) (po_some pe_int) po_none)) (pg_name (i := 6) scLChain.nd rfl (Or.inl rfl))
        (pss_cons (ps_if (PW.pt (pw_or (pt_cmpR op_ne (pe_ix ix_tup (pe_ix (ix_row (K := K) rfl) (pv 0) (pv 6) (fun _ _ => rfl)) pe_int (fun _ _ => rfl)) pe_str (nomark _))
          (pw_or1 (pt_cmpR op_ne (pe_ix ix_tup (pe_ix (ix_row (K := K) rfl) (pv 0) (pv 6) (fun _ _ => rfl)) pe_int (fun _ _ => rfl)) (pv 5) (nomark _))))) (pss_one (ps_ret pe_bl)) pss_nil)
        (pss_one (ps_set (i := 5) scLChain.nd rfl (Or.inl rfl) (pe_ix ix_tup (pe_ix (ix_row (K := K) rfl) (pv 0) (pv 6) (fun _ _ => rfl)) pe_int (fun _ _ => rfl))))))
      (pss_one (ps_ret (pe_cmpR op_eq (pv 5) (pv 2) (nomark _)))))))), ?_⟩
    have hul := hus.length
    rw [List.length_map] at hul
    have v3 : ∀ {H1 : Hp}, Ev (tVar 3) (start nLChain [.ref l, .int r, .int b, v]) H1 v := ev_var rfl
    cases htu : isTu d with
    | false =>
      have ez : chB ds r b d = false := by
        unfold chB
        rw [htu]
        rfl
      rw [ez] at k
      exact q_when (b := true || true) (et_or (et_is (et_not (et_B (ev_isi v3 hd (kit_tup d)))) (by rw [htu]; rfl)) fun z => by cases z) (fun _ H1 e1 => s_ret ev_c fun H2 e2 => k H2 (e1.trans e2)) (fun z => by cases z)
    | true =>
      obtain ⟨a, xs, es, rfl, rfl, ha, hxs⟩ := tu_inv hd htu
      have hxl := hxs.length
      have h62 : es.length ≤ 62 := h62
      have hnE : EvT (tNot (tB (tCB (rIsi K) (tCons (tVar 3) (tCons (tC (.ty "tuple")) tNil))))) (start nLChain [.ref l, .int r, .int b, .ref a]) H false := et_is (et_not (et_B (ev_isi v3 hd (kit_tup _)))) (by rw [htu]; rfl)
      have hlen0 : EvT (tTest (tOp rEq (tCB (rLenS K) (tCons (tVar 3) tNil)) (tC (.int 0)))) (start nLChain [.ref l, .int r, .int b, .ref a]) H (decide (V.int (xs.length : Int) = V.int 0)) := et_test (ev_op (ev_lenT (K := K) (ta := tVar 3) v3 (st_of ha)) ev_c (rv_eq rfl))
      have ezB : chB ds r b (.tuple es) = (es.all (isR (ds.length : Int)) && chS ds r b (es.map valI)) := by
        show (true && (es.all (isR (ds.length : Int)) && chI ds r b (es.map valI))) = _
        rw [chI_S hpo]
        rfl
      rw [ezB] at k
      clear ezB
      refine q_when (b := false || decide (V.int (xs.length : Int) = V.int 0)) (et_or hnE fun _ => hlen0) (fun hb H1 e1 => s_ret ev_c fun H2 e2 => ?_) (fun hb H1 e1 => ?_)
      · have h0 : es.length = 0 := by
          have := of_decide_eq_true (p := V.int (xs.length : Int) = V.int 0) hb
          injection this with this
          have : (xs.length : Int) = 0 := this
          omega
        have : es = [] := List.length_eq_zero_iff.mp h0
        subst this
        exact k H2 (e1.trans e2)
      have hpos : 0 < es.length := by
        cases es with
        | cons _ _ => simp
        | nil =>
          have : xs.length = 0 := by simpa using hxl
          rw [this] at hb
          exact absurd hb (by decide)
      have ha1 := e1 _ _ ha
      have hl1 := hl.mono e1
      have hus1 := hus.mono e1
      have hxs1 := hxs.mono e1
      clear hd hnE hlen0
      -- the items are looked at
      have notAll : ∀ (i : Nat) (e : PyData), es[i]? = some e → isR (ds.length : Int) e = false → (es.all (isR (ds.length : Int)) && chS ds r b (es.map valI)) = false := fun i e he hf => by
        have : es.all (isR (ds.length : Int)) = false := by
          cases hc : es.all (isR (ds.length : Int)) with
          | false => rfl
          | true =>
            have := List.all_eq_true.mp hc e (List.mem_of_getElem? he)
            rw [hf] at this
            cases this
        rw [this]
        rfl
      have notAsc : ¬ (es.map valI).Pairwise (· < ·) → (es.all (isR (ds.length : Int)) && chS ds r b (es.map valI)) = false := fun hn => by
        have : chS ds r b (es.map valI) = false := by
          generalize es.map valI = ns at *
          cases ns with
          | nil => rfl
          | cons i t =>
            show ((decide ((i :: t).Pairwise (· < ·)) && _) && _) = false
            rw [decide_eq_false hn]
            rfl
        rw [this, Bool.and_false]
      refine q_forR1 (ea_cons (ev_lenT (K := K) (ta := tVar 3) (ev_var rfl) (st_of ha1)) ea_nil) (n := (xs.length : Int)) (by omega) (fun i σ' H' => ∃ o : Option V, σ' = [some (.ref l), some (.int r), some (.int b), some (.ref a), o, none, none] ∧ Ex H1 H' ∧ (∀ (j : Nat) (e : PyData), j < i → es[j]? = some e → isR (ds.length : Int) e = true) ∧ ∀ (j : Nat), j + 1 < i → (es.map valI).getD j 0 < (es.map valI).getD (j + 1) 0)
        (fun H2 e2 => ⟨none, rfl, e2, fun j e hj => absurd hj (Nat.not_lt_zero _), fun j hj => absurd hj (Nat.not_lt_zero _)⟩) ?_ ?_
      · rintro i σ' H2 hi ⟨o, rfl, e2, h1, h2⟩
        have hie : i < es.length := by omega
        have ha2 := e2 _ _ ha1
        have hl2 := hl1.mono e2
        obtain ⟨x, hx1, hx2⟩ := hxs1.at (List.getElem?_eq_getElem hie)
        have hee : es[i]? = some es[i] := List.getElem?_eq_getElem hie
        have gx := atI_nat hx1
        change tSeq _ _ _ [some (.ref l), some (.int r), some (.int b), some (.ref a), some (.int (i : Int)), none, none] H2
        have ix : ∀ {H3 : Hp}, Ex H2 H3 → Ev (tOp (rIxT K) (tVar 3) (tVar 4)) [some (.ref l), some (.int r), some (.int b), some (.ref a), some (.int (i : Int)), none, none] H3 x := fun e3 => ev_op (ev_var rfl) (ev_var rfl) (rv_ixT (st_of (e3 _ _ ha2)) gx)
        refine q_when (b := !isI es[i] || !(decide ((0 : Int) ≤ valI es[i]) && decide (valI es[i] < (us.length : Int)))) (et_or (et_not (et_B (ev_call (ea_cons (ix (Ex.refl _)) ea_nil) (spP_v fun H3 e3 => ⟨x, es[i], rfl, hx2.mono (e2.trans e3), rfl⟩)))) fun hI => et_not (et_test (by
            have hI' : isI es[i] = true := not_f hI
            have hxi : x = .int (valI es[i]) := by
              have z := hx2
              rw [isI_eq hI'] at z
              cases z
              rfl
            exact ev_chain (i := 0) (j := valI es[i]) (k := (us.length : Int)) ev_c (ev_is (ix (Ex.refl _)) hxi) (ev_lenR (ev_var rfl) hl2) rv_I0 rv_I0))) (fun hb H3 e3 => s_ret ev_c fun H4 e4 => ?_) (fun hb H3 e3 => ?_)
        · have hf : isR (ds.length : Int) es[i] = false := by
            unfold isR
            cases hI : isI es[i] with
            | false => rfl
            | true =>
              rw [hI] at hb
              have hb' : (decide ((0 : Int) ≤ valI es[i]) && decide (valI es[i] < (us.length : Int))) = false := not_t hb
              rw [Bool.true_and, ← hb']
              congr 1
              rw [decide_eq_decide]
              omega
          rw [notAll i _ hee hf] at k
          exact k H4 (((e1.trans e2).trans e3).trans e4)
        have hR : isR (ds.length : Int) es[i] = true := by
          unfold isR
          cases hI : isI es[i] with
          | false => rw [hI] at hb; cases hb
          | true =>
            rw [hI] at hb
            have hb' : (decide ((0 : Int) ≤ valI es[i]) && decide (valI es[i] < (us.length : Int))) = true := not_f hb
            rw [Bool.true_and, ← hb']
            congr 1
            rw [decide_eq_decide]
            omega
        have hIi : isI es[i] = true := (Bool.and_eq_true_iff.mp hR).1
        have hxi : x = .int (valI es[i]) := by
          have z := hx2
          rw [isI_eq hIi] at z
          cases z
          rfl
        have gi : (es.map valI).getD i 0 = valI es[i] := by
          rw [List.getD_eq_getElem?_getD, List.getElem?_map, hee]
          rfl
        have h1' : ∀ (j : Nat) (e : PyData), j < i + 1 → es[j]? = some e → isR (ds.length : Int) e = true := fun j e hj he => by
          rcases Nat.lt_succ_iff_lt_or_eq.mp hj with c | c
          · exact h1 j e c he
          · subst c
            rw [hee] at he
            cases he
            exact hR
        by_cases hi0 : 0 < i
        · have hie' : i - 1 < es.length := by omega
          obtain ⟨x', hx1', hx2'⟩ := hxs1.at (List.getElem?_eq_getElem hie')
          have hee' : es[i - 1]? = some es[i - 1] := List.getElem?_eq_getElem hie'
          have hIi' : isI es[i - 1] = true := (Bool.and_eq_true_iff.mp (h1 (i - 1) _ (by omega) hee')).1
          have hxi' : x' = .int (valI es[i - 1]) := by
            have z := hx2'
            rw [isI_eq hIi'] at z
            cases z
            rfl
          have gi' : (es.map valI).getD (i - 1) 0 = valI es[i - 1] := by
            rw [List.getD_eq_getElem?_getD, List.getElem?_map, hee']
            rfl
          have gx' := atI_nat hx1'
          rw [show ((i - 1 : Nat) : Int) = (i : Int) - 1 by omega] at gx'
          subst hxi hxi'
          refine s_when (b := decide ((i : Int) > 0) && decide (valI es[i] ≤ valI es[i - 1])) (et_and (et_test (ev_op (ev_var rfl) ev_c rv_I0)) fun _ => et_test (ev_op (ix e3) (ev_op (ev_var rfl) (ev_op (ev_var rfl) ev_c rv_I0) (rv_ixT (st_of (e3 _ _ ha2)) gx')) rv_I0)) (fun hb H4 e4 => s_ret ev_c fun H5 e5 => ?_) (fun hb H4 e4 => ?_)
          · have hle := of_decide_eq_true (Bool.and_eq_true_iff.mp hb).2
            rw [notAsc fun hp => ?_] at k
            · exact k H5 ((((e1.trans e2).trans e3).trans e4).trans e5)
            · have := (List.pairwise_iff_getElem.mp hp) (i - 1) i (by rw [List.length_map]; omega) (by rw [List.length_map]; omega) (by omega)
              rw [List.getElem_map, List.getElem_map] at this
              omega
          · refine ⟨_, rfl, (e2.trans e3).trans e4, h1', fun j hj => ?_⟩
            by_cases c : j + 1 < i
            · exact h2 j c
            · have ej : j = i - 1 := by omega
              subst ej
              rw [show i - 1 + 1 = i by omega, gi, gi']
              rw [decide_eq_true (show (i : Int) > 0 by omega), Bool.true_and] at hb
              have := of_decide_eq_false hb
              omega
        · refine s_when (b := decide ((i : Int) > 0) && false) (et_and (et_test (ev_op (ev_var rfl) ev_c rv_I0)) fun z => absurd (of_decide_eq_true z) (by omega)) (fun hb => by simp at hb) (fun hb H4 e4 => ⟨_, rfl, (e2.trans e3).trans e4, h1', fun j hj => by omega⟩)
      · rintro σ' H2 ⟨o, rfl, e2, h1, h2⟩
        have hall : es.all (isR (ds.length : Int)) = true := List.all_eq_true.mpr fun e he => by
          obtain ⟨j, hj, rfl⟩ := List.getElem_of_mem he
          exact h1 j _ (by omega) (List.getElem?_eq_getElem hj)
        have hasc : (es.map valI).Pairwise (· < ·) := asc_of_steps fun j hj => by
          have hj' : j + 1 < xs.length := by rw [List.length_map] at hj; omega
          have z := h2 j hj'
          rw [List.getD_eq_getElem?_getD, List.getD_eq_getElem?_getD, List.getElem?_eq_getElem hj, List.getElem?_eq_getElem (show j < (es.map valI).length by omega)] at z
          exact z
        rw [hall, Bool.true_and] at k
        have ees := ints_of hall
        have exs : xs = (es.map valI).map V.int := by rw [ees] at hxs1; exact hxs1.int_inv
        have hrg : ∀ x ∈ es.map valI, 0 ≤ x ∧ x < (ds.length : Int) := fun x hx => by
          obtain ⟨e, he, rfl⟩ := List.mem_map.mp hx
          have := List.all_eq_true.mp hall e he
          unfold isR at this
          simp only [Bool.and_eq_true, decide_eq_true_eq] at this
          omega
        have hnl : (es.map valI).length = es.length := List.length_map _
        clear h1 h2 notAll notAsc hxs1 hxs ees
        generalize es.map valI = ns at *
        subst exs
        cases ns with
        | nil => simp at hnl; omega
        | cons i t =>
          have hi := hrg i List.mem_cons_self
          have hin : i.toNat < ds.length := by omega
          have ha2 := e2 _ _ ha1
          have hl2 := hl1.mono e2
          have hus2 := hus1.mono e2
          obtain ⟨td, hd1, hd2⟩ := deeds_at hus2 hin
          have hdi : ds[i.toNat]? = some ds[i.toNat] := List.getElem?_eq_getElem hin
          have ati : atI us i = some (.ref td) := by
            have z := atI_nat hd1
            rw [Int.toNat_of_nonneg hi.1] at z
            exact z
          rw [chS_cons hdi, decide_eq_true hasc, Bool.true_and] at k
          have e02 := e1.trans e2
          have i0 : ∀ {j : Int} {u : V}, atI ds[i.toNat].vs j = some u → Ev (tOp (rIxT K) (tOp (rIxR K) (tVar 0) (tOp (rIxT K) (tVar 3) (tC (.int 0)))) (tC (.int j))) [some (.ref l), some (.int r), some (.int b), some (.ref a), o, none, none] H2 u := fun hj => ev_op (ev_op (ev_var rfl) (ev_op (ev_var rfl) ev_c (rv_ixT (st_of ha2) (v := .int i) (atI_nat (j := 0) rfl))) (rv_ixR hl2 ati)) ev_c (rv_ixT (st_of hd2) hj)
          refine q_when (b := !isWri ds[i.toNat] || !decide (V.int (ds[i.toNat].one : Int) = V.int r)) (et_or (et_is (et_test (ev_op (i0 ds[i.toNat].at0) ev_c (rv_ne rfl))) (by rw [word_wri])) fun _ => et_test (ev_op (i0 ds[i.toNat].at1) (ev_var rfl) (rv_ne rfl))) (fun hb H3 e3 => s_ret ev_c fun H4 e4 => ?_) (fun hb H3 e3 => ?_)
          · have : (isWri ds[i.toNat] && decide ((ds[i.toNat].one : Int) = r)) = false := by
              cases hW : isWri ds[i.toNat] with
              | false => rfl
              | true =>
                rw [hW] at hb
                have := not_t hb
                rw [Bool.true_and, ← this, decide_eq_decide]
                exact ⟨fun e => by rw [e], fun e => by injection e⟩
            rw [this, Bool.false_and] at k
            exact k H4 ((e02.trans e3).trans e4)
          have hw1 : isWri ds[i.toNat] = true := by
            cases hW : isWri ds[i.toNat] with
            | false => rw [hW] at hb; cases hb
            | true => rfl
          have hw2 : (ds[i.toNat].one : Int) = r := by
            rw [hw1] at hb
            have := of_decide_eq_true (not_f hb)
            injection this
          rw [hw1, decide_eq_true hw2, Bool.true_and, Bool.true_and] at k
          refine q_asg (v := .int r) (ev_var rfl) fun H4 e4 => ?_
          have ha4 := (e3.trans e4) _ _ ha2
          change tSeq _ _ _ [some (.ref l), some (.int r), some (.int b), some (.ref a), o, some (.int r), none] H4
          have hsl : EvS (tSl (rSlA K) (tVar 3) (tPart (tC (.int 1))) tNoPart) [some (.ref l), some (.int r), some (.int b), some (.ref a), o, some (.int r), none] H4 (t.map V.int) := by
            have q := es_sl (K := K) (te := tVar 3) (σ := [some (.ref l), some (.int r), some (.int b), some (.ref a), o, some (.int r), none]) (H := H4) (tl := tPart (tC (.int 1))) (th := tNoPart) (ev_var rfl) (eo_some (i := 1) ev_c) eo_none ha4
            rw [show (1 : Int) = ((1 : Nat) : Int) from rfl, cut_from _ _ (by simp)] at q
            exact q
          have e04 := e02.trans (e3.trans e4)
          refine q_forS (K := K) hsl (fun p j σ' H' => ∃ (h : Int) (o' : Option V), σ' = [some (.ref l), some (.int r), some (.int b), some (.ref a), o, some (.int h), o'] ∧ Ex H4 H' ∧ H' p = some (.tup (t.map V.int)) ∧ fol ds r t = fol ds h (t.drop j)) (fun p H5 e5 hp => ⟨r, none, rfl, e5, hp, rfl⟩) (fun p j σ' H' _ ⟨_, _, _, _, hp, _⟩ => st_of hp) ?_ ?_
          · rintro p j x σ' H5 hx ⟨h, o', rfl, e5, hp, hfol⟩
            rw [List.getElem?_map] at hx
            cases hn : t[j]? with
            | none => rw [hn] at hx; cases hx
            | some n =>
              rw [hn] at hx
              have ex : x = .int n := (Option.some.inj hx).symm
              subst ex
              have hnr := hrg n (List.mem_cons_of_mem _ (List.mem_of_getElem? hn))
              have hnn : n.toNat < ds.length := by omega
              have hl5 := hl2.mono ((e3.trans e4).trans e5)
              have hus5 := hus2.mono ((e3.trans e4).trans e5)
              obtain ⟨tn, hn1, hn2⟩ := deeds_at hus5 hnn
              have hdn : ds[n.toNat]? = some ds[n.toNat] := List.getElem?_eq_getElem hnn
              have atn : atI us n = some (.ref tn) := by
                have z := atI_nat hn1
                rw [Int.toNat_of_nonneg hnr.1] at z
                exact z
              have hdrop : t.drop j = n :: t.drop (j + 1) := by
                obtain ⟨hj, e⟩ := List.getElem?_eq_some_iff.mp hn
                rw [List.drop_eq_getElem_cons hj, e]
              rw [hdrop, fol_cons hdn] at hfol
              refine g_name ?_
              change tSeq _ _ _ [some (.ref l), some (.int r), some (.int b), some (.ref a), o, some (.int h), some (.int n)] H5
              have i5 : ∀ {j : Int} {u : V} {H6 : Hp}, Ex H5 H6 → atI ds[n.toNat].vs j = some u → Ev (tOp (rIxT K) (tOp (rIxR K) (tVar 0) (tVar 6)) (tC (.int j))) [some (.ref l), some (.int r), some (.int b), some (.ref a), o, some (.int h), some (.int n)] H6 u := fun e6 hj => ev_op (ev_op (ev_var rfl) (ev_var rfl) (rv_ixR (hl5.mono e6) atn)) ev_c (rv_ixT (st_of (e6 _ _ hn2)) hj)
              refine q_when (b := !isPas ds[n.toNat] || !decide (V.int (ds[n.toNat].one : Int) = V.int h)) (et_or (et_is (et_test (ev_op (i5 (Ex.refl _) ds[n.toNat].at0) ev_c (rv_ne rfl))) (by rw [word_pas])) fun _ => et_test (ev_op (i5 (Ex.refl _) ds[n.toNat].at1) (ev_var rfl) (rv_ne rfl))) (fun hb H6 e6 => s_ret ev_c fun H7 e7 => ?_) (fun hb H6 e6 => ?_)
              · have hb' : (isPas ds[n.toNat] && decide ((ds[n.toNat].one : Int) = h)) = false := by
                  cases hW : isPas ds[n.toNat] with
                  | false => rfl
                  | true =>
                    rw [hW] at hb
                    have := not_t hb
                    rw [Bool.true_and, ← this, decide_eq_decide]
                    exact ⟨fun e => by rw [e], fun e => by injection e⟩
                rw [hb'] at hfol
                rw [hfol] at k
                exact k H7 ((e04.trans e5).trans (e6.trans e7))
              · have hp1 : isPas ds[n.toNat] = true := by
                  cases hW : isPas ds[n.toNat] with
                  | false => rw [hW] at hb; cases hb
                  | true => rfl
                have hp2 : (ds[n.toNat].one : Int) = h := by
                  rw [hp1] at hb
                  have := of_decide_eq_true (not_f hb)
                  injection this
                rw [hp1, decide_eq_true hp2, Bool.true_and, if_pos rfl] at hfol
                obtain ⟨x1, x2, hx12⟩ : ∃ x1 x2, ds[n.toNat] = .pas x1 x2 := by
                  cases hdd : ds[n.toNat] <;> rw [hdd] at hp1 <;> first | (cases hp1; done) | exact ⟨_, _, rfl⟩
                refine s_asg (v := .int (x2 : Int)) (i5 e6 (by rw [hx12]; exact atI_nat (j := 2) rfl)) fun H7 e7 => ?_
                rw [hx12] at hfol
                exact ⟨(x2 : Int), _, rfl, e5.trans (e6.trans e7), (e6.trans e7) _ _ hp, hfol⟩
          · rintro p σ' H5 ⟨h, o', rfl, e5, hp, hfol⟩
            rw [List.length_map, List.drop_length] at hfol
            refine s_ret (ev_is (ev_op (ev_var rfl) (ev_var rfl) (rv_eq rfl)) ?_) fun H6 e6 => k H6 ((e04.trans e5).trans e6)
            rw [hfol]
            show V.bl (decide (V.int h = V.int b)) = V.bl (decide (some h = some b))
            congr 1
            rw [decide_eq_decide]
            simp
end
end Wk

set_option Elab.async false
set_option linter.all false
set_option maxRecDepth 100000
set_option maxHeartbeats 2000000
namespace Wk
open PySem PySem.Spec PyProof.Rows L2 Evl
/-! latest chains as mathematics -/
abbrev Lcs := Nat → List Nat
/-- x[:1] > y[:1] -/
def hdGt : List Nat → List Nat → Bool
  | [], _ => false
  | _ :: _, [] => true
  | a :: _, b :: _ => decide (b < a)
def latS (r m : Nat) (L : Lcs) : Deed → Lcs
  | .wri r' _ => if r' = r then fun k => if k = r then [m] else L k else L
  | .pas a b => if hdGt (L a) (L b) = true then fun k => if k = b then L a ++ [m] else L k else L
  | _ => L
theorem latS_wri (r m : Nat) (L : Lcs) (r' c : Nat) : latS r m L (.wri r' c) = if r' = r then fun k => if k = r then [m] else L k else L := rfl
theorem latS_pas (r m : Nat) (L : Lcs) (a b : Nat) : latS r m L (.pas a b) = if hdGt (L a) (L b) = true then fun k => if k = b then L a ++ [m] else L k else L := rfl
/-- the chains after the first m deeds -/
def latN (ds : List Deed) (r : Nat) : Nat → Lcs
  | 0 => fun _ => []
  | m + 1 => match ds[m]? with
    | some d => latS r m (latN ds r m) d
    | none => latN ds r m
theorem latN_succ {ds : List Deed} {r m : Nat} {d : Deed} (h : ds[m]? = some d) : latN ds r (m + 1) = latS r m (latN ds r m) d := by
  show (match ds[m]? with | some d => latS r m (latN ds r m) d | none => latN ds r m) = _
  rw [h]
def isWr (ds : List Deed) (r w : Nat) : Prop := ∃ c, ds[w]? = some (.wri r c)
/-- the routers that the write w has come to behind the first m deeds -/
def rcN (ds : List Deed) (w : Nat) : Nat → Nat → Bool
  | 0, _ => false
  | m + 1, b => if m = w then (match ds[w]? with | some d => decide (d.one = b) | none => false) else
      match ds[m]? with
      | some (.pas a b') => rcN ds w m b || (decide (b = b') && rcN ds w m a)
      | _ => rcN ds w m b
theorem rcN_early {ds : List Deed} {w : Nat} : ∀ {m b : Nat}, m ≤ w → rcN ds w m b = false
  | 0, _, _ => rfl
  | m + 1, b, h => by
    have ih : ∀ b, rcN ds w m b = false := fun b => rcN_early (by omega)
    unfold rcN
    rw [if_neg (by omega)]
    split
    · rw [ih, ih, Bool.and_false]; rfl
    · exact ih b
theorem rcN_at {ds : List Deed} {w b : Nat} {d : Deed} (h : ds[w]? = some d) : rcN ds w (w + 1) b = decide (d.one = b) := by
  unfold rcN
  rw [if_pos rfl, h]
theorem rcN_pas {ds : List Deed} {w m a b' b : Nat} (hne : m ≠ w) (h : ds[m]? = some (.pas a b')) : rcN ds w (m + 1) b = (rcN ds w m b || (decide (b = b') && rcN ds w m a)) := by
  conv => lhs; unfold rcN
  rw [if_neg hne, h]
theorem rcN_oth {ds : List Deed} {w m b : Nat} {d : Deed} (hne : m ≠ w) (h : ds[m]? = some d) (hd : isPas d = false) : rcN ds w (m + 1) b = rcN ds w m b := by
  conv => lhs; unfold rcN
  rw [if_neg hne, h]
  cases d with
  | pas x y => cases hd
  | los x y => rfl
  | rst x => rfl
  | wri x y => rfl
/-- what the heads of the chains are: the last write that has come there -/
structure HdOk (ds : List Deed) (r m : Nat) : Prop where
  is_ : ∀ b w, (latN ds r m b).head? = some w → w < m ∧ isWr ds r w ∧ rcN ds w m b = true
  mx : ∀ b w, w < m → isWr ds r w → rcN ds w m b = true → ∃ w', (latN ds r m b).head? = some w' ∧ w ≤ w'
theorem hdGt_of {x y : List Nat} : hdGt x y = true ↔ ∃ a, x.head? = some a ∧ ∀ b, y.head? = some b → b < a := by
  cases x with
  | nil => exact ⟨fun z => (by cases z), fun ⟨a, h, _⟩ => (by cases h)⟩
  | cons a x =>
    cases y with
    | nil => exact ⟨fun _ => ⟨a, rfl, fun b h => (by cases h)⟩, fun _ => rfl⟩
    | cons b y =>
      constructor
      · intro h
        exact ⟨a, rfl, fun b' h' => by cases h'; exact of_decide_eq_true h⟩
      · rintro ⟨a', h1, h2⟩
        cases h1
        exact decide_eq_true (h2 b rfl)
theorem hdOk (ds : List Deed) (r : Nat) : ∀ m, m ≤ ds.length → HdOk ds r m
  | 0, _ => ⟨fun b w h => (by cases h), fun b w h => absurd h (Nat.not_lt_zero _)⟩
  | m + 1, hm => by
    have ih := hdOk ds r m (by omega)
    have hd : ds[m]? = some ds[m] := List.getElem?_eq_getElem (by omega)
    generalize ds[m] = d at hd
    have early : ∀ (b w : Nat), w < m + 1 → isWr ds r w → w = m → ∃ c, d = .wri r c := fun b w _ hw e => by
      obtain ⟨c, hc⟩ := hw
      rw [e, hd] at hc
      exact ⟨c, Option.some.inj hc⟩
    refine ⟨fun b w h => ?_, fun b w hwm hw hrc => ?_⟩
    · rw [latN_succ hd] at h
      cases d with
      | wri r' c =>
        rw [latS_wri] at h
        by_cases e : r' = r
        · rw [if_pos e] at h
          by_cases eb : b = r
          · simp only [eb, if_true] at h
            cases h
            subst e
            exact ⟨by omega, ⟨c, hd⟩, by rw [rcN_at hd, eb]; exact decide_eq_true rfl⟩
          · simp only [eb, if_false] at h
            obtain ⟨h1, h2, h3⟩ := ih.is_ b w h
            exact ⟨by omega, h2, by rw [rcN_oth (by omega) hd rfl]; exact h3⟩
        · rw [if_neg e] at h
          obtain ⟨h1, h2, h3⟩ := ih.is_ b w h
          exact ⟨by omega, h2, by rw [rcN_oth (by omega) hd rfl]; exact h3⟩
      | pas a b' =>
        rw [latS_pas] at h
        by_cases e : hdGt (latN ds r m a) (latN ds r m b') = true
        · rw [if_pos e] at h
          by_cases eb : b = b'
          · simp only [eb, if_true] at h
            obtain ⟨w0, hw0, _⟩ := hdGt_of.mp e
            have : (latN ds r m a).head? = some w := by
              cases hq : latN ds r m a with
              | nil => rw [hq] at hw0; cases hw0
              | cons x y => rw [hq] at h; exact h
            obtain ⟨h1, h2, h3⟩ := ih.is_ a w this
            exact ⟨by omega, h2, by rw [rcN_pas (by omega) hd, h3, eb, decide_eq_true rfl, Bool.and_self, Bool.or_true]⟩
          · simp only [eb, if_false] at h
            obtain ⟨h1, h2, h3⟩ := ih.is_ b w h
            exact ⟨by omega, h2, by rw [rcN_pas (by omega) hd, h3, Bool.true_or]⟩
        · rw [if_neg e] at h
          obtain ⟨h1, h2, h3⟩ := ih.is_ b w h
          exact ⟨by omega, h2, by rw [rcN_pas (by omega) hd, h3, Bool.true_or]⟩
      | los x y =>
        obtain ⟨h1, h2, h3⟩ := ih.is_ b w h
        exact ⟨by omega, h2, by rw [rcN_oth (by omega) hd rfl]; exact h3⟩
      | rst x =>
        obtain ⟨h1, h2, h3⟩ := ih.is_ b w h
        exact ⟨by omega, h2, by rw [rcN_oth (by omega) hd rfl]; exact h3⟩
    · rw [latN_succ hd]
      by_cases ewm : w = m
      · obtain ⟨c, rfl⟩ := early b w hwm hw ewm
        subst ewm
        rw [rcN_at hd] at hrc
        have hb : r = b := of_decide_eq_true hrc
        subst hb
        rw [latS_wri]
        rw [if_pos rfl]
        simp only [if_true]
        exact ⟨w, rfl, Nat.le_refl w⟩
      · have hwm' : w < m := by omega
        cases d with
        | wri r' c =>
          rw [rcN_oth (fun z => ewm z.symm) hd rfl] at hrc
          obtain ⟨w', h1, h2⟩ := ih.mx b w hwm' hw hrc
          rw [latS_wri]
          by_cases e : r' = r
          · rw [if_pos e]
            by_cases eb : b = r
            · simp only [eb, if_true]
              exact ⟨m, rfl, by omega⟩
            · simp only [eb, if_false]
              exact ⟨w', h1, h2⟩
          · rw [if_neg e]
            exact ⟨w', h1, h2⟩
        | pas a b' =>
          rw [rcN_pas (fun z => ewm z.symm) hd] at hrc
          rw [latS_pas]
          by_cases e : hdGt (latN ds r m a) (latN ds r m b') = true
          · rw [if_pos e]
            by_cases eb : b = b'
            · simp only [eb, if_true]
              obtain ⟨w0, hw0, hw1⟩ := hdGt_of.mp e
              have hh : (latN ds r m a ++ [m]).head? = some w0 := by
                cases hq : latN ds r m a with
                | nil => rw [hq] at hw0; cases hw0
                | cons x y => rw [hq] at hw0; exact hw0
              refine ⟨w0, hh, ?_⟩
              rcases Bool.or_eq_true_iff.mp hrc with z | z
              · rw [eb] at z
                obtain ⟨w', h1, h2⟩ := ih.mx b' w hwm' hw z
                have := hw1 w' h1
                omega
              · obtain ⟨w', h1, h2⟩ := ih.mx a w hwm' hw (Bool.and_eq_true_iff.mp z).2
                rw [hw0] at h1
                cases h1
                exact h2
            · simp only [eb, if_false]
              rw [decide_eq_false eb, Bool.false_and, Bool.or_false] at hrc
              exact ih.mx b w hwm' hw hrc
          · rw [if_neg e]
            rcases Bool.or_eq_true_iff.mp hrc with z | z
            · exact ih.mx b w hwm' hw z
            · obtain ⟨z1, z2⟩ := Bool.and_eq_true_iff.mp z
              have z1 := of_decide_eq_true z1
              obtain ⟨w', h1, h2⟩ := ih.mx a w hwm' hw z2
              have : ¬ ∀ b0, (latN ds r m b').head? = some b0 → b0 < w' := fun h => e (hdGt_of.mpr ⟨w', h1, h⟩)
              cases hq : (latN ds r m b').head? with
              | none => exact absurd (fun b0 h => by rw [hq] at h; cases h) this
              | some v =>
                refine ⟨v, by rw [z1]; exact hq, ?_⟩
                by_cases c : v < w'
                · exact absurd (fun b0 h => by rw [hq] at h; cases h; exact c) this
                · omega
        | los x y =>
          rw [rcN_oth (fun z => ewm z.symm) hd rfl] at hrc
          exact ih.mx b w hwm' hw hrc
        | rst x =>
          rw [rcN_oth (fun z => ewm z.symm) hd rfl] at hrc
          exact ih.mx b w hwm' hw hrc
end Wk

set_option Elab.async false
set_option linter.all false
set_option maxRecDepth 100000
set_option maxHeartbeats 2000000
namespace Wk
open PySem PySem.Spec PyProof.Rows L2 Evl
def nZ (l : List Nat) : List Int := l.map fun i : Nat => (i : Int)
/-- a latest chain is a chain -/
structure ChL (ds : List Deed) (r m b : Nat) (l : List Nat) : Prop where
  ex : ∃ w t, l = w :: t ∧ isWr ds r w ∧ fol ds (r : Int) (nZ t) = some (b : Int)
  pw : l.Pairwise (· < ·)
  lt : ∀ x ∈ l, x < m
theorem ChL.up {ds : List Deed} {r m b : Nat} {l : List Nat} (h : ChL ds r m b l) : ChL ds r (m + 1) b l := ⟨h.ex, h.pw, fun x hx => Nat.lt_succ_of_lt (h.lt x hx)⟩
theorem chL (ds : List Deed) (r : Nat) : ∀ m, m ≤ ds.length → ∀ b, latN ds r m b = [] ∨ ChL ds r m b (latN ds r m b)
  | 0, _, b => .inl rfl
  | m + 1, hm, b => by
    have ih := chL ds r m (by omega)
    have hd : ds[m]? = some ds[m] := List.getElem?_eq_getElem (by omega)
    generalize ds[m] = d at hd
    rw [latN_succ hd]
    cases d with
    | wri r' c =>
      rw [latS_wri]
      by_cases e : r' = r
      · rw [if_pos e]
        by_cases eb : b = r
        · simp only [eb, if_true]
          subst e
          exact .inr ⟨⟨m, [], rfl, ⟨c, hd⟩, rfl⟩, List.pairwise_singleton _ _, fun x hx => by rw [List.mem_singleton.mp hx]; omega⟩
        · simp only [eb, if_false]
          exact (ih b).imp id ChL.up
      · rw [if_neg e]
        exact (ih b).imp id ChL.up
    | pas a b' =>
      rw [latS_pas]
      by_cases e : hdGt (latN ds r m a) (latN ds r m b') = true
      · rw [if_pos e]
        by_cases eb : b = b'
        · simp only [eb, if_true]
          obtain ⟨w0, hw0, _⟩ := hdGt_of.mp e
          rcases ih a with z | z
          · rw [z] at hw0; cases hw0
          · obtain ⟨w, t, h1, h2, h3⟩ := z.ex
            refine .inr ⟨⟨w, t ++ [m], by rw [h1]; rfl, h2, ?_⟩, ?_, fun x hx => ?_⟩
            · unfold nZ at h3 ⊢
              rw [List.map_append]
              exact fol_snoc hd h3
            · rw [List.pairwise_append]
              exact ⟨z.pw, List.pairwise_singleton _ _, fun x hx y hy => by rw [List.mem_singleton.mp hy]; exact z.lt x hx⟩
            · rcases List.mem_append.mp hx with q | q
              · exact Nat.lt_succ_of_lt (z.lt x q)
              · rw [List.mem_singleton.mp q]; omega
        · simp only [eb, if_false]
          exact (ih b).imp id ChL.up
      · rw [if_neg e]
        exact (ih b).imp id ChL.up
    | los x y => exact (ih b).imp id ChL.up
    | rst x => exact (ih b).imp id ChL.up
/-! the books of a flood without restarts -/
def csN (ds : List Deed) : Nat → Nat → Option Nat
  | 0 => fun _ => none
  | m + 1 => match ds[m]? with
    | some d => stepC (csN ds m) d
    | none => csN ds m
def bkN (ds : List Deed) : Nat → Nat → Bk
  | 0 => fun _ _ => none
  | m + 1 => match ds[m]? with
    | some d => stepB (bkN ds m) (csN ds m) d
    | none => bkN ds m
theorem bkN_succ {ds : List Deed} {m : Nat} {d : Deed} (h : ds[m]? = some d) : bkN ds (m + 1) = stepB (bkN ds m) (csN ds m) d := by
  show (match ds[m]? with | some d => stepB (bkN ds m) (csN ds m) d | none => bkN ds m) = _
  rw [h]
theorem stepB_wri (B : Nat → Bk) (cs : Nat → Option Nat) (r c : Nat) : stepB B cs (.wri r c) = fun k => if k = r then setB (B r) r (numN (B r r), c) else B k := rfl
theorem stepB_pas (B : Nat → Bk) (cs : Nat → Option Nat) (a b : Nat) : stepB B cs (.pas a b) = fun k => if k = b then mergeX (B b) (B a) b (cs b) else B k := rfl
/-- how many of the first m deeds write at r -/
def cntW (ds : List Deed) (r : Nat) : Nat → Nat
  | 0 => 0
  | m + 1 => cntW ds r m + (match ds[m]? with | some (.wri r' _) => if r' = r then 1 else 0 | _ => 0)
def conW (ds : List Deed) (w : Nat) : Nat := match ds[w]? with
  | some (.wri _ c) => c
  | _ => 0
def entW (ds : List Deed) (r w : Nat) : Ent := (cntW ds r (w + 1), conW ds w)
theorem cntW_wr {ds : List Deed} {r m : Nat} (h : isWr ds r m) : cntW ds r (m + 1) = cntW ds r m + 1 := by
  obtain ⟨c, hc⟩ := h
  show cntW ds r m + _ = _
  rw [hc]
  simp
theorem cntW_no {ds : List Deed} {r m : Nat} (h : ¬ isWr ds r m) : cntW ds r (m + 1) = cntW ds r m := by
  show cntW ds r m + _ = _
  split
  · rename_i r' c hc
    rw [if_neg (fun z => h ⟨c, by rw [hc, z]⟩)]
    exact Nat.add_zero _
  · rfl
theorem cntW_le {ds : List Deed} {r : Nat} : ∀ {m k : Nat}, m ≤ k → cntW ds r m ≤ cntW ds r k
  | m, 0, h => by rw [show m = 0 by omega]; exact Nat.le_refl _
  | m, k + 1, h => by
    by_cases c : m = k + 1
    · rw [c]; exact Nat.le_refl _
    · have ih := cntW_le (ds := ds) (r := r) (m := m) (k := k) (by omega)
      have : cntW ds r k ≤ cntW ds r (k + 1) := Nat.le_add_right _ _
      omega
theorem cntW_flat {ds : List Deed} {r w : Nat} : ∀ {m : Nat}, w ≤ m → (∀ v, w ≤ v → v < m → ¬ isWr ds r v) → cntW ds r m = cntW ds r w
  | 0, h, _ => by rw [show w = 0 by omega]
  | m + 1, h, hn => by
    by_cases c : w = m + 1
    · rw [c]
    · rw [cntW_no (hn m (by omega) (by omega))]
      exact cntW_flat (by omega) fun v h1 h2 => hn v h1 (by omega)
theorem gt_ent {ds : List Deed} {r v w : Nat} (hv : isWr ds r v) (hw : isWr ds r w) : gtN (entW ds r v) (entW ds r w) = decide (w < v) := by
  have up : ∀ {a b : Nat}, isWr ds r b → a < b → cntW ds r (a + 1) < cntW ds r (b + 1) := fun {a b} hb hab => by
    rw [cntW_wr hb]
    have := cntW_le (ds := ds) (r := r) (m := a + 1) (k := b) (by omega)
    omega
  unfold gtN gtE entW
  rcases Nat.lt_trichotomy w v with c | c | c
  · have := up hv c
    rw [if_neg (by first | omega | (simp only; omega)), decide_eq_true c, decide_eq_true (by first | omega | (simp only; omega))]
  · subst c
    rw [if_pos rfl, decide_eq_false (Nat.lt_irrefl _), decide_eq_false (by omega)]
  · have := up hw c
    rw [if_neg (by first | omega | (simp only; omega)), decide_eq_false (by omega), decide_eq_false (by first | omega | (simp only; omega))]
/-- a write has come to its own router -/
theorem rcN_own {ds : List Deed} {r w : Nat} (hw : isWr ds r w) : ∀ {m : Nat}, w < m → rcN ds w m r = true
  | 0, h => absurd h (Nat.not_lt_zero _)
  | m + 1, h => by
    obtain ⟨c, hc⟩ := hw
    by_cases e : m = w
    · subst e
      rw [rcN_at hc]
      exact decide_eq_true rfl
    · have ih := rcN_own ⟨c, hc⟩ (m := m) (by omega)
      unfold rcN
      rw [if_neg e]
      split
      · rw [ih, Bool.true_or]
      · exact ih
def NoRst (ds : List Deed) : Prop := ∀ (m r : Nat), ds[m]? ≠ some (.rst r)
theorem bk_lat {ds : List Deed} (hr : NoRst ds) : ∀ m, m ≤ ds.length → ∀ b r, bkN ds m b r = ((latN ds r m b).head?).map (entW ds r)
  | 0, _, b, r => rfl
  | m + 1, hm, b, r => by
    have ih := bk_lat hr m (by omega)
    have hd : ds[m]? = some ds[m] := List.getElem?_eq_getElem (by omega)
    generalize ds[m] = d at hd
    have H := hdOk ds r m (by omega)
    rw [bkN_succ hd, latN_succ hd]
    cases d with
    | rst x => exact absurd hd (hr m x)
    | los x y => exact ih b r
    | wri r' c =>
      rw [stepB_wri, latS_wri]
      by_cases eb : b = r'
      · subst eb
        simp only [if_true]
        unfold setB
        by_cases er : r = b
        · subst er
          rw [if_pos rfl]
          simp only [if_true]
          rw [ih r r]
          have hwm : isWr ds r m := ⟨c, hd⟩
          have hc : conW ds m = c := by unfold conW; rw [hd]
          show some (numN _, c) = some (entW ds r m)
          unfold entW
          rw [hc, cntW_wr hwm]
          congr 1
          congr 1
          cases hq : (latN ds r m r).head? with
          | none =>
            show 1 = _
            have : cntW ds r m = cntW ds r 0 := cntW_flat (Nat.zero_le _) fun v _ hv hw => by
              obtain ⟨w', h1, _⟩ := H.mx r v hv hw (rcN_own hw hv)
              rw [hq] at h1
              cases h1
            rw [this]
            rfl
          | some w =>
            show cntW ds r (w + 1) + 1 = _
            obtain ⟨h1, _⟩ := H.is_ r w hq
            have : cntW ds r m = cntW ds r (w + 1) := cntW_flat (by omega) fun v hv1 hv hw => by
              obtain ⟨w', g1, g2⟩ := H.mx r v hv hw (rcN_own hw hv)
              rw [hq] at g1
              cases g1
              omega
            omega
        · rw [if_neg er]
          rw [if_neg (fun z => er z.symm)]
          exact ih b r
      · simp only [eb, if_false]
        by_cases er : r' = r
        · rw [if_pos er]
          simp only [show ¬ b = r from fun z => eb (z.trans er.symm), if_false]
          exact ih b r
        · rw [if_neg er]
          exact ih b r
    | pas a b' =>
      rw [stepB_pas, latS_pas]
      by_cases eb : b = b'
      · subst eb
        simp only [if_true]
        have own : newer (bkN ds m b) (bkN ds m a) b = false := by
          have Hb := hdOk ds b m (by omega)
          unfold newer
          rw [ih a b, ih b b]
          cases ha : (latN ds b m a).head? with
          | none => rfl
          | some v =>
            obtain ⟨h1, h2, h3⟩ := Hb.is_ a v ha
            obtain ⟨w', g1, g2⟩ := Hb.mx b v h1 h2 (rcN_own h2 h1)
            rw [g1]
            obtain ⟨_, k2, _⟩ := Hb.is_ b w' g1
            show gtN (entW ds b v) (entW ds b w') = false
            rw [gt_ent h2 k2]
            exact decide_eq_false (by omega)
        have gb : greaterB (bkN ds m b) (bkN ds m a) b = none := by
          unfold greaterB
          rw [own]
          rfl
        have mg : mergeX (bkN ds m b) (bkN ds m a) b (csN ds m b) r = if newer (bkN ds m b) (bkN ds m a) r = true then bkN ds m a r else bkN ds m b r := by
          unfold mergeX bumpB
          rw [gb]
          show (match greaterB (bkN ds m b) (bkN ds m a) r with | some e => some e | none => bkN ds m b r) = _
          unfold greaterB
          by_cases c : newer (bkN ds m b) (bkN ds m a) r = true
          · rw [if_pos c, if_pos c]
            cases hq : bkN ds m a r with
            | some e => rfl
            | none =>
              unfold newer at c
              rw [hq] at c
              cases c
          · rw [if_neg c, if_neg c]
        rw [mg]
        have hn : newer (bkN ds m b) (bkN ds m a) r = hdGt (latN ds r m a) (latN ds r m b) := by
          unfold newer
          rw [ih a r, ih b r]
          cases ha : latN ds r m a with
          | nil => rfl
          | cons v x =>
            cases hb : latN ds r m b with
            | nil => rfl
            | cons w y =>
              show gtN (entW ds r v) (entW ds r w) = decide (w < v)
              exact gt_ent (H.is_ a v (by rw [ha]; rfl)).2.1 (H.is_ b w (by rw [hb]; rfl)).2.1
        rw [hn]
        by_cases e : hdGt (latN ds r m a) (latN ds r m b) = true
        · rw [if_pos e, if_pos e]
          simp only [if_true]
          rw [ih a r]
          obtain ⟨w0, hw0, _⟩ := hdGt_of.mp e
          cases hq : latN ds r m a with
          | nil => rw [hq] at hw0; cases hw0
          | cons x y => rfl
        · rw [if_neg e, if_neg e]
          exact ih b r
      · simp only [eb, if_false]
        by_cases e : hdGt (latN ds r m a) (latN ds r m b') = true
        · rw [if_pos e]
          simp only [eb, if_false]
          exact ih b r
        · rw [if_neg e]
          exact ih b r
end Wk

set_option Elab.async false
set_option linter.all false
set_option maxRecDepth 100000
set_option maxHeartbeats 4000000
namespace Wk
open PySem PySem.Spec PyProof.Rows L2 Evl
/-! for i, x in enumerate(a list or a tuple) -/
theorem pi_either {X : Cx} {tg e : Expr} {w1 w2 : TI} (h1 : PI X tg e w1) (h2 : PI X tg e w2) : PI X tg e (fun σ H R => w1 σ H R ∨ w2 σ H R) := ⟨fun pins s σ H R I h => h.elim (h1.run pins s σ H R I) (h2.run pins s σ H R I)⟩
theorem pi_enumK {X : Cx} {K : PySem.W.Frag} (hK : X.K = K) {e : Expr} {ta : TA} {p pos tpos : Pos} {elts : List Expr} {kk : Nat} (hg : Gl X "enumerate") (hm : X.mg "enumerate" = none) (ha : PA X [e] ta) (hs : starEach [e] X.env = [(false, eval e X.env)] := by rfl) :
    PI X (.Tuple elts kk tpos) (.Call (.Name "enumerate" p) [e] [] pos) (fun σ H R => iEnum K ta σ H R ∨ iEnumT K ta σ H R) := by
  subst hK
  exact pi_either (pi_enum hg hm ha hs) (pi_enumT hg hm ha hs)
section
variable {K : PySem.W.Frag} {σ : L2.St} {H : Hp} {g : TG} {tu tz : TS} {D : Ends}
theorem s_forEnR {a : Addr} {xs : List V} {tl : TE} (h : Ev tl σ H (.ref a)) (hx : Row H a xs) (Pv : Nat → L2.St → Hp → Prop) (h0 : ∀ H1, Ex H H1 → Pv 0 σ H1) (hl : ∀ i σ' H', i ≤ xs.length → Pv i σ' H' → Row H a xs → (∀ o, H a = some o → H' a = some o))
    (hs : ∀ i y T σ' H', xs[i]? = some y → Pv i σ' H' → H' T = none → g (.ref T) σ' (upd H' T (.tup [.int (i : Nat), y])) fun σ2 H2 => tu { D with nx := Pv (i + 1), ct := Pv (i + 1), bk := D.nx } σ2 H2) (hd : ∀ σ' H', Pv xs.length σ' H' → D.nx σ' H') : tFor (fun σ H R => iEnum K (tCons tl tNil) σ H R ∨ iEnumT K (tCons tl tNil) σ H R) g tu D σ H := by
  rcases hx with hx | hx
  · exact .inl (h H (Ex.refl H) _ fun H1 e => ⟨a, xs, rfl, sq_of (e _ _ hx), for_it (walk_enum (K := K) (a := a) (xs := xs)) Pv (h0 H1 e) (fun i σ' H' hi p => sq_of (hl i σ' H' hi p (.inl hx) _ hx)) (fun i x σ' H2 H3 hi p y => by
      obtain ⟨T, u, y, rfl, hT, rfl, hu, hy⟩ := y
      cases hu
      exact hs i y T σ' H2 hy p hT) hd⟩)
  · exact .inr (h H (Ex.refl H) _ fun H1 e => ⟨a, xs, rfl, st_of (e _ _ hx), for_it (walk_enumT (K := K) (a := a) (xs := xs)) Pv (h0 H1 e) (fun i σ' H' hi p => st_of (hl i σ' H' hi p (.inr hx) _ hx)) (fun i x σ' H2 H3 hi p y => by
      obtain ⟨T, u, y, rfl, hT, rfl, hu, hy⟩ := y
      cases hu
      exact hs i y T σ' H2 hy p hT) hd⟩)
end
theorem Row.keep {H H' : Hp} {a : Addr} {xs : List V} (e : Ex H H') (hx : Row H a xs) (o : HO) (ho : H a = some o) : H' a = some o := e _ _ ho
/-! which things are no deeds -/
def fdK (d : PyData) : Bool := match d with
  | .tuple (.str s :: _) => !decide (V.str s = V.str "restart")
  | _ => false
def dOk (n : Nat) (js : List Wy) (d : PyData) : Bool := isFD n js d && fdK d
def firstD (n : Nat) (js : List Wy) : Nat → List PyData → Option Int
  | _, [] => none
  | i, d :: ds => if dOk n js d = true then firstD n js (i + 1) ds else some (i : Int)
def faultD (n : Nat) (js : List Wy) (d : PyData) : Option Int := if rowD d = true then firstD n js 0 (itemsR d) else some (-1)
theorem fd_tup {n : Nat} {js : List Wy} {d : PyData} (h : isFD n js d = true) : ∃ s r, d = .tuple (.str s :: r) := by
  unfold isFD at h
  split at h
  · exact ⟨_, _, rfl⟩
  · cases h
section
variable {P : Program} {w : World} {K : PySem.W.Frag} {mg : Str → Option Value} {base : Heap} {f : Addr} {fd : FuncData} {CD : Addr}
abbrev sXD : Stmt := inClass (top 6) 0
theorem scXD : FnScope ["self", "index"] ["self", "index"] (defScope sXD) := ⟨rfl, rfl, rfl, by decide +kernel, rfl, by decide +kernel, by decide +kernel⟩
theorem ok_xd {C : Addr} (T : OexC K C) (no : PySem.W.findIn K (.ref C) "index" = some none) (F : FunD K "__init__" "BadDeeds.__init__" (defArgs sXD) (defBody sXD) (defScope sXD) [] [] f fd) : FnOk P w K mg base CX0 1 f fd ["self", "index"] (spXF C "index") := by
  refine F.ok scXD (fun vs H Q E h => ?_) (fun cdv A outer s H vs Q E hr h => ?_)
  · obtain ⟨a, y, rfl, _⟩ := h
    rfl
  · obtain ⟨a, y, rfl, ha, k⟩ := h
    exact ⟨_, pss_one (ps_ost (pv 0) (pv 1)), y, rfl, .ref a, rfl, a, C, rfl, T, no, .inl ⟨ha, k⟩⟩
/-! refuse_wrong_deeds -/
def spRWD (CD : Addr) : Sp := fun vs H Q E => ∃ (n : Nat) (l : Addr) (us : List V) (prs : List Wy) (v : V) (d : PyData), vs = [.int (n : Int), .ref l, v] ∧ Row H l us ∧ DqA H us (prs.map wd) ∧ (∀ w ∈ prs, PrOk 8 w) ∧ prs.length ≤ 22 ∧ Dq H v d ∧ (itemsR d).length ≤ 1000 ∧ (∀ x ∈ itemsR d, (itemsT x).length ≤ 1000) ∧
  (faultD n (joinW prs) d = none → ∀ H', Ex H H' → Q .non H') ∧ ∀ i, faultD n (joinW prs) d = some i → ∀ dx H', H dx = none → Ex H H' → H' dx = some (.xd [("index", .int i)]) → E (.ref CD) (some dx) H'
abbrev sRWD : Stmt := top 33
abbrev nRWD : List Str := ["size", "links", "deeds", "arrows", "index", "deed"]
theorem scRWD : FnScope nRWD ["size", "links", "deeds"] (defScope sRWD) := ⟨rfl, rfl, rfl, by decide +kernel, rfl, by decide +kernel, by decide +kernel⟩
theorem ok_rwd (B : Bl mg) (T : ErrF P w K mg base "BadDeeds" CD "index") (CI : Cal P w K mg base "is_row" ["thing"] 1 spIsRow2) (CB : Cal P w K mg base "both_ways" ["links"] 1 spPairs2) (CF : Cal P w K mg base "is_flood_deed" ["size", "arrows", "thing"] 4 spFD) (F : FnP K "refuse_wrong_deeds" sRWD f fd) : FnOk P w K mg base (L2.CX P w) 5 f fd ["size", "links", "deeds"] (spRWD CD) := by
  refine F.ok scRWD (fun vs H Q E h => ?_) (fun cdv A outer s H vs Q E hr h => ?_)
  · obtain ⟨n, l, us, prs, v, d, rfl, _⟩ := h
    rfl
  · obtain ⟨n, l, us, prs, v, d, rfl, hl, hus, hok, hpl, hd, hdl, hls, kQ, kE⟩ := h
    have hr2 : Room 2 _ := hr.mono (by decide)
    refine ⟨_, pss_cons (ps_if (pt_not (pt_val (pe_cal CI hr (by rfl) (pa_cons (pv 2) pa_nil)))) (pss_one (ps_raise rfl (takes_of rfl rfl rfl rfl) (pmk_errF T hr2 (by rfl) (pa_cons (pe_un un_neg pe_int) pa_nil)))) pss_nil)
      (pss_cons (ps_set (i := 3) scRWD.nd rfl (Or.inl rfl) (pe_cal CB hr (by rfl) (pa_cons (pv 1) pa_nil)))
      (pss_one (ps_for (passes_of rfl) rfl (pi_enumK (K := K) rfl (by rfl) B.enum (pa_cons (pv 2) pa_nil)) (pg_tup rfl (pgs_cons (pg_name (i := 4) scRWD.nd rfl (.inl rfl)) (pgs_cons (pg_name (i := 5) scRWD.nd rfl (.inl rfl)) pgs_nil)))
        (pss_one (ps_if (PW.pt (pw_or (pt_not (pt_val (pe_cal CF hr (by rfl) (pa_cons (pv 0) (pa_cons (pv 3) (pa_cons (pv 5) pa_nil)))))) (pw_or1 (pt_cmpR op_eq (pe_ix ix_tup (pv 5) pe_int (fun _ _ => rfl)) pe_str (nomark _))))) (pss_one (ps_raise rfl (takes_of rfl rfl rfl rfl) (pmk_errF T hr2 (by rfl) (pa_cons (pv 4) pa_nil)))) pss_nil))))), ?_⟩
    have c1 : Ev (tCall spIsRow2 [] E0 (tCons (tVar 2) tNil)) (start nRWD [.int (n : Int), .ref l, v]) H (.bl (rowD d)) := ev_call (ea_cons (ev_var rfl) ea_nil) (spP_v fun H1 e => ⟨v, d, rfl, .inl (hd.mono e), rfl⟩)
    refine q_when (b := !rowD d) (et_not (et_B c1)) (fun hb H1 e1 => ?_) fun hb H1 e1 => ?_
    · have hb : rowD d = false := by simpa using hb
      exact mk_errF (ev_un ev_c ru_neg) fun dx H' h0 e' hx => kE (-1) (by unfold faultD; rw [hb]; rfl) dx H' (fresh_back e1 h0) (e1.trans e') hx
    have hb : rowD d = true := by simpa using hb
    have hf : faultD n (joinW prs) d = firstD n (joinW prs) 0 (itemsR d) := by unfold faultD; rw [hb]; rfl
    obtain ⟨a, xs, rfl, hR, hxs⟩ := row_inv (.inl (hd.mono e1)) hb
    refine ⟨.ref l, rfl, l, us, prs, rfl, hl.mono e1, hus.mono e1, hok, hpl, fun H2 la ja e2 nla hla hja => ?_⟩
    refine g_name ?_
    dsimp only
    have e02 := e1.trans e2
    have hR2 := hR.mono e2
    have hxs2 := hxs.mono e2
    refine s_forEnR (K := K) (H := H2) (xs := xs) (ev_var rfl) hR2 (fun i σ' H' => ∃ o4 o5, σ' = [some (.int (n : Int)), some (.ref l), some (.ref a), some (.ref la), o4, o5] ∧ Ex H2 H' ∧ firstD n (joinW prs) 0 (itemsR d) = firstD n (joinW prs) i ((itemsR d).drop i)) (fun H3 e3 => ⟨_, _, rfl, e3, by rw [List.drop_zero]⟩) (fun i σ' H' _ hp hr o ho => ?_) (fun i y T0 σ' H' hy hp hT0 => ?_) (fun σ' H' hp => ?_)
    · obtain ⟨_, _, _, e3, _⟩ := hp
      exact e3 _ _ ho
    · obtain ⟨o4, o5, rfl, e3, hfi⟩ := hp
      have eT := Ex.new (o := .tup [.int (i : Nat), y]) hT0
      have hTT : (upd H' T0 (.tup [.int (i : Nat), y])) T0 = some (.tup [.int (i : Nat), y]) := upd_same
      generalize upd H' T0 (.tup [.int (i : Nat), y]) = H4 at *
      have e4 := e3.trans eT
      obtain ⟨dy, hdy, hvy⟩ := hxs2.get hy
      have hil : i < (itemsR d).length := (List.getElem?_eq_some_iff.mp hdy).1
      rw [List.drop_eq_getElem_cons hil, Option.some.inj ((List.getElem?_eq_getElem hil).symm.trans hdy)] at hfi
      refine ⟨T0, _, rfl, st_of hTT, rfl, g_two ?_⟩
      change tIfS _ _ _ _ [some (.int (n : Int)), some (.ref l), some (.ref a), some (.ref la), some (.int (i : Nat)), some y] H4
      have hvy4 := hvy.mono e4
      have c2 : Ev (tCall spFD [] E0 (tCons (tVar 0) (tCons (tVar 3) (tCons (tVar 5) tNil)))) [some (.int (n : Int)), some (.ref l), some (.ref a), some (.ref la), some (.int (i : Nat)), some y] H4 (.bl (isFD n (joinW prs) dy)) := ev_call (ea_cons (ev_var rfl) (ea_cons (ev_var rfl) (ea_cons (ev_var rfl) ea_nil))) (spP_v fun H5 e5 => ⟨n, la, y, dy, ja, joinW prs, rfl, (e4.trans e5) _ _ hla, hja.mono (e4.trans e5), hvy4.mono e5, hls dy (List.mem_of_getElem? hdy), rfl⟩)
      refine s_when (b := !isFD n (joinW prs) dy || !fdK dy) (et_or (et_not (et_B c2)) fun hz => ?_) (fun hc H5 e5 => ?_) fun hc H5 e5 => ?_
      · have hz : isFD n (joinW prs) dy = true := by simpa using hz
        obtain ⟨s, r, rfl⟩ := fd_tup hz
        obtain ⟨t, zs, ds, rfl, g1, g2, g3⟩ := tu_inv hvy4 rfl
        injection g1 with g1
        subst g1
        cases g3 with
        | cons h1 h2 =>
        cases h1
        have z := ev_op (r := rEq) (σ := [some (.int (n : Int)), some (.ref l), some (.ref a), some (.ref la), some (.int (i : Nat)), some (.ref t)]) (H := H4) (ta := tOp (rIxT K) (tVar 5) (tC (.int 0))) (tb := tC (.str "restart")) (ev_op (ev_var rfl) ev_c (rv_ixT (v := .str s) (st_of g2) (atI_nat (j := 0) rfl))) ev_c (rv_eq rfl)
        have e : (!fdK (PyData.tuple (.str s :: r))) = decide (V.str s = V.str "restart") := by
          show (!(!decide (V.str s = V.str "restart"))) = _
          rw [Bool.not_not]
        rw [e]
        exact et_test z
      · have hc' : dOk n (joinW prs) dy = false := by
          unfold dOk
          cases h1 : isFD n (joinW prs) dy <;> cases h2 : fdK dy <;> rw [h1, h2] at hc <;> simp at hc ⊢
        exact mk_errF (ev_var rfl) fun dx H' h0 e' hx => kE (i : Int) (by rw [hf, hfi]; unfold firstD; rw [hc']; rfl) dx H' (fresh_back (e02.trans (e4.trans e5)) h0) ((e02.trans (e4.trans e5)).trans e') hx
      · have hc' : dOk n (joinW prs) dy = true := by
          unfold dOk
          cases h1 : isFD n (joinW prs) dy <;> cases h2 : fdK dy <;> rw [h1, h2] at hc <;> simp at hc ⊢
        refine ⟨_, _, rfl, e4.trans e5, ?_⟩
        rw [hfi]
        conv => lhs; unfold firstD
        rw [hc', if_pos rfl]
    · obtain ⟨_, _, rfl, e3, hfi⟩ := hp
      rw [List.drop_of_length_le (by have := hxs2.length; omega)] at hfi
      exact kQ (by rw [hf, hfi]; rfl) H' (e02.trans e3)
end
end Wk

set_option Elab.async false
set_option linter.all false
set_option maxRecDepth 100000
set_option maxHeartbeats 4000000
namespace Wk
open PySem PySem.Spec PyProof.Rows L2 Evl
/-! x > y of tuples of at most one int -/
def gt1 (x y : List Int) : Bool := match x, y with
  | [], _ => false
  | _ :: _, [] => true
  | a :: _, b :: _ => decide (b < a)
def rGt1' (K : PySem.W.Frag) : R2 := fun x y H Q => ∃ (a b : Addr) (ns ms : List Int), x = .ref a ∧ y = .ref b ∧ SqT K H a (ns.map V.int) ∧ SqT K H b (ms.map V.int) ∧ ns.length ≤ 1 ∧ ms.length ≤ 1 ∧ Q (.bl (gt1 ns ms)) H
theorem op_gt1' {X : Cx} {K : PySem.W.Frag} (hK : X.K = K) (hu : X.A.units < cLine) : OpR X (compareOp .Gt) (rGt1' K) := by
  subst hK
  intro pins s σ H x y v u Q I rx ry h
  obtain ⟨a, b, ns, ms, rfl, rfl, ha, hb, l1, l2, q⟩ := h
  cases rx
  cases ry
  obtain ⟨its, r1, p1, _⟩ := I.tuple ha
  obtain ⟨its2, r2, p2, _⟩ := I.tuple hb
  have i1 : IntsAre its ns := Vals.ints r1
  have i2 : IntsAre its2 ms := Vals.ints r2
  have e1 : its.toArray.size = ns.length := by rw [List.size_toArray]; exact i1.length
  have e2 : its2.toArray.size = ms.length := by rw [List.size_toArray]; exact i2.length
  have at1 : ∀ j (h1 : j < its.toArray.size), ∃ t, its.toArray[j] = .int (ns.getD j 0) t := fun j h1 => PyProof.Rows.IntsAre.int_at i1 _ _ (by simp at h1; simp [h1])
  have at2 : ∀ j (h1 : j < its2.toArray.size), ∃ t, its2.toArray[j] = .int (ms.getD j 0) t := fun j h1 => PyProof.Rows.IntsAre.int_at i2 _ _ (by simp at h1; simp [h1])
  have R := Ob.RcOp.tuples_gt (A := X.A) (s := s) (e := fun j => decide (ns.getD j 0 = ms.getD j 0)) (r := fun j => decide (ns.getD j 0 > ms.getD j 0)) p1 p2 hu (fun j h1 h2 => by
    obtain ⟨t, et⟩ := at1 j h1
    obtain ⟨t', et'⟩ := at2 j h2
    rw [et, et']
    have z : (ns.getD j 0 == ms.getD j 0) = decide (ns.getD j 0 = ms.getD j 0) := by
      by_cases q : ns.getD j 0 = ms.getD j 0
      · rw [decide_eq_true q]; exact beq_iff_eq.mpr q
      · rw [decide_eq_false q]; exact beq_eq_false_iff_ne.mpr q
    rw [← z]
    exact SeqAt.EqAt.int_int _ _ _ _) (fun j h1 h2 _ => by
    obtain ⟨t, et⟩ := at1 j h1
    obtain ⟨t', et'⟩ := at2 j h2
    rw [et, et']
    exact Ob.RcOp.gt_int _ _ _ _)
  rw [e1, e2] at R
  have ev : Ob.lexAt (fun j => decide (ns.getD j 0 = ms.getD j 0)) (fun j => decide (ns.getD j 0 > ms.getD j 0)) (decide (ns.length > ms.length)) 0 (min ns.length ms.length) = gt1 ns ms := by
    match ns, ms, l1, l2 with
    | [], [], _, _ => rfl
    | [], [y], _, _ => rfl
    | [x], [], _, _ => rfl
    | [x], [y], _, _ =>
      show Ob.lexAt _ _ _ 0 1 = _
      rw [Ob.lexAt_succ, Ob.lexAt_zero]
      show (if decide (x = y) = true then decide (1 > 1) else decide (x > y)) = decide (y < x)
      by_cases h1 : x = y
      · simp [h1]
      · simp [h1]
    | _ :: _ :: _, _, l, _ => exact absurd l (by simp)
    | _, _ :: _ :: _, _, l => exact absurd l (by simp)
  have z : wpAny (model X.prog X.w) X.A (compareOp .Gt (.ref a) (.ref b)) (EP X pins σ Q) X.xe s := R X.prog X.w X.xe (EP X pins σ Q) ⟨.bl (gt1 ns ms), H, I, congrArg Value.bool ev, q⟩
  exact z
theorem gt1_hd (x y : List Nat) : gt1 ((nZ x).take 1) ((nZ y).take 1) = hdGt x y := by
  cases x with
  | nil => rfl
  | cons a x =>
    cases y with
    | nil => rfl
    | cons b y =>
      show decide ((b : Int) < (a : Int)) = decide (b < a)
      exact decide_eq_decide.mpr (by omega)
theorem cut1 (xs : List V) : cutV xs none (some 1) = xs.take 1 := by
  cases xs with
  | nil => rfl
  | cons x t => exact cut_to (x :: t) 1 (by simp)
/-- deed[:2] == (w, r) -/
theorem ev_eqHead {K : PySem.W.Frag} {σ : L2.St} {H : Hp} {ta : TE} {x : Deed} {w : Str} {r : Int} {c : Bool} {u : TE} (ha : EvS ta σ H [.str x.word, .int (x.one : Int)]) (hu : Ev u σ H (.int r)) (hw : PyData.strOk w = true) (h : decide (V.str x.word = V.str w) = c) :
    Ev (tOp (rEqD K) ta (tTup (tCons (tC (.str w)) (tCons u tNil)))) σ H (.bl (c && decide ((x.one : Int) = r))) := fun H1 e1 Q q =>
  ha H1 e1 _ fun p H2 e2 hp => (ea_cons ev_c (ea_cons hu ea_nil)) H2 (e1.trans e2) _ fun H3 e3 => ⟨by show 2 ≤ sizeLine; decide, fun p' hp' => by
    have e4 := Ex.new (o := .tup [V.str w, .int r]) hp'
    refine ⟨.tuple [.str x.word, .int (x.one : Int)], .tuple [.str w, .int r], Dq.dp (lay2 _ x.word_ok) (.tup ((e3.trans e4) _ _ hp) (.cons (.str _) (.cons (.int _) .nil))), Dq.dp (lay2 _ hw) (.tup upd_same (.cons (.str _) (.cons (.int _) .nil))), shaped2 _ x.word_ok, shaped2 _ hw, ?_⟩
    rw [eqv_head r h]
    exact q _ ((e2.trans e3).trans e4)⟩
/-- the chains in the heap -/
def ChH (H : Hp) (cs : List V) (n : Nat) (L : Lcs) : Prop := cs.length = n ∧ ∀ k, k < n → ∃ t, cs[k]? = some (.ref t) ∧ H t = some (.tup ((nZ (L k)).map V.int))
theorem ChH.mono {H H' : Hp} {cs : List V} {n : Nat} {L : Lcs} (e : Ex H H') (h : ChH H cs n L) : ChH H' cs n L := ⟨h.1, fun k hk => by
  obtain ⟨t, h1, h2⟩ := h.2 k hk
  exact ⟨t, h1, e _ _ h2⟩⟩
theorem ChH.put {H : Hp} {cs : List V} {n k : Nat} {L : Lcs} {t C : Addr} {l : List Nat} {ys : List V} {o : HO} (h : ChH H cs n L) (hk : k < n) (ht : H t = some (.tup ((nZ l).map V.int))) (hC : H C = some (.lst ys)) : ChH (L2.upd H C o) (cs.set k (.ref t)) n (fun j => if j = k then l else L j) := ⟨by rw [List.length_set]; exact h.1, fun j hj => by
  have ne : ∀ {a : Addr} {xs : List V}, H a = some (.tup xs) → a ≠ C := fun ha z => by rw [z, hC] at ha; cases ha
  by_cases c : j = k
  · subst c
    exact ⟨t, by rw [List.getElem?_set, if_pos rfl, if_pos (by rw [h.1]; exact hj)], by rw [upd_ne (ne ht)]; simpa using ht⟩
  · obtain ⟨t', h1, h2⟩ := h.2 j hj
    exact ⟨t', by rw [List.getElem?_set, if_neg (fun z => c z.symm)]; exact h1, by rw [upd_ne (ne h2)]; simpa [c] using h2⟩⟩
theorem ChH.congr {H : Hp} {cs : List V} {n : Nat} {L M : Lcs} (h : ChH H cs n L) (e : L = M) : ChH H cs n M := e ▸ h
end Wk

set_option Elab.async false
set_option linter.all false
set_option maxRecDepth 100000
set_option maxHeartbeats 4000000
namespace Wk
open PySem PySem.Spec PyProof.Rows L2 Evl
/-- what latest tells -/
def LatV (H : Hp) (v : V) (l : List Nat) : Prop := (l = [] ∧ v = .non) ∨ (l ≠ [] ∧ ∃ t, v = .ref t ∧ H t = some (.tup ((nZ l).map V.int)))
theorem hdT {H : Hp} {us : List V} {ds : List Deed} (h : DqA H us (ds.map Deed.d)) {i : Nat} {y : V} (hy : us[i]? = some y) : ∃ t x, y = .ref t ∧ ds[i]? = some x ∧ H t = some (.tup x.vs) := by
  obtain ⟨d, hd, _⟩ := h.get hy
  have hi : i < ds.length := by
    have := (List.getElem?_eq_some_iff.mp hd).1
    rw [List.length_map] at this
    exact this
  obtain ⟨t, h1, h2⟩ := deeds_at h hi
  rw [hy] at h1
  cases h1
  exact ⟨t, ds[i], rfl, List.getElem?_eq_getElem hi, h2⟩
section
variable {K : PySem.W.Frag} {σ : L2.St} {H : Hp} {g : TG} {tu tz : TS} {D : Ends}
theorem q_forEnR {a : Addr} {xs : List V} {tl : TE} (h : Ev tl σ H (.ref a)) (hx : Row H a xs) (Pv : Nat → L2.St → Hp → Prop) (h0 : ∀ H1, Ex H H1 → Pv 0 σ H1) (hl : ∀ i σ' H', i ≤ xs.length → Pv i σ' H' → Row H a xs → (∀ o, H a = some o → H' a = some o))
    (hs : ∀ i y T σ' H', xs[i]? = some y → Pv i σ' H' → H' T = none → g (.ref T) σ' (upd H' T (.tup [.int (i : Nat), y])) fun σ2 H2 => tu { D with nx := Pv (i + 1), ct := Pv (i + 1), bk := tz D } σ2 H2) (hd : ∀ σ' H', Pv xs.length σ' H' → tz D σ' H') : tSeq (tFor (fun σ H R => iEnum K (tCons tl tNil) σ H R ∨ iEnumT K (tCons tl tNil) σ H R) g tu) tz D σ H :=
  s_forEnR (D := { D with nx := tz D }) h hx Pv h0 hl hs hd
end
theorem rep_one {α : Type} (x : α) : ∀ m : Nat, (List.replicate m [x]).flatten = List.replicate m x
  | 0 => rfl
  | m + 1 => by rw [List.replicate_succ, List.flatten_cons, rep_one x m]; rfl
theorem asc_ub : ∀ {l : List Nat} {m a : Nat}, l.Pairwise (· < ·) → (∀ x ∈ l, x < m ∧ a ≤ x) → l.length + a ≤ m ∨ l = []
  | [], _, _, _, _ => .inr rfl
  | x :: l, m, a, h, hb => by
    obtain ⟨h1, h2⟩ := List.pairwise_cons.mp h
    have hx := hb x List.mem_cons_self
    rcases asc_ub (m := m) (a := x + 1) h2 (fun y hy => ⟨(hb y (List.mem_cons_of_mem _ hy)).1, h1 y hy⟩) with z | z
    · exact .inl (by simp only [List.length_cons]; omega)
    · rw [z]; exact .inl (by simp only [List.length_cons, List.length_nil]; omega)
theorem asc_lt {l : List Nat} {m : Nat} (h : l.Pairwise (· < ·)) (hb : ∀ x ∈ l, x < m) : l.length ≤ m := by
  rcases asc_ub (a := 0) h (fun x hx => ⟨hb x hx, Nat.zero_le _⟩) with z | z
  · omega
  · rw [z]; exact Nat.zero_le _
theorem nZ_take (l : List Nat) : ((nZ l).map V.int).take 1 = ((nZ l).take 1).map V.int := by rw [List.map_take]
theorem nZ_app (l : List Nat) (i : Nat) : (nZ l).map V.int ++ [V.int (i : Int)] = (nZ (l ++ [i])).map V.int := by
  unfold nZ
  simp
section
variable {P : Program} {w : World} {K : PySem.W.Frag} {mg : Str → Option Value} {base : Heap} {f : Addr} {fd : FuncData} {CB CD CN : Addr}
/-! latest -/
def spLat (CB CD CN : Addr) : Sp := fun vs H Q E => ∃ v1 v2 v3 v4 v5 : V, vs = [v1, v2, v3, v4, v5] ∧
  ((∃ (d1 d2 : PyData) (s : Str), Dq H v1 d1 ∧ Tg H v2 d2 ∧ (itemsR d2).length ≤ 1000 ∧ fdue d1 d2 = some s ∧ ∀ dx H', H dx = none → Ex H H' → H' dx = some (.xd [("part", .str s)]) → E (.ref CB) (some dx) H') ∨
   (∃ (n : Nat) (l : Addr) (us : List V) (prs : List Wy) (d2 d3 : PyData), v1 = .int (n : Int) ∧ v2 = .ref l ∧ 1 ≤ n ∧ n ≤ 8 ∧ Row H l us ∧ DqA H us (prs.map wd) ∧ (∀ w ∈ prs, PrOk n w) ∧ prs.length ≤ 22 ∧ Dq H v2 d2 ∧ (d2 = .list (prs.map wd) ∨ d2 = .tuple (prs.map wd)) ∧
     Dq H v3 d3 ∧ (itemsR d3).length ≤ 1000 ∧ (∀ x ∈ itemsR d3, (itemsT x).length ≤ 1000) ∧
     ((∃ i, faultD n (joinW prs) d3 = some i ∧ ∀ dx H', H dx = none → Ex H H' → H' dx = some (.xd [("index", .int i)]) → E (.ref CD) (some dx) H') ∨
      (faultD n (joinW prs) d3 = none ∧ ∃ d4 d5, Dq H v4 d4 ∧ Dq H v5 d5 ∧
        ((isR (n : Int) d4 = false ∧ ∀ dx H', H dx = none → Ex H H' → H' dx = some (.xd [("router", v4)]) → E (.ref CN) (some dx) H') ∨
         (isR (n : Int) d4 = true ∧ isR (n : Int) d5 = false ∧ ∀ dx H', H dx = none → Ex H H' → H' dx = some (.xd [("router", v5)]) → E (.ref CN) (some dx) H') ∨
         (∃ (ds : List Deed) (r b : Nat) (a : Addr) (xs : List V), v3 = .ref a ∧ Row H a xs ∧ DqA H xs (ds.map Deed.d) ∧ (∀ (m x y : Nat), ds[m]? = some (Deed.pas x y) → x < n ∧ y < n) ∧ v4 = .int (r : Int) ∧ v5 = .int (b : Int) ∧ r < n ∧ b < n ∧ ds.length ≤ 100 ∧ ∀ H' v, Ex H H' → LatV H' v (latN ds r ds.length b) → Q v H'))))))
abbrev sLat : Stmt := top 32
abbrev nLat : List Str := ["size", "links", "deeds", "r", "b", "chains", "index", "deed"]
theorem scLat : FnScope nLat ["size", "links", "deeds", "r", "b"] (defScope sLat) := ⟨rfl, rfl, rfl, by decide +kernel, rfl, by decide +kernel, by decide +kernel⟩
theorem ok_lat (B : Bl mg) (CFl : CalX P w K mg base "refuse_wrong_flood" ["size", "links"] 6 (spRWF2 CB)) (CDs : CalX P w K mg base "refuse_wrong_deeds" ["size", "links", "deeds"] 5 (spRWD CD)) (CRn : CalX P w K mg base "refuse_no_router" ["size", "thing"] 4 (spNoRt CN)) (F : FnP K "latest" sLat f fd) : FnOk P w K mg base (L2.CX P w) 7 f fd ["size", "links", "deeds", "r", "b"] (spLat CB CD CN) := by
  obtain ⟨fF, fdF, FF, gF, kF, bF⟩ := CFl.ex
  obtain ⟨fD, fdD, FD, gD, kD, bD⟩ := CDs.ex
  obtain ⟨fR, fdR, FR, gR, kR, bR⟩ := CRn.ex
  refine F.ok scLat (fun vs H Q E h => ?_) (fun cdv A outer s H vs Q E hr h => ?_)
  · obtain ⟨v1, v2, v3, v4, v5, rfl, _⟩ := h
    rfl
  · obtain ⟨v1, v2, v3, v4, v5, rfl, h⟩ := h
    have hu : (A.deeper (envOfC "latest" (defScope sLat) s.heap.objs.size f cdv)).units + 64 < cLine := by have := hr.un; omega
    have hu0 : (A.deeper (envOfC "latest" (defScope sLat) s.heap.objs.size f cdv)).units < cLine := by omega
    have r6 : Room 6 _ := hr.mono (by decide)
    have r5 : Room 5 _ := hr.mono (by decide)
    have r4 : Room 4 _ := hr.mono (by decide)
    refine ⟨_, pss_cons (ps_expr (pe_call FF r6 (by rfl) gF kF bF .nil (passes_call (takes_of rfl rfl rfl rfl) (fun _ _ _ _ h => h)) (pa_cons (pv 0) (pa_cons (pv 1) pa_nil))))
      (pss_cons (ps_expr (pe_call FD r5 (by rfl) gD kD bD .nil (passes_call (takes_of rfl rfl rfl rfl) (fun _ _ _ _ h => h)) (pa_cons (pv 0) (pa_cons (pv 1) (pa_cons (pv 2) pa_nil)))))
      (pss_cons (ps_expr (pe_call FR r4 (by rfl) gR kR bR .nil (passes_call (takes_of rfl rfl rfl rfl) (fun _ _ _ _ h => h)) (pa_cons (pv 0) (pa_cons (pv 3) pa_nil))))
      (pss_cons (ps_expr (pe_call FR r4 (by rfl) gR kR bR .nil (passes_call (takes_of rfl rfl rfl rfl) (fun _ _ _ _ h => h)) (pa_cons (pv 0) (pa_cons (pv 4) pa_nil))))
      (pss_cons (ps_set (i := 5) scLat.nd rfl (Or.inl rfl) (pe_op op_rep (pe_lst (pa_cons (pe_tup pa_nil) pa_nil)) (pv 0)))
      (pss_cons (ps_for (passes_of rfl) rfl (pi_enumK (K := K) rfl (by rfl) B.enum (pa_cons (pv 2) pa_nil)) (pg_tup rfl (pgs_cons (pg_name (i := 6) scLat.nd rfl (.inl rfl)) (pgs_cons (pg_name (i := 7) scLat.nd rfl (.inl rfl)) pgs_nil)))
        (pss_one (ps_if (pt_cmpR (op_eqD hu) (pe_slice sl_tupA (pv 7) po_none (po_some pe_int)) (pe_tup (pa_cons pe_str (pa_cons (pv 3) pa_nil))) (nomark _))
          (pss_one (ps_asg (pe_tup (pa_cons (pv 6) pa_nil)) (pg_sub (pv 5) (pv 3) set_list)))
          (pss_one (ps_if (PW.pt (pw_and (pt_cmpR op_eq (pe_ix ix_tup (pv 7) pe_int (fun _ _ => rfl)) pe_str (nomark _)) (pw_and1 (pt_cmpR (op_gt1' (K := K) rfl hu0) (pe_slice sl_tupA (pe_ix ix_list (pv 5) (pe_ix ix_tup (pv 7) pe_int (fun _ _ => rfl)) (fun _ _ => rfl)) po_none (po_some pe_int)) (pe_slice sl_tupA (pe_ix ix_list (pv 5) (pe_ix ix_tup (pv 7) pe_int (fun _ _ => rfl)) (fun _ _ => rfl)) po_none (po_some pe_int)) (nomark _)))))
            (pss_one (ps_asg (pe_op op_catA (pe_ix ix_list (pv 5) (pe_ix ix_tup (pv 7) pe_int (fun _ _ => rfl)) (fun _ _ => rfl)) (pe_tup (pa_cons (pv 6) pa_nil))) (pg_sub (pv 5) (pe_ix ix_tup (pv 7) pe_int (fun _ _ => rfl)) set_list))) pss_nil)))))
      (pss_one (ps_ret (pe_ifExp (pt_truth (pe_ix ix_list (pv 5) (pv 4) (fun _ _ => rfl)) (by intro _; rfl)) (pe_ix ix_list (pv 5) (pv 4) (fun _ _ => rfl)) pe_non)))))))), ?_⟩
    rcases h with ⟨d1, d2, part, h1, h2, h3, h4, kE⟩ | ⟨n, l, us, prs, d2, d3, rfl, rfl, hn1, hn8, hl, hus, hok, hpl, hd2, hd2', hd3, hl3, hls3, h⟩
    · exact ⟨v1, rfl, v2, rfl, v1, v2, d1, d2, rfl, h1, h2, h3, (fun z => by rw [h4] at z; cases z), fun s hs dx H' h0 e' hx => by rw [h4] at hs; cases hs; exact kE dx H' h0 e' hx⟩
    have hok8 : ∀ w ∈ prs, PrOk 8 w := fun w hw => by
      obtain ⟨u, v, rfl, g1, g2, g3⟩ := hok w hw
      exact ⟨u, v, rfl, by omega, by omega, g3⟩
    have hfd := good_links hn1 hn8 hok hd2'
    have hl2 : (itemsR d2).length ≤ 1000 := by
      rcases hd2' with rfl | rfl
      · show (prs.map wd).length ≤ 1000
        rw [List.length_map]; omega
      · show (prs.map wd).length ≤ 1000
        rw [List.length_map]; omega
    refine ⟨.int (n : Int), rfl, .ref l, rfl, .int (n : Int), .ref l, .int (n : Int), d2, rfl, .int _, .inl hd2, hl2, fun _ H1 e1 => ?_, fun s hs => by rw [hfd] at hs; cases hs⟩
    refine ⟨.int (n : Int), rfl, .ref l, rfl, v3, rfl, n, l, us, prs, v3, d3, rfl, hl.mono e1, hus.mono e1, hok8, hpl, hd3.mono e1, hl3, hls3, fun hf H2 e2 => ?_, fun i hi dx H' h0 e' hx => ?_⟩
    rotate_left
    · rcases h with ⟨i', h1, kE⟩ | ⟨h1, _⟩
      · rw [h1] at hi
        cases hi
        exact kE dx H' (fresh_back e1 h0) (e1.trans e') hx
      · rw [h1] at hi; cases hi
    rcases h with ⟨i', h1, _⟩ | ⟨_, d4, d5, hd4, hd5, h⟩
    · rw [h1] at hf; cases hf
    have e02 := e1.trans e2
    refine ⟨.int (n : Int), rfl, v4, rfl, (n : Int), v4, d4, rfl, hd4.mono e02, fun hb4 H3 e3 => ?_, fun hb dx H' h0 e' hx => ?_⟩
    rotate_left
    · rcases h with ⟨_, kE⟩ | ⟨g1, _⟩ | ⟨_, r, _, _, _, _, _, _, _, rfl, _, hr1, _⟩
      · exact kE dx H' (fresh_back e02 h0) (e02.trans e') hx
      · rw [g1] at hb; cases hb
      · cases hd4
        rw [isR_yes hr1] at hb
        cases hb
    have e03 := e02.trans e3
    refine ⟨.int (n : Int), rfl, v5, rfl, (n : Int), v5, d5, rfl, hd5.mono e03, fun hb5 H4 e4 => ?_, fun hb dx H' h0 e' hx => ?_⟩
    rotate_left
    · rcases h with ⟨g1, _⟩ | ⟨_, _, kE⟩ | ⟨_, _, b, _, _, _, _, _, _, _, rfl, _, hb1, _⟩
      · rw [g1] at hb4; cases hb4
      · exact kE dx H' (fresh_back e03 h0) (e03.trans e') hx
      · cases hd5
        rw [isR_yes hb1] at hb
        cases hb
    rcases h with ⟨g1, _⟩ | ⟨_, g1, _⟩ | ⟨ds, r, b, a, xs, rfl, hR, hxs, hpas, rfl, rfl, hrn, hbn, hdl, k⟩
    · rw [g1] at hb4; cases hb4
    · rw [g1] at hb5; cases hb5
    have e04 := e03.trans e4
    have hR4 := hR.mono e04
    have hxs4 := hxs.mono e04
    have hxl : xs.length = ds.length := by rw [hxs.length, List.length_map]
    refine ⟨by show 0 ≤ sizeLine; decide, fun t0 n0 => ⟨by show 1 ≤ sizeLine; decide, fun C0 nC0 => ?_⟩⟩
    have e5 := Ex.new (o := .tup []) n0
    have ht0 : (upd H4 t0 (.tup [])) t0 = some (.tup []) := upd_same
    generalize upd H4 t0 (.tup []) = H5 at *
    have e6 := Ex.new (o := .lst [V.ref t0]) nC0
    have hC0 : (upd H5 C0 (.lst [V.ref t0])) C0 = some (.lst [V.ref t0]) := upd_same
    have ht06 := e6 _ _ ht0
    generalize upd H5 C0 (.lst [V.ref t0]) = H6 at *
    refine ⟨.int (n : Int), rfl, C0, (n : Int), [.ref t0], rfl, rfl, hC0, by omega, by omega, by rw [sizeLine_eq]; simp; omega, fun C nC => ?_⟩
    refine g_name ?_
    dsimp only
    rw [rep_one, show ((n : Int)).toNat = n by omega]
    have e7 := Ex.new (o := .lst (List.replicate n (V.ref t0))) nC
    have hC7 : (upd H6 C (.lst (List.replicate n (V.ref t0)))) C = some (.lst (List.replicate n (V.ref t0))) := upd_same
    have e47 := (e5.trans e6).trans e7
    have hch7 : ChH (upd H6 C (.lst (List.replicate n (V.ref t0)))) (List.replicate n (V.ref t0)) n (latN ds r 0) := ⟨List.length_replicate, fun j hj => ⟨t0, by rw [List.getElem?_replicate, if_pos hj], e7 _ _ ht06⟩⟩
    have nC4 : H4 C = none := fresh_back (e5.trans e6) nC
    generalize upd H6 C (.lst (List.replicate n (V.ref t0))) = H7 at *
    change tSeq (tFor _ _ _) _ _ [some (.int (n : Int)), some (.ref l), some (.ref a), some (.int (r : Int)), some (.int (b : Int)), some (.ref C), none, none] H7
    refine q_forEnR (K := K) (H := H7) (xs := xs) (a := a) (ev_var rfl) (hR4.mono e47) (fun i σ' H' => ∃ (cs : List V) (o6 o7 : Option V), σ' = [some (.int (n : Int)), some (.ref l), some (.ref a), some (.int (r : Int)), some (.int (b : Int)), some (.ref C), o6, o7] ∧ Ex H4 H' ∧ H' C = some (.lst cs) ∧ ChH H' cs n (latN ds r i)) (fun H8 e8 => ⟨_, _, _, rfl, e47.trans e8, e8 _ _ hC7, hch7.mono e8⟩) (fun i σ' H' _ hp hr o ho => ?_) (fun i y T0 σ' H' hy hp hT0 => ?_) (fun σ' H' hp => ?_)
    · obtain ⟨_, _, _, _, e8, _⟩ := hp
      rcases hR4 with z | z
      · rw [e47 _ _ z] at ho; rw [← ho]; exact e8 _ _ z
      · rw [e47 _ _ z] at ho; rw [← ho]; exact e8 _ _ z
    · obtain ⟨cs, o6, o7, rfl, e8, hC, hch⟩ := hp
      have eT := Ex.new (o := .tup [.int (i : Nat), y]) hT0
      have hTT : (upd H' T0 (.tup [.int (i : Nat), y])) T0 = some (.tup [.int (i : Nat), y]) := upd_same
      have hC9 := eT _ _ hC
      have hch9 := hch.mono eT
      have e9 := e8.trans eT
      generalize upd H' T0 (.tup [.int (i : Nat), y]) = H9 at *
      obtain ⟨t, x, rfl, hx, ht4⟩ := hdT hxs4 hy
      have ht := e9 _ _ ht4
      have hil : i < 100 := by have := (List.getElem?_eq_some_iff.mp hx).1; omega
      refine ⟨T0, _, rfl, st_of hTT, rfl, g_two ?_⟩
      change tIfS _ _ _ _ [some (.int (n : Int)), some (.ref l), some (.ref a), some (.int (r : Int)), some (.int (b : Int)), some (.ref C), some (.int (i : Nat)), some (.ref t)] H9
      generalize hσ : ([some (.int (n : Int)), some (.ref l), some (.ref a), some (.int (r : Int)), some (.int (b : Int)), some (.ref C), some (.int (i : Nat)), some (.ref t)] : L2.St) = σ0
      have s0 : σ0[3]? = some (some (.int (r : Int))) := by rw [← hσ]; rfl
      have s5 : σ0[5]? = some (some (.ref C)) := by rw [← hσ]; rfl
      have s6 : σ0[6]? = some (some (.int (i : Int))) := by rw [← hσ]; rfl
      have s7 : σ0[7]? = some (some (.ref t)) := by rw [← hσ]; rfl
      have sl2 : EvS (tSl (rSlA K) (tVar 7) tNoPart (tPart (tC (.int 2)))) σ0 H9 [.str x.word, .int (x.one : Int)] := by
        have q := es_sl (K := K) (te := tVar 7) (σ := σ0) (H := H9) (tl := tNoPart) (th := tPart (tC (.int 2))) (ev_var s7) eo_none (eo_some (i := 2) ev_c) ht
        rw [Deed.take2] at q
        exact q
      have c1 := ev_eqHead (K := K) (x := x) (w := "write") (r := (r : Int)) (u := tVar 3) sl2 (ev_var s0) (by decide +kernel) (word_wri x)
      have c2 : ∀ {Hz : Hp}, Ex H9 Hz → Ev (tOp rEq (tOp (rIxT K) (tVar 7) (tC (.int 0))) (tC (.str "pass"))) σ0 Hz (.bl (isPas x)) := fun ez => by
        have z := ev_op (r := rEq) (σ := σ0) (ta := tOp (rIxT K) (tVar 7) (tC (.int 0))) (tb := tC (.str "pass")) (ev_op (ev_var s7) ev_c (rv_ixT (st_of (ez _ _ ht)) (Deed.at0 x))) ev_c (rv_eq rfl)
        rw [word_pas] at z
        exact z
      have fin : ∀ (Hz : Hp), Ex H9 Hz → latN ds r (i + 1) = latN ds r i → ∃ (cs : List V) (o6 o7 : Option V), σ0 = [some (.int (n : Int)), some (.ref l), some (.ref a), some (.int (r : Int)), some (.int (b : Int)), some (.ref C), o6, o7] ∧ Ex H4 Hz ∧ Hz C = some (.lst cs) ∧ ChH Hz cs n (latN ds r (i + 1)) := fun Hz ez he => ⟨cs, _, _, hσ.symm, e9.trans ez, ez _ _ hC9, (hch9.mono ez).congr he.symm⟩
      refine s_if (b := isWri x && decide ((x.one : Int) = (r : Int))) (et_test c1) (fun hb H10 e10 => ?_) (fun hb H10 e10 => ?_)
      · obtain ⟨hb1, hb2⟩ := Bool.and_eq_true_iff.mp hb
        have hb2 := of_decide_eq_true hb2
        cases x with
        | wri r' c =>
          have hrr : r' = r := by have : (r' : Int) = (r : Int) := hb2; omega
          subst hrr
          have hC10 := e10 _ _ hC9
          refine ⟨.int (i : Int), s6, by show 1 ≤ sizeLine; decide, fun t1 n1 => ?_⟩
          have e11 := Ex.new (o := .tup [V.int (i : Int)]) n1
          refine ⟨.ref C, s5, .int (r' : Int), s0, C, cs, (r' : Int), r', rfl, rfl, e11 _ _ hC10, ixN_nat (by rw [hch9.1]; exact hrn), ?_⟩
          have hput := ((hch9.mono e10).mono e11).put (l := [i]) (o := .lst (cs.set r' (.ref t1))) hrn upd_same (e11 _ _ hC10)
          exact ⟨_, _, _, hσ.symm, Ex.mut ((e9.trans e10).trans e11) nC4, upd_same, hput.congr (by rw [latN_succ hx, latS_wri, if_pos rfl])⟩
        | pas _ _ => cases hb1
        | los _ _ => cases hb1
        | rst _ => cases hb1
      · cases x with
        | los x1 x2 => exact s_when (b := isPas (.los x1 x2) && false) (et_and (et_test (c2 e10)) fun z => by cases z) (fun z => by cases z) fun _ H11 e11 => fin H11 (e10.trans e11) (by rw [latN_succ hx]; rfl)
        | rst x1 => exact s_when (b := isPas (.rst x1) && false) (et_and (et_test (c2 e10)) fun z => by cases z) (fun z => by cases z) fun _ H11 e11 => fin H11 (e10.trans e11) (by rw [latN_succ hx]; rfl)
        | wri r' c =>
          have hrr : r' ≠ r := fun z => by
            rw [z] at hb
            exact absurd hb (by show ¬ (true && decide ((r : Int) = (r : Int))) = false; rw [decide_eq_true rfl]; decide)
          exact s_when (b := isPas (.wri r' c) && false) (et_and (et_test (c2 e10)) fun z => by cases z) (fun z => by cases z) fun _ H11 e11 => fin H11 (e10.trans e11) (by rw [latN_succ hx, latS_wri, if_neg hrr])
        | pas a1 b1 =>
          obtain ⟨ha1, hb1⟩ := hpas i a1 b1 hx
          obtain ⟨ta, hca, hta⟩ := hch9.2 a1 ha1
          obtain ⟨tb, hcb, htb⟩ := hch9.2 b1 hb1
          have ixa : ∀ {Hz : Hp}, Ex H9 Hz → Ev (tOp (rIxL K) (tVar 5) (tOp (rIxT K) (tVar 7) (tC (.int 1)))) σ0 Hz (.ref ta) := fun ez => ev_op (ev_var s5) (ev_op (ev_var s7) ev_c (rv_ixT (v := .int (a1 : Int)) (st_of (ez _ _ ht)) (atI_nat (j := 1) rfl))) (rv_ixL (sq_of (ez _ _ hC9)) (atI_nat hca))
          have ixb : ∀ {Hz : Hp}, Ex H9 Hz → Ev (tOp (rIxL K) (tVar 5) (tOp (rIxT K) (tVar 7) (tC (.int 2)))) σ0 Hz (.ref tb) := fun ez => ev_op (ev_var s5) (ev_op (ev_var s7) ev_c (rv_ixT (v := .int (b1 : Int)) (st_of (ez _ _ ht)) (atI_nat (j := 2) rfl))) (rv_ixL (sq_of (ez _ _ hC9)) (atI_nat hcb))
          have c3 : ∀ {Hz : Hp}, Ex H9 Hz → Ev (tOp (rGt1' K) (tSl (rSlA K) (tOp (rIxL K) (tVar 5) (tOp (rIxT K) (tVar 7) (tC (.int 1)))) tNoPart (tPart (tC (.int 1)))) (tSl (rSlA K) (tOp (rIxL K) (tVar 5) (tOp (rIxT K) (tVar 7) (tC (.int 2)))) tNoPart (tPart (tC (.int 1))))) σ0 Hz (.bl (hdGt (latN ds r i a1) (latN ds r i b1))) := fun {Hz} ez Hy ey Qy qy => by
            have q1 := es_sl (K := K) (σ := σ0) (H := Hy) (tl := tNoPart) (th := tPart (tC (.int 1))) (ixa (ez.trans ey)) eo_none (eo_some (i := 1) ev_c) ((ez.trans ey) _ _ hta)
            have q2 := es_sl (K := K) (σ := σ0) (H := Hy) (tl := tNoPart) (th := tPart (tC (.int 1))) (ixb (ez.trans ey)) eo_none (eo_some (i := 1) ev_c) ((ez.trans ey) _ _ htb)
            rw [cut1, nZ_take] at q1 q2
            refine q1 Hy (Ex.refl _) _ fun p1 Hu eu hp1 => q2 Hu eu _ fun p2 Hw ew hp2 => ⟨p1, p2, _, _, rfl, rfl, st_of (ew _ _ hp1), st_of hp2, by rw [List.length_take]; omega, by rw [List.length_take]; omega, ?_⟩
            rw [gt1_hd]
            exact qy Hw (eu.trans ew)
          refine s_when (b := isPas (.pas a1 b1) && hdGt (latN ds r i a1) (latN ds r i b1)) (et_and (et_test (c2 e10)) fun _ => et_test (c3 e10)) (fun hg H11 e11 => ?_) fun hg H11 e11 => fin H11 (e10.trans e11) (by
            have hg : hdGt (latN ds r i a1) (latN ds r i b1) = false := hg
            rw [latN_succ hx, latS_pas, if_neg (by rw [hg]; decide)])
          have hg : hdGt (latN ds r i a1) (latN ds r i b1) = true := hg
          have e911 := e10.trans e11
          have hz : (((nZ (latN ds r i a1)).map V.int).length) ≤ 1000 := by
            rcases chL ds r i (by have := (List.getElem?_eq_some_iff.mp hx).1; omega) a1 with z | z
            · rw [z]; decide
            · have nd : (latN ds r i a1).Nodup := z.pw.imp fun q => by omega
              have := asc_lt z.pw z.lt
              rw [List.length_map]
              unfold nZ
              rw [List.length_map]
              omega
          have q := es_cat (K := K) (σ := σ0) (H := H11) (es_var (ixa e911) (e911 _ _ hta)) (es_tup (t := tCons (tVar 6) tNil) (xs := [V.int (i : Int)]) (ea_cons (ev_var s6) ea_nil) (by simp)) (by simp only [List.length_singleton]; omega)
          rw [nZ_app] at q
          refine q H11 (Ex.refl _) _ fun p1 H12 e12 hp1 => ?_
          have e912 := e911.trans e12
          refine ⟨.ref C, s5, .ref t, s7, t, _, (2 : Int), .int (b1 : Int), rfl, rfl, st_of (e912 _ _ ht), atI_nat (j := 2) rfl, C, cs, (b1 : Int), b1, rfl, rfl, e912 _ _ hC9, ixN_nat (by rw [hch9.1]; exact hb1), ?_⟩
          have hput := (hch9.mono e912).put (l := latN ds r i a1 ++ [i]) (o := .lst (cs.set b1 (.ref p1))) hb1 hp1 (e912 _ _ hC9)
          exact ⟨_, _, _, hσ.symm, Ex.mut (e9.trans e912) nC4, upd_same, hput.congr (by rw [latN_succ hx, latS_pas, if_pos hg])⟩
    · obtain ⟨cs, o6, o7, rfl, e8, hC, hch⟩ := hp
      rw [hxl] at hch
      obtain ⟨tb, hcb, htb⟩ := hch.2 b hbn
      have ixb : ∀ {Hz : Hp}, Ex H' Hz → Ev (tOp (rIxL K) (tVar 5) (tVar 4)) [some (.int (n : Int)), some (.ref l), some (.ref a), some (.int (r : Int)), some (.int (b : Int)), some (.ref C), o6, o7] Hz (.ref tb) := fun ez => ev_op (ev_var rfl) (ev_var rfl) (rv_ixL (sq_of (ez _ _ hC)) (atI_nat hcb))
      have et : EvT (fun σ H Q => (tOp (rIxL K) (tVar 5) (tVar 4)) σ H fun x H' => ∃ k, TruV K x H' k ∧ Q k H') [some (.int (n : Int)), some (.ref l), some (.ref a), some (.int (r : Int)), some (.int (b : Int)), some (.ref C), o6, o7] H' (!((nZ (latN ds r ds.length b)).map V.int).isEmpty) := fun Hy ey Qy qy => ixb ey Hy (Ex.refl _) _ fun Hz ez => ⟨_, .inr (.inl ⟨_, st_of ((ey.trans ez) _ _ htb), rfl⟩), qy Hz ez⟩
      have z : Ev (tIf (fun σ H Q => (tOp (rIxL K) (tVar 5) (tVar 4)) σ H fun x H' => ∃ k, TruV K x H' k ∧ Q k H') (tOp (rIxL K) (tVar 5) (tVar 4)) (tC .non)) [some (.int (n : Int)), some (.ref l), some (.ref a), some (.int (r : Int)), some (.int (b : Int)), some (.ref C), o6, o7] H' (if (latN ds r ds.length b).isEmpty = true then .non else .ref tb) := by
        cases hq : latN ds r ds.length b with
        | nil =>
          rw [hq] at et
          exact ev_if (b := false) et (fun z => by cases z) fun _ => ev_c
        | cons w t =>
          rw [hq] at et
          exact ev_if (b := true) et (fun _ => ixb (Ex.refl _)) fun z => by cases z
      refine s_ret z fun H9 e9 => k H9 _ ((e04.trans e8).trans e9) ?_
      cases hq : latN ds r ds.length b with
      | nil => exact .inl ⟨rfl, rfl⟩
      | cons w t => exact .inr ⟨by simp, tb, rfl, by rw [← hq]; exact e9 _ _ htb⟩
end
end Wk

set_option Elab.async false
set_option linter.all false
set_option maxRecDepth 100000
set_option maxHeartbeats 4000000
namespace Wk
open PySem PySem.Spec PyProof.Rows L2 Evl
theorem op_in_seqK {X : Cx} {K : PySem.W.Frag} (hK : X.K = K) : OpR X (compareOp .In) (rIn K false) := by
  subst hK
  exact op_in_seq
/-- a latest chain is one, as is_chain judges -/
theorem chL_chB {ds : List Deed} {r b : Nat} {l : List Nat} (h : ChL ds r ds.length b l) : chB ds (r : Int) (b : Int) (.tuple ((nZ l).map PyData.int)) = true := by
  obtain ⟨w, t, rfl, ⟨c, hc⟩, hf⟩ := h.ex
  unfold chB
  refine Bool.and_eq_true_iff.mpr ⟨rfl, Bool.and_eq_true_iff.mpr ⟨?_, ?_⟩⟩
  · show ((nZ (w :: t)).map PyData.int).all (isR (ds.length : Int)) = true
    rw [List.all_map, List.all_eq_true]
    intro x hx
    obtain ⟨y, hy, rfl⟩ := List.mem_map.mp hx
    exact isR_yes (h.lt y hy)
  · have hw : wi (.tuple ((nZ (w :: t)).map PyData.int)) = nZ (w :: t) := by
      show ((nZ (w :: t)).map PyData.int).map valI = _
      rw [List.map_map]
      exact List.map_id _
    rw [hw]
    show chI ds (r : Int) (b : Int) ((w : Int) :: nZ t) = true
    rw [chI_cons (x := .wri r c) (by rw [Int.toNat_natCast]; exact hc)]
    refine Bool.and_eq_true_iff.mpr ⟨Bool.and_eq_true_iff.mpr ⟨?_, ?_⟩, decide_eq_true hf⟩
    · refine decide_eq_true ?_
      have : (nZ (w :: t)).Pairwise (· ≤ ·) := by
        unfold nZ
        rw [List.pairwise_map]
        exact h.pw.imp fun z => by omega
      exact this
    · show (true && decide ((r : Int) = (r : Int))) = true
      rw [decide_eq_true rfl]
      rfl
theorem inV_nZ (i : Nat) (l : List Nat) : inV (.int (i : Int)) ((nZ l).map V.int) = decide (i ∈ l) := by
  unfold inV nZ
  rw [List.map_map, List.any_map]
  induction l with
  | nil => simp
  | cons j l ih =>
    rw [List.any_cons, ih]
    show (((j : Int) == (i : Int)) || _) = _
    by_cases h : j = i
    · subst h; simp
    · have : ((j : Int) == (i : Int)) = false := beq_eq_false_iff_ne.mpr (by omega)
      rw [this, Bool.false_or]
      simp [Ne.symm h]
theorem nZ_flat (l : List Nat) : ((nZ l).map V.int).all flatV = true := by
  rw [List.all_map, List.all_eq_true]
  intro x _
  rfl
section
variable {K : PySem.W.Frag} {σ : L2.St} {H : Hp} {g : TG} {tu tz : TS} {D : Ends} {tl : TE}
/-- for x in row[a:] -/
theorem q_forSlR {a : Addr} {xs : List V} {lo : Nat} {te tp : TE} (h : Ev te σ H (.ref a)) (hx : Row H a xs) (hp : Ev tp σ H (.int (lo : Int))) (hlo : lo ≤ xs.length)
    (st : ∀ p H1, Ex H H1 → (∀ L o, H L = some o → L ≠ a → p ≠ L) → Row H1 p (xs.drop lo) → ∃ Pv : Nat → L2.St → Hp → Prop, Pv 0 σ H1 ∧ (∀ i σ' H', i ≤ (xs.drop lo).length → Pv i σ' H' → ∀ o, H1 p = some o → H' p = some o) ∧
      (∀ i x σ' H', (xs.drop lo)[i]? = some x → Pv i σ' H' → g x σ' H' fun σ2 H2 => tu { D with nx := Pv (i + 1), ct := Pv (i + 1), bk := tz D } σ2 H2) ∧ (∀ σ' H', Pv (xs.drop lo).length σ' H' → tz D σ' H')) :
    tSeq (tFor (iRow K (tSl (fun x lo hi H Q => rSlL K x lo hi H Q ∨ rSlA K x lo hi H Q) te (tPart tp) tNoPart)) g tu) tz D σ H := by
  refine h H (Ex.refl _) _ fun H1 e1 => hp H1 e1 _ fun H2 e2 => ⟨(lo : Int), rfl, ?_⟩
  have e02 := e1.trans e2
  rcases hx with hx | hx
  · refine .inl ⟨a, xs, rfl, sq_of (e02 _ _ hx), fun p np => ?_⟩
    rw [cut_from _ _ hlo]
    have hpp : (upd H2 p (.lst (xs.drop lo))) p = some (.lst (xs.drop lo)) := upd_same
    obtain ⟨Pv, z0, z1, z2, z3⟩ := st p _ (e02.trans (Ex.new np)) (fun L o hL _ z => by rw [z, e02 _ _ hL] at np; cases np) (.inl hpp)
    exact ⟨p, rfl, .inl ⟨⟨_, sq_of hpp⟩, for_list (D := { D with nx := tz D }) Pv z0 (fun i σ' H' hi q => sq_of (z1 i σ' H' hi q _ hpp)) z2 z3⟩⟩
  · have hx2 := e02 _ _ hx
    have fin : ∀ p H3, Ex H H3 → (∀ L o, H L = some o → L ≠ a → p ≠ L) → H3 p = some (.tup (xs.drop lo)) → ∃ W : Nat → Nat → L2.St → Hp → Prop, (∃ m, W 0 m σ H3) ∧ ∀ i m σ' H', W i m σ' H' →
      ((Itt K p).stop i H' ∧ tz D σ' H') ∨ ((Itt K p).go i H' ∧ ∃ N : L2.St → Hp → Prop, (∀ σ2 H2, N σ2 H2 → ∃ m', m' < m ∧ W (i + 1) m' σ2 H2) ∧ ∀ x H2, (Itt K p).yld i H' x H2 → g x σ' H2 fun σ3 H3 => tu { D with nx := N, ct := N, bk := tz D } σ3 H3) := fun p H3 e3 hne hpp => by
      obtain ⟨Pv, z0, z1, z2, z3⟩ := st p H3 e3 hne (.inr hpp)
      exact for_tup (D := { D with nx := tz D }) Pv z0 (fun i σ' H' hi q => st_of (z1 i σ' H' hi q _ hpp)) z2 z3
    refine .inr ⟨a, xs, rfl, st_of hx2, fun hw => ?_, fun hw p np => ?_⟩
    · have ec : xs.drop lo = xs := by
        have z := cut_from xs lo hlo
        unfold cutV at z
        rw [hw.1, hw.2] at z
        rw [← z]
        simp
      have hpp : H2 a = some (.tup (xs.drop lo)) := by rw [ec]; exact hx2
      exact ⟨a, rfl, .inr ⟨⟨_, st_of hpp⟩, fin a H2 e02 (fun L o hL hn z => hn z.symm) hpp⟩⟩
    · rw [cut_from _ _ hlo]
      have hpp : (upd H2 p (.tup (xs.drop lo))) p = some (.tup (xs.drop lo)) := upd_same
      exact ⟨p, rfl, .inr ⟨⟨_, st_of hpp⟩, fin p _ (e02.trans (Ex.new np)) (fun L o hL _ z => by rw [z, e02 _ _ hL] at np; cases np) hpp⟩⟩
end
/-! _law_reached -/
def spRch : Sp := fun vs H Q _ => ∃ (a : Addr) (xs : List V) (ds : List Deed) (w r c : Nat), vs = [.ref a, .int (w : Int)] ∧ Row H a xs ∧ DqA H xs (ds.map Deed.d) ∧ ds[w]? = some (Deed.wri r c) ∧ ds.length ≤ 100 ∧
  ∀ H' L l, Ex H H' → H L = none → H' L = some (.lst ((nZ l).map V.int)) → (∀ x, x ∈ l ↔ rcN ds w ds.length x = true) → Q (.ref L) H'
section
variable {P : Program} {w : World} {K : PySem.W.Frag} {mg : Str → Option Value} {base : Heap} {f : Addr} {fd : FuncData}
abbrev sRch : Stmt := top 44
abbrev nRch : List Str := ["_law_deeds", "_law_index", "_law_reached_here", "_law_deed_here"]
theorem scRch : FnScope nRch ["_law_deeds", "_law_index"] (defScope sRch) := ⟨rfl, rfl, rfl, by decide +kernel, rfl, by decide +kernel, by decide +kernel⟩
theorem op_notInK {X : Cx} {K : PySem.W.Frag} (hK : X.K = K) : OpR X (compareOp .NotIn) (rIn K true) := by
  subst hK
  exact op_notIn_seq
theorem ok_rch (F : FnP K "_law_reached" sRch f fd) : FnOk P w K mg base CX0 1 f fd ["_law_deeds", "_law_index"] spRch := by
  refine F.ok scRch (fun vs H Q E h => ?_) (fun cdv A outer s H vs Q E hr h => ?_)
  · obtain ⟨a, xs, ds, w, r, c, rfl, _⟩ := h
    rfl
  · obtain ⟨a, xs, ds, w, r, c, rfl, hR, hxs, hw, hdl, k⟩ := h
    refine ⟨_, pss_cons (ps_set (i := 2) scRch.nd rfl (Or.inl rfl) (pe_lst (pa_cons (pe_ix ix_tup (pe_ix (ix_row (K := K) rfl) (pv 0) (pv 1) (fun _ _ => rfl)) pe_int (fun _ _ => rfl)) pa_nil)))
      (pss_cons (ps_for (passes_of rfl) rfl (pi_row (pe_slice (SlR.or sl_list sl_tupA) (pv 0) (po_some (pe_op op_add (pv 1) pe_int)) po_none)) (pg_name (i := 3) scRch.nd rfl (Or.inl rfl))
        (pss_one (ps_if (PW.pt (pw_and (pt_cmpR op_eq (pe_ix ix_tup (pv 3) pe_int (fun _ _ => rfl)) pe_str (nomark _)) (pw_and (pt_cmpR (op_in_seqK (K := K) rfl) (pe_ix ix_tup (pv 3) pe_int (fun _ _ => rfl)) (pv 2) rfl) (pw_and1 (pt_cmpR (op_notInK (K := K) rfl) (pe_ix ix_tup (pv 3) pe_int (fun _ _ => rfl)) (pv 2) rfl)))))
          (pss_one (ps_expr (pe_bm PySem.F.plainAttrs_list PySem.F.slot_list_append PySem.F.type_list_append mt_append (pv 2) (pa_cons (pe_ix ix_tup (pv 3) pe_int (fun _ _ => rfl)) pa_nil)))) pss_nil)))
      (pss_one (ps_ret (pv 2)))), ?_⟩
    have hwl : w < ds.length := (List.getElem?_eq_some_iff.mp hw).1
    have hxl : xs.length = ds.length := by rw [hxs.length, List.length_map]
    obtain ⟨t, hxt, htt⟩ := deeds_at hxs hwl
    have hdw : ds[w] = .wri r c := Option.some.inj ((List.getElem?_eq_getElem hwl).symm.trans hw)
    rw [hdw] at htt
    have i0 : Ev (tOp (rIxT K) (tOp (rIxR K) (tVar 0) (tVar 1)) (tC (.int 1))) (start nRch [.ref a, .int (w : Int)]) H (.int (r : Int)) := ev_op (ev_op (ev_var rfl) (ev_var rfl) (rv_ixR hR (atI_nat hxt))) ev_c (rv_ixT (v := .int (r : Int)) (st_of htt) (atI_nat (j := 1) rfl))
    refine i0 H (Ex.refl _) _ fun H1 e1 => ⟨by show 1 ≤ sizeLine; decide, fun L nL => ?_⟩
    have nL0 : H L = none := fresh_back e1 nL
    have e2 := Ex.new (o := .lst [V.int (r : Int)]) nL
    have hL2 : (upd H1 L (.lst [V.int (r : Int)])) L = some (.lst [V.int (r : Int)]) := upd_same
    have e02 := e1.trans e2
    refine g_name ?_
    dsimp only
    generalize upd H1 L (.lst [V.int (r : Int)]) = H2 at *
    change tSeq (tFor _ _ _) _ _ [some (.ref a), some (.int (w : Int)), some (.ref L), none] H2
    have hLa : L ≠ a := fun z => by
      rcases hR with q | q
      · rw [← z, nL0] at q; cases q
      · rw [← z, nL0] at q; cases q
    refine q_forSlR (K := K) (a := a) (xs := xs) (lo := w + 1) (ev_var rfl) (hR.mono e02) (by
      have z := ev_op (r := rI0 fun i j => .int (i + j)) (σ := [some (.ref a), some (.int (w : Int)), some (.ref L), none]) (H := H2) (ta := tVar 1) (tb := tC (.int 1)) (ev_var (v := .int (w : Int)) rfl) ev_c rv_I0
      rw [show (w : Int) + 1 = ((w + 1 : Nat) : Int) by omega] at z
      exact z) (by omega) fun p H3 e3 hne hrow => ?_
    have hpL := hne L _ hL2 hLa
    refine ⟨fun i σ' H' => ∃ (l : List Nat) (o3 : Option V), σ' = [some (.ref a), some (.int (w : Int)), some (.ref L), o3] ∧ Ex H H' ∧ H' L = some (.lst ((nZ l).map V.int)) ∧ l.length ≤ i + 1 ∧ (∀ x, x ∈ l ↔ rcN ds w (w + 1 + i) x = true) ∧ ∀ o, H3 p = some o → H' p = some o, ⟨[r], _, rfl, e02.trans e3, e3 _ _ hL2, Nat.le_refl _, fun x => by rw [Nat.add_zero, rcN_at hw, List.mem_singleton, decide_eq_true_eq]; exact eq_comm, fun _ h => h⟩, fun i σ' H' _ hp o ho => ?_, fun i y σ' H' hy hp => ?_, fun σ' H' hp => ?_⟩
    · obtain ⟨_, _, _, _, _, _, _, h⟩ := hp
      exact h o ho
    · obtain ⟨l, o3, rfl, e4, hL4, hll, hl, hkp⟩ := hp
      rw [List.getElem?_drop] at hy
      obtain ⟨t1, x, rfl, hx, ht1⟩ := hdT hxs hy
      have ht4 := e4 _ _ ht1
      have hil : w + 1 + i < ds.length := (List.getElem?_eq_some_iff.mp hx).1
      refine g_name ?_
      dsimp only
      change tIfS _ _ _ _ [some (.ref a), some (.int (w : Int)), some (.ref L), some (.ref t1)] H'
      generalize hσ : ([some (.ref a), some (.int (w : Int)), some (.ref L), some (.ref t1)] : L2.St) = σ0
      have s2 : σ0[2]? = some (some (.ref L)) := by rw [← hσ]; rfl
      have s3 : σ0[3]? = some (some (.ref t1)) := by rw [← hσ]; rfl
      have c2 : Ev (tOp rEq (tOp (rIxT K) (tVar 3) (tC (.int 0))) (tC (.str "pass"))) σ0 H' (.bl (isPas x)) := by
        have z := ev_op (r := rEq) (σ := σ0) (H := H') (ta := tOp (rIxT K) (tVar 3) (tC (.int 0))) (tb := tC (.str "pass")) (ev_op (ev_var s3) ev_c (rv_ixT (st_of ht4) (Deed.at0 x))) ev_c (rv_eq rfl)
        rw [word_pas] at z
        exact z
      have same : ∀ (Hz : Hp), Ex H' Hz → (∀ x, rcN ds w (w + 1 + i + 1) x = rcN ds w (w + 1 + i) x) → ∃ (l : List Nat) (o3 : Option V), σ0 = [some (.ref a), some (.int (w : Int)), some (.ref L), o3] ∧ Ex H Hz ∧ Hz L = some (.lst ((nZ l).map V.int)) ∧ l.length ≤ i + 1 + 1 ∧ (∀ x, x ∈ l ↔ rcN ds w (w + 1 + (i + 1)) x = true) ∧ ∀ o, H3 p = some o → Hz p = some o := fun Hz ez he =>
        ⟨l, _, hσ.symm, e4.trans ez, ez _ _ hL4, by omega, fun x => by rw [show w + 1 + (i + 1) = w + 1 + i + 1 by omega, he]; exact hl x, fun o ho => ez _ _ (hkp o ho)⟩
      cases x with
      | wri _ _ => exact s_when (b := false && false) (et_and (et_test c2) fun z => by cases z) (fun z => by cases z) fun _ H5 e5 => same H5 e5 fun x => rcN_oth (by omega) hx rfl
      | los _ _ => exact s_when (b := false && false) (et_and (et_test c2) fun z => by cases z) (fun z => by cases z) fun _ H5 e5 => same H5 e5 fun x => rcN_oth (by omega) hx rfl
      | rst _ => exact s_when (b := false && false) (et_and (et_test c2) fun z => by cases z) (fun z => by cases z) fun _ H5 e5 => same H5 e5 fun x => rcN_oth (by omega) hx rfl
      | pas a1 b1 =>
        have d1 : Ev (tOp (rIxT K) (tVar 3) (tC (.int 1))) σ0 H' (.int (a1 : Int)) := ev_op (ev_var s3) ev_c (rv_ixT (v := .int (a1 : Int)) (st_of ht4) (atI_nat (j := 1) rfl))
        have d2 : ∀ {Hz : Hp}, Ex H' Hz → Ev (tOp (rIxT K) (tVar 3) (tC (.int 2))) σ0 Hz (.int (b1 : Int)) := fun ez => ev_op (ev_var s3) ev_c (rv_ixT (v := .int (b1 : Int)) (st_of (ez _ _ ht4)) (atI_nat (j := 2) rfl))
        have c3 : Ev (tOp (rIn K false) (tOp (rIxT K) (tVar 3) (tC (.int 1))) (tVar 2)) σ0 H' (.bl (decide (a1 ∈ l))) := by
          have z := ev_op (r := rIn K false) d1 (ev_var s2) (rv_inL (neg := false) (sq_of hL4) rfl (nZ_flat l))
          rw [if_neg (by decide), inV_nZ] at z
          exact z
        have c4 : Ev (tOp (rIn K true) (tOp (rIxT K) (tVar 3) (tC (.int 2))) (tVar 2)) σ0 H' (.bl (!decide (b1 ∈ l))) := by
          have z := ev_op (r := rIn K true) (d2 (Ex.refl _)) (ev_var s2) (rv_inL (neg := true) (sq_of hL4) rfl (nZ_flat l))
          rw [if_pos rfl, inV_nZ] at z
          exact z
        refine s_when (b := isPas (.pas a1 b1) && (decide (a1 ∈ l) && !decide (b1 ∈ l))) (et_and (et_test c2) fun _ => et_and (et_test c3) fun _ => et_test c4) (fun hb H5 e5 => ?_) fun hb H5 e5 => ?_
        · have hb : (decide (a1 ∈ l) && !decide (b1 ∈ l)) = true := hb
          obtain ⟨b2, b3⟩ := Bool.and_eq_true_iff.mp hb
          have b2 : a1 ∈ l := of_decide_eq_true b2
          refine s_app (K := K) (l := L) (xs := (nZ l).map V.int) (e5 _ _ hL4) (ev_var s2) (d2 e5) (by rw [List.length_map]; unfold nZ; rw [List.length_map]; omega) fun H6 e6 => ?_
          refine ⟨l ++ [b1], _, hσ.symm, Ex.mut ((e4.trans e5).trans e6) nL0, by rw [upd_same, nZ_app], by rw [List.length_append]; simp only [List.length_singleton]; omega, fun x => ?_, fun o ho => by rw [upd_ne hpL]; exact e6 _ _ (e5 _ _ (hkp o ho))⟩
          rw [show w + 1 + (i + 1) = w + 1 + i + 1 by omega, rcN_pas (by omega) hx, (hl a1).mp b2, Bool.and_true, List.mem_append, List.mem_singleton, Bool.or_eq_true, decide_eq_true_eq, hl x]
        · have hb : (decide (a1 ∈ l) && !decide (b1 ∈ l)) = false := hb
          refine same H5 e5 fun x => ?_
          rw [rcN_pas (by omega) hx]
          cases hq : rcN ds w (w + 1 + i) x with
          | true => rfl
          | false =>
            rw [Bool.false_or]
            by_cases hxb : x = b1
            · subst hxb
              rw [decide_eq_true rfl, Bool.true_and]
              have nb : x ∉ l := fun z => by rw [(hl x).mp z] at hq; cases hq
              rw [decide_eq_false nb, Bool.not_false, Bool.and_true] at hb
              have na := of_decide_eq_false hb
              cases hz : rcN ds w (w + 1 + i) a1 with
              | false => rfl
              | true => exact absurd ((hl a1).mpr hz) na
            · rw [decide_eq_false hxb]; rfl
    · obtain ⟨l, o3, rfl, e4, hL4, hll, hl, _⟩ := hp
      refine s_ret (v := .ref L) (ev_var rfl) fun H5 e5 => k H5 L l (e4.trans e5) nL0 (e5 _ _ hL4) fun x => ?_
      rw [hl x, List.length_drop, hxl, show w + 1 + (ds.length - (w + 1)) = ds.length by omega]
end
end Wk

set_option Elab.async false
set_option linter.all false
set_option maxRecDepth 100000
set_option maxHeartbeats 4000000
namespace Wk
open PySem PySem.Spec PyProof.Rows L2 Evl
/-! _law_pair -/
def oW : Option Nat → V
  | none => .non
  | some w => .int (w : Int)
def isWB (ds : List Deed) (r k : Nat) : Bool := match ds[k]? with | some d => isWri d && decide (d.one = r) | none => false
/-- how many of the first m deeds are writes of r, counted by a comprehension -/
theorem cnt_fil {ds : List Deed} {r : Nat} : ∀ {m : Nat}, m ≤ ds.length → ((List.range m).filter (isWB ds r)).length = cntW ds r m
  | 0, _ => rfl
  | m + 1, h => by
    have ih := cnt_fil (ds := ds) (r := r) (m := m) (by omega)
    have hd : ds[m]? = some ds[m] := List.getElem?_eq_getElem (by omega)
    rw [List.range_succ, List.filter_append, List.length_append, ih]
    have one : (List.filter (isWB ds r) [m]).length = if isWB ds r m = true then 1 else 0 := by
      rw [List.filter_cons]
      split <;> rfl
    rw [one]
    show _ = cntW ds r m + _
    congr 1
    unfold isWB
    rw [hd]
    cases ds[m] with
    | wri r' c =>
      show (if (true && decide (r' = r)) = true then 1 else 0) = if r' = r then 1 else 0
      by_cases e : r' = r <;> simp [e]
    | pas a b => rfl
    | los a b => rfl
    | rst a => rfl
def DsOk (n : Nat) (js : List Wy) (ds : List Deed) : Prop := ∀ d ∈ ds, d.ok n js false
theorem DsOk.dOk {n : Nat} {js : List Wy} {ds : List Deed} (h : DsOk n js ds) : ∀ x ∈ ds.map Deed.d, dOk n js x = true := fun x hx => by
  obtain ⟨d, hd, rfl⟩ := List.mem_map.mp hx
  have hk := h d hd
  unfold Wk.dOk
  rw [Deed.good hk, Bool.true_and]
  cases d with
  | pas a b => exact show (!decide (V.str "pass" = V.str "restart")) = true by decide +kernel
  | los a b => exact show (!decide (V.str "lose" = V.str "restart")) = true by decide +kernel
  | wri a b => exact show (!decide (V.str "write" = V.str "restart")) = true by decide +kernel
  | rst a => exact absurd hk.2 (by decide)
theorem firstD_none {n : Nat} {js : List Wy} : ∀ {ds : List PyData} {i : Nat}, (∀ x ∈ ds, dOk n js x = true) → firstD n js i ds = none
  | [], _, _ => rfl
  | d :: ds, i, h => by
    unfold firstD
    rw [if_pos (h d List.mem_cons_self)]
    exact firstD_none fun x hx => h x (List.mem_cons_of_mem _ hx)
theorem DsOk.noRst {n : Nat} {js : List Wy} {ds : List Deed} (h : DsOk n js ds) : NoRst ds := fun m r z => absurd (h _ (List.mem_of_getElem? z)).2 (by decide)
theorem DsOk.pas {n : Nat} {prs : List Wy} {ds : List Deed} (h : DsOk n (joinW prs) ds) (h8 : n ≤ 8) (hok : ∀ w ∈ prs, PrOk n w) (m x y : Nat) (hm : ds[m]? = some (Deed.pas x y)) : x < n ∧ y < n ∧ x ≠ y := by
  have z : [(x : Int), (y : Int)] ∈ joinW prs := h _ (List.mem_of_getElem? hm)
  obtain ⟨u, v, e, h1, h2, h3⟩ := join_ok h8 hok _ z
  injection e with e1 e2
  injection e2 with e2 _
  exact ⟨by omega, by omega, fun q => h3 (by omega)⟩
theorem Deed.ds_len (x : Deed) : x.ds.length ≤ 3 := by cases x <;> simp [Deed.ds]
theorem row_dq {H : Hp} {a : Addr} {xs : List V} {ds : List PyData} (hR : Row H a xs) (hx : DqA H xs ds) : ∃ d, Dq H (.ref a) d ∧ (d = .list ds ∨ d = .tuple ds) ∧ itemsR d = ds ∧ rowD d = true := by
  rcases hR with z | z
  · exact ⟨.list ds, .lst z hx, .inl rfl, rfl, rfl⟩
  · exact ⟨.tuple ds, .tup z hx, .inr rfl, rfl, rfl⟩
/-- latest(size, links, deeds, r, b), all of them right -/
theorem lat_sp {CB CD CN : Addr} {H : Hp} {n r b : Nat} {l a : Addr} {us xs : List V} {prs : List Wy} {ds : List Deed} {Q : VK} {E : XK} (h1 : 1 ≤ n) (h8 : n ≤ 8) (hl : Row H l us) (hus : DqA H us (prs.map wd)) (hok : ∀ w ∈ prs, PrOk n w) (hpl : prs.length ≤ 22) (hR : Row H a xs) (hxs : DqA H xs (ds.map Deed.d)) (hds : DsOk n (joinW prs) ds) (hdl : ds.length ≤ 60) (hr : r < n) (hb : b < n)
    (k : ∀ H' v, Ex H H' → LatV H' v (latN ds r ds.length b) → Q v H') : spLat CB CD CN [.int (n : Int), .ref l, .ref a, .int (r : Int), .int (b : Int)] H Q E := by
  obtain ⟨d2, g1, g2, _, _⟩ := row_dq hl hus
  obtain ⟨d3, g3, _, g5, g6⟩ := row_dq hR hxs
  refine ⟨_, _, _, _, _, rfl, .inr ⟨n, l, us, prs, d2, d3, rfl, rfl, h1, h8, hl, hus, hok, hpl, g1, g2, g3, by rw [g5, List.length_map]; omega, fun x hx => ?_, .inr ⟨?_, .int (r : Int), .int (b : Int), .int _, .int _, .inr (.inr ⟨ds, r, b, a, xs, rfl, hR, hxs, fun m x y hm => ⟨(hds.pas h8 hok m x y hm).1, (hds.pas h8 hok m x y hm).2.1⟩, rfl, rfl, hr, hb, by omega, k⟩)⟩⟩⟩
  · rw [g5] at hx
    obtain ⟨d, _, rfl⟩ := List.mem_map.mp hx
    have := d.ds_len
    show d.ds.length ≤ 1000
    omega
  · unfold faultD
    rw [if_pos g6, g5]
    exact firstD_none hds.dOk
theorem sh_nZ (l : List Nat) : SeqAt.shaped (.tuple ((nZ l).map PyData.int)) = true := by
  unfold SeqAt.shaped
  have h1 := lay_ints (nZ l)
  have h2 := depth_ints (nZ l)
  simp [PyData.canLay0, PyData.depth, h1, h2]
theorem dq_nZ {H : Hp} {t : Addr} {l : List Nat} (h : H t = some (.tup ((nZ l).map V.int))) : Dq H (.ref t) (.tuple ((nZ l).map PyData.int)) := .tup h (DqA.ints _)
theorem ev_slAll {K : PySem.W.Frag} {σ : L2.St} {H : Hp} {te : TE} {a : Addr} {xs : List V} (h : Ev te σ H (.ref a)) (hx : Row H a xs) (Q : VK) (q : ∀ p H1, Ex H H1 → Row H1 p xs → Q (.ref p) H1) : tSl (fun x lo hi H Q => rSlL K x lo hi H Q ∨ rSlA K x lo hi H Q) te tNoPart tNoPart σ H Q := by
  refine h H (Ex.refl _) _ fun H1 e1 => ?_
  rcases hx with hx | hx
  · refine .inl ⟨a, xs, rfl, sq_of (e1 _ _ hx), fun p np => ?_⟩
    have ec : cutV xs none none = xs := by
      unfold cutV
      rw [HT.sIx_none, HT.sIx_none, List.drop_zero]
      exact List.take_of_length_le (by omega)
    rw [ec]
    exact q p _ (e1.trans (Ex.new np)) (.inl upd_same)
  · exact .inr ⟨a, xs, rfl, st_of (e1 _ _ hx), fun _ => q a H1 e1 (.inr (e1 _ _ hx)), fun hw => absurd ⟨HT.sIx_none _ _, HT.sIx_none _ _⟩ hw⟩
/-- [k for k in range(w) if deeds[k] writes at r] -/
theorem lc_cnt {K : PySem.W.Frag} {σ : L2.St} {H : Hp} {ta : TE} {tt : TT} {j m : Nat} {vs : List Nat} {Q : VK} {f : Nat → Bool} (ha : Ev ta σ H (.int (m : Int))) (hm : m ≤ 1000) (hw : ∀ x, wipe ((wipe σ vs).set j (some x)) vs = wipe σ vs) (hj : ∀ x, ((wipe σ vs).set j (some x))[j]? = some (some x))
    (ht : ∀ (i : Nat) H1, Ex H H1 → i < m → EvT tt ((wipe σ vs).set j (some (.int (i : Int)))) H1 (f i)) (k : ∀ D H1 us, Ex H H1 → H1 D = some (.lst us) → us.length = ((List.range m).filter f).length → Q (.ref D) H1) :
    tLc (iRng1 (tCons ta tNil)) (gName j) tt (tVar j) vs σ H Q := ha H (Ex.refl _) _ fun H1 e1 => by
  refine ⟨(m : Int), rfl, by omega, by omega, fun D hD => ?_⟩
  refine lc_range (lo := 0) (n := (m : Int).toNat) (fun i H' => ∃ us, Ex H1 H' ∧ H' D = some (.lst us) ∧ us.length = ((List.range i).filter f).length) ⟨[], Ex.new hD, upd_same, rfl⟩ (fun i H' hi hh => ?_) (fun H' p => ?_)
  · obtain ⟨us, e2, h1, h2⟩ := hh
    have e0 : (0 : Int) + (i : Int) = (i : Int) := Int.zero_add _
    have hil : ((List.range i).filter f).length ≤ i := by have := List.length_filter_le f (List.range i); rw [List.length_range] at this; exact this
    show wipe ((wipe σ vs).set j (some (.int ((0 : Int) + (i : Int))))) vs = wipe σ vs ∧ tt ((wipe σ vs).set j (some (.int ((0 : Int) + (i : Int))))) H' fun b H3 => if b = true then tVar j ((wipe σ vs).set j (some (.int ((0 : Int) + (i : Int))))) H3 (fun y H4 => ∃ acc, H4 D = some (.lst acc) ∧ acc.length < sizeLine ∧ ∃ us, Ex H1 (upd H4 D (.lst (acc ++ [y]))) ∧ (upd H4 D (.lst (acc ++ [y]))) D = some (.lst us) ∧ us.length = ((List.range (i + 1)).filter f).length) else ∃ us, Ex H1 H3 ∧ H3 D = some (.lst us) ∧ us.length = ((List.range (i + 1)).filter f).length
    rw [e0]
    refine ⟨hw _, ht i H' (e1.trans e2) (by omega) H' (Ex.refl _) _ fun H3 e3 => ?_⟩
    cases hf : f i with
    | false =>
      rw [if_neg (by decide)]
      have hfl : (List.range (i + 1)).filter f = (List.range i).filter f := by rw [List.range_succ, List.filter_append, List.filter_cons, if_neg (by rw [hf]; decide), List.filter_nil, List.append_nil]
      rw [hfl]
      exact ⟨us, e2.trans e3, e3 _ _ h1, h2⟩
    | true =>
      rw [if_pos rfl]
      have hfl : (List.range (i + 1)).filter f = (List.range i).filter f ++ [i] := by rw [List.range_succ, List.filter_append, List.filter_cons, if_pos hf, List.filter_nil]
      rw [hfl]
      exact ⟨_, hj _, us, e3 _ _ h1, sz_lt (by omega), us ++ [_], Ex.mut (e2.trans e3) hD, upd_same, by rw [List.length_append, List.length_append, h2]; rfl⟩
  · obtain ⟨us, e2, h1, h2⟩ := p
    rw [show ((m : Int)).toNat = m by omega] at h2
    exact k D H' us (e1.trans e2) h1 h2
section
variable {P : Program} {w : World} {K : PySem.W.Frag} {mg : Str → Option Value} {base : Heap} {f : Addr} {fd : FuncData} {CB CD CN : Addr}
def spPair : Sp := fun vs H Q _ => ∃ (n r b : Nat) (l a bk : Addr) (us xs : List V) (prs : List Wy) (ds : List Deed), vs = [.int (n : Int), .ref l, .ref a, .int (r : Int), .int (b : Int), oW (latN ds r ds.length b).head?, .ref bk] ∧ 1 ≤ n ∧ n ≤ 8 ∧ Row H l us ∧ DqA H us (prs.map wd) ∧ (∀ w ∈ prs, PrOk n w) ∧ prs.length ≤ 22 ∧ Row H a xs ∧ DqA H xs (ds.map Deed.d) ∧ DsOk n (joinW prs) ds ∧ ds.length ≤ 60 ∧ r < n ∧ b < n ∧ BkAt H bk n (bkN ds ds.length b) ∧ ∀ H', Ex H H' → Q (.bl true) H'
abbrev sPair : Stmt := top 46
abbrev nPair : List Str := ["_law_size", "_law_links_here", "_law_deeds", "_law_r", "_law_b", "_law_write", "_law_book", "_law_chain", "_law_number", "_law_entry", "_law_k"]
theorem scPair : FnScope nPair ["_law_size", "_law_links_here", "_law_deeds", "_law_r", "_law_b", "_law_write", "_law_book"] (defScope sPair) := ⟨rfl, rfl, rfl, by decide +kernel, rfl, by decide +kernel, by decide +kernel⟩
theorem ok_pair (B : Bl mg) (CLa : CalX P w K mg base "latest" ["size", "links", "deeds", "r", "b"] 7 (spLat CB CD CN)) (CLc : Cal P w K mg base "_law_is_chain" ["_law_deeds", "_law_r", "_law_b", "_law_thing"] 2 spLChain) (CCh : Cal P w K mg base "is_chain" ["size", "links", "deeds", "r", "b", "thing"] 3 spChain) (CI : Cal P w K mg base "_law_is_integer" ["_law_thing"] 1 spIsInt) (F : FnP K "_law_pair" sPair f fd) : FnOk P w K mg base CX0 8 f fd ["_law_size", "_law_links_here", "_law_deeds", "_law_r", "_law_b", "_law_write", "_law_book"] spPair := by
  obtain ⟨fL, fdL, FL, gL, kL, bL⟩ := CLa.ex
  refine F.ok scPair (fun vs H Q E h => ?_) (fun cdv A outer s H vs Q E hr h => ?_)
  · obtain ⟨n, r, b, l, a, bk, us, xs, prs, ds, rfl, _⟩ := h
    rfl
  · obtain ⟨n, r, b, l, a, bk, us, xs, prs, ds, rfl, h1, h8, hl, hus, hok, hpl, hR, hxs, hds, hdl, hrn, hbn, hbk, k⟩ := h
    have hu : (A.deeper (envOfC "_law_pair" (defScope sPair) s.heap.objs.size f cdv)).units + 64 < cLine := by have := hr.un; omega
    have hu1 : (A.deeper (envOfC "_law_pair" (defScope sPair) s.heap.objs.size f cdv)).units + 1 < cLine := by omega
    refine ⟨_, pss_cons (ps_set (i := 7) scPair.nd rfl (Or.inl rfl) (pe_callS FL hr (by rfl) gL kL bL (fun σ => passAt takes0 σ) (pa_cons (pv 0) (pa_cons (pv 1) (pa_cons (pv 2) (pa_cons (pv 3) (pa_cons (pv 4) pa_nil)))))))
      (pss_cons (ps_if (pt_cmp (pc_isN (pv 5))) (pss_one (ps_ret (pe_and (pe_cmp (pc_isN (pv 7))) (pe_one (pe_cmp (pc_dnotin hu1 (pv 3) (pv 6))))))) pss_nil)
      (pss_cons (ps_if (PW.pt (pw_or (pt_not (pt_val (pe_cal CLc hr (by rfl) (pa_cons (pv 2) (pa_cons (pv 3) (pa_cons (pv 4) (pa_cons (pv 7) pa_nil))))))) (pw_or1 (pt_cmpR op_ne (pe_ix ix_tup (pv 7) pe_int (fun _ _ => rfl)) (pv 5) (nomark _))))) (pss_one (ps_ret pe_bl)) pss_nil)
      (pss_cons (ps_if (PW.pt (pw_or (pt_cmpR op_isnot_bl (pe_cal CCh hr (by rfl) (pa_cons (pv 0) (pa_cons (pv 1) (pa_cons (pv 2) (pa_cons (pv 3) (pa_cons (pv 4) (pa_cons (pv 7) pa_nil))))))) pe_bl (nomark _)) (pw_or1 (pt_cmp (pc_dnotin hu1 (pv 3) (pv 6)))))) (pss_one (ps_ret pe_bl)) pss_nil)
      (pss_cons (ps_if (PW.pt (pw_and (pt_cmpR op_eq (pv 4) (pe_op op_sub (pv 0) pe_int) (nomark _)) (pw_and1 (pt_cmpR (op_neD hu) (pe_callS FL hr (by rfl) gL kL bL (fun σ => passAt takes0 σ) (pa_cons (pv 0) (pa_cons (pe_slice (SlR.or sl_list sl_tupA) (pv 1) po_none po_none) (pa_cons (pe_slice (SlR.or sl_list sl_tupA) (pv 2) po_none po_none) (pa_cons (pv 3) (pa_cons (pv 4) pa_nil)))))) (pv 7) (nomark _))))) (pss_one (ps_ret pe_bl)) pss_nil)
      (pss_cons (ps_set (i := 8) scPair.nd rfl (Or.inl rfl) (pe_callB call_len_seq (by rfl) B.len PySem.boot_len (pa_cons (pe_lc (own := [("_law_k", 10)]) (g := gName 10) (te := tVar 10) (tt := tAnd (tTest (tOp rEq (tOp (rIxT K) (tOp (rIxR K) (tVar 2) (tVar 10)) (tC (.int 0))) (tC (.str "write")))) (tTest (tOp rEq (tOp (rIxT K) (tOp (rIxR K) (tVar 2) (tVar 10)) (tC (.int 1))) (tVar 3)))) rfl scPair.nd (pi_range1 (by rfl) B.range (pa_cons (pe_op op_add (pv 5) pe_int) pa_nil)) (blkOk_by (N := nPair) (sc := defScope sPair) (by decide +kernel))
        (fun _ _ _ _ _ => pg_name (i := 10) scPair.nd rfl (Or.inl rfl)) (fun _ _ _ _ _ => pts_one (PW.pt (pw_and (pt_cmpR op_eq (pe_ix ix_tup (pe_ix (ix_row (K := K) rfl) (pv 2) (pv 10) (fun _ _ => rfl)) pe_int (fun _ _ => rfl)) pe_str (nomark _)) (pw_and1 (pt_cmpR op_eq (pe_ix ix_tup (pe_ix (ix_row (K := K) rfl) (pv 2) (pv 10) (fun _ _ => rfl)) pe_int (fun _ _ => rfl)) (pv 3) (nomark _)))))) (fun _ _ _ _ _ => pv 10)) pa_nil)))
      (pss_cons (ps_set (i := 9) scPair.nd rfl (Or.inl rfl) (pe_dget hu1 (pv 6) (pv 3) (fun _ _ => rfl)))
      (pss_cons (ps_if (PW.pt (pw_or (pt_not (pt_val (pe_callB call_isi (by rfl) B.isi boot_isinstance (pa_cons (pv 9) (pa_cons (pe_bltn (v := .ty "tuple") (by rfl) B.tuple PyProof.Rows.boot_tuple rfl) pa_nil))))) (pw_or (pt_cmpR op_ne (pe_callB call_len_seq (by rfl) B.len PySem.boot_len (pa_cons (pv 9) pa_nil)) pe_int (nomark _)) (pw_or1 (pt_not (pt_val (pe_cal CI hr (by rfl) (pa_cons (pe_ix ix_tup (pv 9) pe_int (fun _ _ => rfl)) pa_nil)))))))) (pss_one (ps_ret pe_bl)) pss_nil)
      (pss_one (ps_ret (pe_and (pe_cal CI hr (by rfl) (pa_cons (pe_ix ix_tup (pv 9) pe_int (fun _ _ => rfl)) pa_nil)) (pe_one (pe_cmpR (op_eqD hu) (pv 9) (pe_tup (pa_cons (pv 8) (pa_cons (pe_ix ix_tup (pe_ix (ix_row (K := K) rfl) (pv 2) (pv 5) (fun _ _ => rfl)) pe_int (fun _ _ => rfl)) pa_nil))) (nomark _))))))))))))), ?_⟩
    have hxl : xs.length = ds.length := by rw [hxs.length, List.length_map]
    have hpo : PasOk ds := fun i x y hi => (hds.pas h8 hok i x y hi).2.2
    refine ⟨.int (n : Int), rfl, .ref l, rfl, .ref a, rfl, .int (r : Int), rfl, .int (b : Int), rfl, lat_sp h1 h8 hl hus hok hpl hR hxs hds hdl hrn hbn fun H1 v e1 hv => ?_⟩
    refine g_name ?_
    dsimp only
    obtain ⟨kvs, ks, hD, hB⟩ := id hbk
    have hbl := bk_lat hds.noRst ds.length (Nat.le_refl _) b r
    cases hL : latN ds r ds.length b with
    | nil =>
      have hvn : v = .non := by
        rcases hv with ⟨_, z⟩ | ⟨z, _⟩
        · exact z
        · exact absurd hL z
      subst hvn
      rw [hL] at hbl
      have hv0 : valV kvs (.inl ((r : Nat) : Int)) = none := by
        rcases hB.at_ r with ⟨z, _⟩ | ⟨_, e, _, z, _⟩
        · exact z
        · rw [hbl] at z; cases z
      change tSeq _ _ _ [some (.int (n : Int)), some (.ref l), some (.ref a), some (.int (r : Int)), some (.int (b : Int)), some .non, some (.ref bk), some .non, none, none, none] H1
      have c1 : ∀ {Hz : Hp}, Ev (tIsN (tVar 5)) [some (.int (n : Int)), some (.ref l), some (.ref a), some (.int (r : Int)), some (.int (b : Int)), some .non, some (.ref bk), some .non, none, none, none] Hz (.bl (decide (V.non = V.non))) := fun Hy ey Qy qy => ⟨.non, rfl, qy Hy (Ex.refl _)⟩
      have c2 : ∀ {Hz : Hp}, Ev (tIsN (tVar 7)) [some (.int (n : Int)), some (.ref l), some (.ref a), some (.int (r : Int)), some (.int (b : Int)), some .non, some (.ref bk), some .non, none, none, none] Hz (.bl (decide (V.non = V.non))) := fun Hy ey Qy qy => ⟨.non, rfl, qy Hy (Ex.refl _)⟩
      have c3 : ∀ {Hz : Hp}, Ex H Hz → Ev (tDNotIn (tVar 3) (tVar 6)) [some (.int (n : Int)), some (.ref l), some (.ref a), some (.int (r : Int)), some (.int (b : Int)), some .non, some (.ref bk), some .non, none, none, none] Hz (.bl true) := fun ez Hy ey Qy qy => ⟨.int (r : Int), rfl, .ref bk, rfl, bk, none, rfl, .inl ⟨kvs, .inl (r : Int), .inl ((ez.trans ey) _ _ hD), rfl, hv0.symm⟩, qy Hy (Ex.refl _)⟩
      refine q_when (b := decide (V.non = V.non)) (et_B c1) (fun _ H2 e2 => ?_) fun z => by rw [decide_eq_true rfl] at z; cases z
      refine s_ret (v := .bl (decide (V.non = V.non) && true)) (ev_andV c2 fun _ => c3 (e1.trans e2)) fun H3 e3 => ?_
      rw [decide_eq_true rfl]
      exact k H3 ((e1.trans e2).trans e3)
    | cons w0 t0 =>
      obtain ⟨t1, rfl, ht1⟩ : ∃ t1, v = .ref t1 ∧ H1 t1 = some (.tup ((nZ (latN ds r ds.length b)).map V.int)) := by
        rcases hv with ⟨z, _⟩ | ⟨_, t1, z1, z2⟩
        · rw [hL] at z; cases z
        · exact ⟨t1, z1, z2⟩
      have hch : ChL ds r ds.length b (latN ds r ds.length b) := by
        rcases chL ds r ds.length (Nat.le_refl _) b with z | z
        · rw [hL] at z; cases z
        · exact z
      have hcb := chL_chB hch
      have hlen : (latN ds r ds.length b).length ≤ 60 := Nat.le_trans (asc_lt hch.pw hch.lt) hdl
      obtain ⟨w1, t1', e1', ⟨c0, hw0⟩, _⟩ := hch.ex
      rw [hL] at e1' hbl
      injection e1' with e1' _
      subst e1'
      have hwl := hch.lt w0 (by rw [hL]; exact List.mem_cons_self)
      have hsome : bkN ds ds.length b r = some (entW ds r w0) := hbl
      obtain ⟨te, hte, hve⟩ : ∃ te, valV kvs (.inl ((r : Nat) : Int)) = some (.ref te) ∧ H te = some (.tup (entV (entW ds r w0))) := by
        rcases hB.at_ r with ⟨_, z⟩ | ⟨te, e, z1, z2, z3⟩
        · rw [hsome] at z; cases z
        · rw [hsome] at z2; cases z2
          exact ⟨te, z1, z3⟩
      have hat0 : ((nZ (latN ds r ds.length b)).map V.int)[0]? = some (.int (w0 : Int)) := by rw [hL]; rfl
      have hdq : ∀ {Hz : Hp} {t : Addr}, Hz t = some (.tup ((nZ (latN ds r ds.length b)).map V.int)) → Dq Hz (.ref t) (.tuple ((nZ (latN ds r ds.length b)).map PyData.int)) := fun h => dq_nZ h
      have hil : (itemsT (.tuple ((nZ (latN ds r ds.length b)).map PyData.int))).length ≤ 62 := by
        show ((nZ (latN ds r ds.length b)).map PyData.int).length ≤ 62
        rw [List.length_map]
        unfold nZ
        rw [List.length_map]
        omega
      have hsh := sh_nZ (latN ds r ds.length b)
      have hev : PyData.eqv (.tuple ((nZ (latN ds r ds.length b)).map PyData.int)) (.tuple ((nZ (latN ds r ds.length b)).map PyData.int)) = true := by
        show PyData.eqvAll _ _ = true
        rw [eqv_ints, decide_eq_true rfl]
      change tSeq _ _ _ [some (.int (n : Int)), some (.ref l), some (.ref a), some (.int (r : Int)), some (.int (b : Int)), some (.int (w0 : Int)), some (.ref bk), some (.ref t1), none, none, none] H1
      have dni : ∀ {Hz : Hp} {σ : L2.St}, σ[3]? = some (some (.int (r : Int))) → σ[6]? = some (some (.ref bk)) → Ex H Hz → Ev (tDNotIn (tVar 3) (tVar 6)) σ Hz (.bl false) := fun q3 q6 ez Hy ey Qy qy => ⟨.int (r : Int), q3, .ref bk, q6, bk, some (.ref te), rfl, .inl ⟨kvs, .inl (r : Int), .inl ((ez.trans ey) _ _ hD), rfl, hte.symm⟩, qy Hy (Ex.refl _)⟩
      have c1 : Ev (tIsN (tVar 5)) [some (.int (n : Int)), some (.ref l), some (.ref a), some (.int (r : Int)), some (.int (b : Int)), some (.int (w0 : Int)), some (.ref bk), some (.ref t1), none, none, none] H1 (.bl (decide (V.int (w0 : Int) = V.non))) := fun Hy ey Qy qy => ⟨.int (w0 : Int), rfl, qy Hy (Ex.refl _)⟩
      refine q_when (b := decide (V.int (w0 : Int) = V.non)) (et_B c1) (fun z => by cases of_decide_eq_true z) fun _ H2 e2 => ?_
      have e02 := e1.trans e2
      have ht2 := e2 _ _ ht1
      have c2 : Ev (tCall spLChain [] E0 (tCons (tVar 2) (tCons (tVar 3) (tCons (tVar 4) (tCons (tVar 7) tNil))))) [some (.int (n : Int)), some (.ref l), some (.ref a), some (.int (r : Int)), some (.int (b : Int)), some (.int (w0 : Int)), some (.ref bk), some (.ref t1), none, none, none] H2 (.bl true) :=
        ev_call (ea_cons (ev_var rfl) (ea_cons (ev_var rfl) (ea_cons (ev_var rfl) (ea_cons (ev_var rfl) ea_nil)))) (spP_v fun Hy ey => ⟨.ref t1, a, xs, ds, (r : Int), (b : Int), _, rfl, hR.mono (e02.trans ey), hxs.mono (e02.trans ey), hdl, hpo, hdq (ey _ _ ht2), hil, by rw [hcb]⟩)
      have c3 : ∀ {Hz : Hp}, Ex H2 Hz → Ev (tOp rNe (tOp (rIxT K) (tVar 7) (tC (.int 0))) (tVar 5)) [some (.int (n : Int)), some (.ref l), some (.ref a), some (.int (r : Int)), some (.int (b : Int)), some (.int (w0 : Int)), some (.ref bk), some (.ref t1), none, none, none] Hz (.bl (!decide (V.int (w0 : Int) = V.int (w0 : Int)))) := fun ez =>
        ev_op (r := rNe) (ev_op (ev_var rfl) ev_c (rv_ixT (v := .int (w0 : Int)) (st_of (ez _ _ ht2)) (atI_nat (j := 0) hat0))) (ev_var rfl) (rv_ne rfl)
      refine q_when (b := !true || !decide (V.int (w0 : Int) = V.int (w0 : Int))) (et_or (et_not (et_B c2)) fun _ => et_test (c3 (Ex.refl _))) (fun z => by rw [decide_eq_true rfl] at z; cases z) fun _ H3 e3 => ?_
      have e03 := e02.trans e3
      have ht3 := e3 _ _ ht2
      have c4 : Ev (tOp (fun x y H Q => ∃ a b, x = .bl a ∧ y = .bl b ∧ Q (.bl (!decide (a = b))) H) (tCall spChain [] E0 (tCons (tVar 0) (tCons (tVar 1) (tCons (tVar 2) (tCons (tVar 3) (tCons (tVar 4) (tCons (tVar 7) tNil))))))) (tC (.bl true))) [some (.int (n : Int)), some (.ref l), some (.ref a), some (.int (r : Int)), some (.int (b : Int)), some (.int (w0 : Int)), some (.ref bk), some (.ref t1), none, none, none] H3 (.bl false) := by
        refine ev_op (x := .bl true) (y := .bl true) (ev_call (ea_cons (ev_var rfl) (ea_cons (ev_var rfl) (ea_cons (ev_var rfl) (ea_cons (ev_var rfl) (ea_cons (ev_var rfl) (ea_cons (ev_var rfl) ea_nil)))))) (spP_v fun Hy ey => ⟨.int (n : Int), .ref l, .ref t1, a, xs, ds, (r : Int), (b : Int), _, rfl, hR.mono (e03.trans ey), hxs.mono (e03.trans ey), hdl, hdq (ey _ _ ht3), hil, by rw [hcb]⟩)) ev_c fun Hy _ Qy qy => ⟨true, true, rfl, rfl, qy Hy (Ex.refl _)⟩
      refine q_when (b := false || false) (et_or (et_test c4) fun _ => et_B (dni rfl rfl e03)) (fun z => by cases z) fun _ H4 e4 => ?_
      have e04 := e03.trans e4
      have ht4 := e4 _ _ ht3
      have c5 : Ev (tOp rEq (tVar 4) (tOp (rI0 fun i j => .int (i - j)) (tVar 0) (tC (.int 1)))) [some (.int (n : Int)), some (.ref l), some (.ref a), some (.int (r : Int)), some (.int (b : Int)), some (.int (w0 : Int)), some (.ref bk), some (.ref t1), none, none, none] H4 (.bl (decide (V.int (b : Int) = V.int ((n : Int) - 1)))) := ev_op (r := rEq) (ev_var rfl) (ev_op (ev_var rfl) ev_c rv_I0) (rv_eq rfl)
      have c6 : ∀ {Hz : Hp}, Ex H4 Hz → ∀ Hy, Ex Hz Hy → ∀ Q' : VK, (∀ Hw, Ex Hy Hw → Q' (.bl false) Hw) → (tOp (rNeD K) (fun σ H Q => ∃ x0, σ[0]? = some (some x0) ∧ tSl (fun x lo hi H Q => rSlL K x lo hi H Q ∨ rSlA K x lo hi H Q) (tVar 1) tNoPart tNoPart σ H fun x1 H1 => tSl (fun x lo hi H Q => rSlL K x lo hi H Q ∨ rSlA K x lo hi H Q) (tVar 2) tNoPart tNoPart σ H1 fun x2 H2 => ∃ x3, σ[3]? = some (some x3) ∧ ∃ x4, σ[4]? = some (some x4) ∧ spLat CB CD CN [x0, x1, x2, x3, x4] H2 Q (fun cls d H => False)) (tVar 7)) [some (.int (n : Int)), some (.ref l), some (.ref a), some (.int (r : Int)), some (.int (b : Int)), some (.int (w0 : Int)), some (.ref bk), some (.ref t1), none, none, none] Hy Q' := fun {Hz} ez Hy ey Q' q' => by
        refine ⟨.int (n : Int), rfl, ev_slAll (K := K) (ev_var rfl) (hl.mono (e04.trans (ez.trans ey))) _ fun p1 Hu eu hr1 => ev_slAll (K := K) (ev_var rfl) (hR.mono (e04.trans ((ez.trans ey).trans eu))) _ fun p2 Hw ew hr2 => ?_⟩
        have e4w := ((ez.trans ey).trans eu).trans ew
        refine ⟨.int (r : Int), rfl, .int (b : Int), rfl, lat_sp h1 h8 (hr1.mono ew) (hus.mono (e04.trans e4w)) hok hpl hr2 (hxs.mono (e04.trans e4w)) hds hdl hrn hbn fun Hv v2 ev hv2 => ?_⟩
        obtain ⟨t2, rfl, ht2'⟩ : ∃ t2, v2 = .ref t2 ∧ Hv t2 = some (.tup ((nZ (latN ds r ds.length b)).map V.int)) := by
          rcases hv2 with ⟨z, _⟩ | ⟨_, t2, z1, z2⟩
          · rw [hL] at z; cases z
          · exact ⟨t2, z1, z2⟩
        refine ⟨.ref t1, rfl, _, _, Dq.dp (SeqAt.canLay_of_shaped hsh) (hdq ht2'), Dq.dp (SeqAt.canLay_of_shaped hsh) (hdq ((e4w.trans ev) _ _ ht4)), hsh, hsh, ?_⟩
        rw [hev]
        exact q' Hv ((eu.trans ew).trans ev)
      refine q_when (b := decide (V.int (b : Int) = V.int ((n : Int) - 1)) && false) (et_and (et_test c5) fun _ => et_test fun Hy ey Q' q' => c6 (Ex.refl _) Hy ey Q' q') (fun z => by rw [Bool.and_false] at z; cases z) fun _ H5 e5 => ?_
      have e05 := e04.trans e5
      refine q_asgW ?_
      have wk : ∀ {Hz : Hp} {i : Nat} {σ : L2.St} {u : V} {m : Nat}, Ex H Hz → i < ds.length → σ[2]? = some (some (.ref a)) → σ[10]? = some (some (.int (i : Int))) → (∀ x, ds[i]? = some x → atI x.vs (m : Int) = some u) → Ev (tOp (rIxT K) (tOp (rIxR K) (tVar 2) (tVar 10)) (tC (.int (m : Int)))) σ Hz u := fun {Hz i σ u m} ez hi q2 q10 hx => by
        obtain ⟨t, g1, g2⟩ := deeds_at hxs hi
        exact ev_op (ev_op (ev_var q2) (ev_var q10) (rv_ixR (hR.mono ez) (atI_nat g1))) ev_c (rv_ixT (st_of (ez _ _ g2)) (hx _ (List.getElem?_eq_getElem hi)))
      refine cb1 ?_
      refine lc_cnt (K := K) (m := w0 + 1) (j := 10) (vs := [10]) (f := isWB ds r) (by
        have z := ev_op (r := rI0 fun i j => .int (i + j)) (σ := [some (.int (n : Int)), some (.ref l), some (.ref a), some (.int (r : Int)), some (.int (b : Int)), some (.int (w0 : Int)), some (.ref bk), some (.ref t1), none, none, none]) (H := H5) (ta := tVar 5) (tb := tC (.int 1)) (ev_var (v := .int (w0 : Int)) rfl) ev_c rv_I0
        rw [show (w0 : Int) + 1 = ((w0 + 1 : Nat) : Int) by omega] at z
        exact z) (by omega) (fun _ => rfl) (fun _ => rfl) (fun i Hz ez hi => ?_) fun D H6 us6 e6 hD6 hl6 => ?_
      · have hil2 : i < ds.length := by omega
        have hx := List.getElem?_eq_getElem hil2
        generalize ds[i] = x at hx
        have t0 := wk (m := 0) (i := i) (σ := (wipe [some (.int (n : Int)), some (.ref l), some (.ref a), some (.int (r : Int)), some (.int (b : Int)), some (.int (w0 : Int)), some (.ref bk), some (.ref t1), none, none, none] [10]).set 10 (some (.int (i : Int)))) (e05.trans ez) hil2 rfl rfl (u := .str x.word) (fun y hy => by rw [hx] at hy; cases hy; exact Deed.at0 x)
        have e : isWB ds r i = (decide (V.str x.word = V.str "write") && decide (V.int (x.one : Int) = V.int (r : Int))) := by
          unfold isWB
          rw [hx, word_wri]
          show (isWri x && decide (x.one = r)) = _
          congr 1
          exact decide_eq_decide.mpr ⟨fun z => by rw [z], fun z => by injection z with z; omega⟩
        rw [e]
        exact et_and (et_test (ev_op (r := rEq) t0 ev_c (rv_eq rfl))) fun _ => et_test (ev_op (r := rEq) (wk (m := 1) (i := i) (σ := (wipe [some (.int (n : Int)), some (.ref l), some (.ref a), some (.int (r : Int)), some (.int (b : Int)), some (.int (w0 : Int)), some (.ref bk), some (.ref t1), none, none, none] [10]).set 10 (some (.int (i : Int)))) (e05.trans ez) hil2 rfl rfl (u := .int (x.one : Int)) (fun y hy => by rw [hx] at hy; cases hy; exact Deed.at1 x)) (ev_var rfl) (rv_eq rfl))
      rw [cnt_fil (by omega)] at hl6
      refine ⟨D, us6, rfl, .inl (sq_of hD6), ?_⟩
      rw [hl6]
      dsimp only
      change tSeq _ _ _ [some (.int (n : Int)), some (.ref l), some (.ref a), some (.int (r : Int)), some (.int (b : Int)), some (.int (w0 : Int)), some (.ref bk), some (.ref t1), some (.int ((cntW ds r (w0 + 1) : Nat) : Int)), none, none] H6
      have e06 := e05.trans e6
      refine ⟨.ref bk, rfl, .int (r : Int), rfl, bk, .ref te, rfl, .inl ⟨kvs, .inl (r : Int), .inl (e06 _ _ hD), rfl, hte.symm⟩, ?_⟩
      refine g_name ?_
      dsimp only
      change tSeq _ _ _ [some (.int (n : Int)), some (.ref l), some (.ref a), some (.int (r : Int)), some (.int (b : Int)), some (.int (w0 : Int)), some (.ref bk), some (.ref t1), some (.int ((cntW ds r (w0 + 1) : Nat) : Int)), some (.ref te), none] H6
      have hve6 := e06 _ _ hve
      have hq6 : ∀ {Hz : Hp}, Ex H6 Hz → Hz te = some (.tup [.int ((cntW ds r (w0 + 1) : Nat) : Int), .int ((conW ds w0 : Nat) : Int)]) := fun ez => ez _ _ hve6
      have dqe : ∀ {Hz : Hp}, Ex H6 Hz → Dq Hz (.ref te) (.tuple [.int ((cntW ds r (w0 + 1) : Nat) : Int), .int ((conW ds w0 : Nat) : Int)]) := fun ez => .tup (hq6 ez) (.cons (.int _) (.cons (.int _) .nil))
      have f1 : Ev (tCB (rIsi K) (tCons (tVar 9) (tCons (tC (.ty "tuple")) tNil))) [some (.int (n : Int)), some (.ref l), some (.ref a), some (.int (r : Int)), some (.int (b : Int)), some (.int (w0 : Int)), some (.ref bk), some (.ref t1), some (.int ((cntW ds r (w0 + 1) : Nat) : Int)), some (.ref te), none] H6 (.bl true) := ev_isi (K := K) (ev_var rfl) (dqe (Ex.refl _)) (show kitB "tuple" "tuple" = some true by decide +kernel)
      have f2 : Ev (tOp rNe (tCB (rLenS K) (tCons (tVar 9) tNil)) (tC (.int 2))) [some (.int (n : Int)), some (.ref l), some (.ref a), some (.int (r : Int)), some (.int (b : Int)), some (.int (w0 : Int)), some (.ref bk), some (.ref t1), some (.int ((cntW ds r (w0 + 1) : Nat) : Int)), some (.ref te), none] H6 (.bl false) := ev_is (ev_op (r := rNe) (ev_lenT (K := K) (ev_var rfl) (st_of (hq6 (Ex.refl _)))) ev_c (rv_ne rfl)) (by
        show V.bl (!decide (V.int 2 = V.int 2)) = V.bl false
        rw [decide_eq_true rfl]
        rfl)
      have f3 : ∀ {Hz : Hp} {m : Nat} {z : Int}, Ex H6 Hz → [V.int ((cntW ds r (w0 + 1) : Nat) : Int), .int ((conW ds w0 : Nat) : Int)][m]? = some (.int z) → Ev (tCall spIsInt [] E0 (tCons (tOp (rIxT K) (tVar 9) (tC (.int (m : Int)))) tNil)) [some (.int (n : Int)), some (.ref l), some (.ref a), some (.int (r : Int)), some (.int (b : Int)), some (.int (w0 : Int)), some (.ref bk), some (.ref t1), some (.int ((cntW ds r (w0 + 1) : Nat) : Int)), some (.ref te), none] Hz (.bl true) := fun ez hm => ev_call (ea_cons (ev_op (ev_var rfl) ev_c (rv_ixT (st_of (hq6 ez)) (atI_nat hm))) ea_nil) (spP_v fun Hy ey => ⟨_, .int _, rfl, .int _, rfl⟩)
      refine q_when (b := !true || (false || !true)) (et_or (et_not (et_B f1)) fun _ => et_or (et_test f2) fun _ => et_not (et_B (f3 (m := 1) (Ex.refl _) rfl))) (fun z => by cases z) fun _ H7 e7 => ?_
      refine s_ret (v := .bl (true && true)) (ev_andV (f3 (m := 0) e7 rfl) fun _ => ?_) fun H8 e8 => k H8 ((e06.trans e7).trans e8)
      obtain ⟨tw, g1, g2⟩ := deeds_at hxs hwl
      have hdw : ds[w0] = .wri r c0 := Option.some.inj ((List.getElem?_eq_getElem hwl).symm.trans hw0)
      rw [hdw] at g2
      have hcon : conW ds w0 = c0 := by unfold conW; rw [hw0]
      intro H8 e8 Q8 q8
      have e08 := (e06.trans e7).trans e8
      refine ⟨.ref te, rfl, ?_⟩
      have z : EvA (tCons (tVar 8) (tCons (tOp (rIxT K) (tOp (rIxR K) (tVar 2) (tVar 5)) (tC (.int 2))) tNil)) [some (.int (n : Int)), some (.ref l), some (.ref a), some (.int (r : Int)), some (.int (b : Int)), some (.int (w0 : Int)), some (.ref bk), some (.ref t1), some (.int ((cntW ds r (w0 + 1) : Nat) : Int)), some (.ref te), none] H8 [.int ((cntW ds r (w0 + 1) : Nat) : Int), .int ((conW ds w0 : Nat) : Int)] := by
        rw [hcon]
        exact ea_cons (ev_var rfl) (ea_cons (ev_op (ev_op (ev_var rfl) (ev_var rfl) (rv_ixR (hR.mono e08) (atI_nat g1))) ev_c (rv_ixT (v := .int (c0 : Int)) (st_of (e08 _ _ g2)) (atI_nat (j := 2) rfl))) ea_nil)
      refine z H8 (Ex.refl _) _ fun H9 e9 => ⟨by show 2 ≤ sizeLine; decide, fun tz ntz => ?_⟩
      have e10 := Ex.new (o := .tup [V.int ((cntW ds r (w0 + 1) : Nat) : Int), .int ((conW ds w0 : Nat) : Int)]) ntz
      have shp : SeqAt.shaped (.tuple [.int ((cntW ds r (w0 + 1) : Nat) : Int), .int ((conW ds w0 : Nat) : Int)]) = true := shaped_ints [((cntW ds r (w0 + 1) : Nat) : Int), ((conW ds w0 : Nat) : Int)]
      refine ⟨_, _, Dq.dp (SeqAt.canLay_of_shaped shp) (dqe ((e7.trans e8).trans (e9.trans e10))), Dq.dp (SeqAt.canLay_of_shaped shp) (.tup upd_same (.cons (.int _) (.cons (.int _) .nil))), shp, shp, ?_⟩
      have ee : PyData.eqv (.tuple [.int ((cntW ds r (w0 + 1) : Nat) : Int), .int ((conW ds w0 : Nat) : Int)]) (.tuple [.int ((cntW ds r (w0 + 1) : Nat) : Int), .int ((conW ds w0 : Nat) : Int)]) = true := by
        have z := eqv_ints [((cntW ds r (w0 + 1) : Nat) : Int), ((conW ds w0 : Nat) : Int)] [((cntW ds r (w0 + 1) : Nat) : Int), ((conW ds w0 : Nat) : Int)]
        rw [decide_eq_true rfl] at z
        exact z
      rw [ee]
      exact q8 _ (e9.trans e10)
end
end Wk

set_option Elab.async false
set_option linter.all false
set_option maxRecDepth 100000
set_option maxHeartbeats 4000000
namespace Wk
open PySem PySem.Spec PyProof.Rows L2 Evl
theorem Deed.short (x : Deed) : (itemsT x.d).length ≤ 1000 := by
  cases x <;> (show _ ≤ 1000; simp [Deed.d, Deed.ds, itemsT])
section
variable {P : Program} {w : World} {K : PySem.W.Frag} {mg : Str → Option Value} {base : Heap} {f : Addr} {fd : FuncData} {CF CD : Addr}
/-! Flood.do -/
def spDo (CF CD : Addr) : Sp := fun vs H Q E => ∃ (G : Hp) (x pa la : Addr) (v : V) (n m : Nat) (B : Nat → Bk) (cs : Nat → Option Nat) (us : List V) (js : List Wy), vs = [.ref x, v] ∧ Ex G H ∧ FdA CF G H x pa la n m B cs ∧ n ≤ 8 ∧ m < 10000 ∧ G la = some (.lst us) ∧ DqA G us (js.map wd) ∧
  ((∃ (t : Addr) (d : Deed) (rs : Bool), v = .ref t ∧ H t = some (.tup d.vs) ∧ d.may n B cs ∧ d.ok n js rs ∧ ∀ G' H', Gm x pa G H G' H' → FdA CF G' H' x pa la n (m + 1) (stepB B cs d) (stepC cs d) → Q (.bl (!eqSb n (stepB B cs d) (stepC cs d) B cs)) H') ∨
   (∃ d, Dq H v d ∧ (itemsT d).length ≤ 1000 ∧ isFD n js d = false ∧ ∀ H', Ex H H' → E (.ref CD) none H'))
abbrev sDo : Stmt := inClass (top 22) 1
theorem scDo : FnScope ["self", "deed"] ["self", "deed"] (defScope sDo) := ⟨rfl, rfl, rfl, by decide +kernel, rfl, by decide +kernel, by decide +kernel⟩
theorem ok_do (X : FX K CF) (TD : ErrN K mg "BadDeed" CD) (CC : Cal P w K mg base "is_flood_deed" ["size", "arrows", "thing"] 4 spFD) (MG : Msk P w K mg base CF "_go" ["self", "deed"] 4 (spGo CF)) (F : FnM K "do" "Flood.do" sDo f fd) : FnOk P w K mg base (L2.CX P w) 5 f fd ["self", "deed"] (spDo CF CD) := by
  obtain ⟨f1, fd1, me1, F1, b1⟩ := MG.ex
  refine F.ok scDo (fun vs H Q E h => ?_) (fun cdv A outer s H vs Q E hr h => ?_)
  · obtain ⟨G, x, pa, la, v, n, m, B, cs, us, js, rfl, _⟩ := h
    rfl
  · obtain ⟨G, x, pa, la, v, n, m, B, cs, us, js, rfl, eG, hF, hn, hm, gla, hus, hv⟩ := h
    have r3 : Room 4 _ := hr.mono (by decide)
    refine ⟨_, pss_cons (ps_if (pt_not (pt_val (pe_cal CC hr (by rfl) (pa_cons (pe_fld (pv 0) rfl) (pa_cons (pe_fld (pv 0) rfl) (pa_cons (pv 1) pa_nil)))))) (pss_one (ps_raise rfl (takes_of rfl rfl rfl rfl) (pmk_errN rfl rfl TD (by rfl)))) pss_nil)
      (pss_one (ps_ret (pe_meth (pv 0) X.cl me1 F1 r3 b1 .nil pass0 (pa_cons (pv 1) pa_nil)))), ?_⟩
    obtain ⟨dx, fs, st, hx, ff, hst⟩ := hF.ob
    have fZ : Ev (tFld K (tVar 0) "_size") (start ["self", "deed"] [.ref x, v]) H (.int (n : Int)) := fun H2 e2 Q2 q => ⟨.ref x, rfl, x, CF, dx, _, _, rfl, e2 _ _ hx, X.cl, X.nZ, ff.sz, q H2 (Ex.refl H2)⟩
    have fA : Ev (tFld K (tVar 0) "_arrows") (start ["self", "deed"] [.ref x, v]) H (.ref la) := fun H2 e2 Q2 q => ⟨.ref x, rfl, x, CF, dx, _, _, rfl, e2 _ _ hx, X.cl, X.nA, ff.ar, q H2 (Ex.refl H2)⟩
    have c1 : ∀ (d : PyData), Dq H v d → (itemsT d).length ≤ 1000 → Ev (tCall spFD [] E0 (tCons (tFld K (tVar 0) "_size") (tCons (tFld K (tVar 0) "_arrows") (tCons (tVar 1) tNil)))) (start ["self", "deed"] [.ref x, v]) H (.bl (isFD n js d)) := fun d hd hl => ev_call (ea_cons fZ (ea_cons fA (ea_cons (ev_var rfl) ea_nil))) (spP_v fun H1 e => ⟨n, la, v, d, us, js, rfl, e _ _ (eG _ _ gla), hus.mono (eG.trans e), hd.mono e, hl, rfl⟩)
    rcases hv with ⟨t, d, rs, rfl, ht, hd, hok, k⟩ | ⟨d, hd, hl, hb, k⟩
    · have c2 := c1 d.d (Deed.dq ht) d.short
      rw [Deed.good hok] at c2
      refine q_when (b := !true) (et_not (et_B c2)) (fun z => by cases z) fun _ H1 e1 => ?_
      refine ⟨.ref x, rfl, x, dx, fs, rfl, e1 _ _ hx, ff.n2, .ref t, rfl, G, x, pa, la, t, n, m, B, cs, d, rfl, eG.trans e1, hF.ext e1, hn, hm, e1 _ _ ht, hd, fun G' H' gm hF' => ?_⟩
      exact k G' H' ⟨gm.ex, fun b u h1 h2 hb => gm.off b u h1 h2 (e1 _ _ hb), gm.sub, fun b u hb hh hn => gm.nw b u hb (e1 _ _ hh) hn⟩ hF'
    · have c2 := c1 d hd hl
      rw [hb] at c2
      exact q_when (b := !false) (et_not (et_B c2)) (fun _ H1 e1 => k H1 e1) (fun z => by cases z)
end
end Wk

set_option Elab.async false
set_option linter.all false
set_option maxRecDepth 100000
set_option maxHeartbeats 4000000
namespace Wk
open PySem PySem.Spec PyProof.Rows L2 Evl
/-- a router's own entry never comes back newer -/
theorem own_false {ds : List Deed} (hr : NoRst ds) {m : Nat} (hm : m ≤ ds.length) (a b : Nat) : newer (bkN ds m b) (bkN ds m a) b = false := by
  have Hb := hdOk ds b m hm
  unfold newer
  rw [bk_lat hr m hm a b, bk_lat hr m hm b b]
  cases ha : (latN ds b m a).head? with
  | none => rfl
  | some v =>
    obtain ⟨h1, h2, h3⟩ := Hb.is_ a v ha
    obtain ⟨w', g1, g2⟩ := Hb.mx b v h1 h2 (rcN_own h2 h1)
    rw [g1]
    obtain ⟨_, k2, _⟩ := Hb.is_ b w' g1
    show gtN (entW ds b v) (entW ds b w') = false
    rw [gt_ent h2 k2]
    exact decide_eq_false (by omega)
theorem may_ok {n : Nat} {prs : List Wy} {ds : List Deed} (hds : DsOk n (joinW prs) ds) (h8 : n ≤ 8) (hok : ∀ w ∈ prs, PrOk n w) {m : Nat} {d : Deed} (hd : ds[m]? = some d) : d.may n (bkN ds m) (csN ds m) := by
  have hm : m ≤ ds.length := Nat.le_of_lt (List.getElem?_eq_some_iff.mp hd).1
  have hk := hds d (List.mem_of_getElem? hd)
  cases d with
  | pas a b =>
    obtain ⟨h1, h2, _⟩ := hds.pas h8 hok m a b hd
    exact ⟨h1, h2, fun z => by rw [own_false hds.noRst hm] at z; cases z⟩
  | los a b => trivial
  | rst r => exact hk.1
  | wri r c => exact hk.1
theorem csN_succ {ds : List Deed} {m : Nat} {d : Deed} (h : ds[m]? = some d) : csN ds (m + 1) = stepC (csN ds m) d := by
  show (match ds[m]? with | some d => stepC (csN ds m) d | none => csN ds m) = _
  rw [h]
/-- the last write of r that has come to b in the end -/
def lastW (ds : List Deed) (r b : Nat) : Nat → Option Nat
  | 0 => none
  | m + 1 => if (isWB ds r m && rcN ds m ds.length b) = true then some m else lastW ds r b m
theorem isWB_iff {ds : List Deed} {r k : Nat} : isWB ds r k = true ↔ isWr ds r k := by
  unfold isWB isWr
  cases hk : ds[k]? with
  | none => simp
  | some d =>
    cases d with
    | wri r' c =>
      show (true && decide (r' = r)) = true ↔ _
      rw [Bool.true_and, decide_eq_true_eq]
      constructor
      · intro e
        exact ⟨c, by rw [e]⟩
      · rintro ⟨c', e⟩
        injection e with e
        injection e
    | pas a b => simp [isWri]
    | los a b => simp [isWri]
    | rst a => simp [isWri]
theorem lastW_is {ds : List Deed} {r b : Nat} : ∀ {m k : Nat}, lastW ds r b m = some k → k < m ∧ isWr ds r k ∧ rcN ds k ds.length b = true
  | 0, _, h => by cases h
  | m + 1, k, h => by
    unfold lastW at h
    split at h
    · rename_i c
      cases h
      obtain ⟨c1, c2⟩ := Bool.and_eq_true_iff.mp c
      exact ⟨by omega, isWB_iff.mp c1, c2⟩
    · obtain ⟨h1, h2⟩ := lastW_is h
      exact ⟨by omega, h2⟩
theorem lastW_mx {ds : List Deed} {r b k : Nat} (hw : isWr ds r k) (hr : rcN ds k ds.length b = true) : ∀ {m : Nat}, k < m → ∃ k', lastW ds r b m = some k' ∧ k ≤ k'
  | 0, h => absurd h (Nat.not_lt_zero _)
  | m + 1, h => by
    unfold lastW
    by_cases c : (isWB ds r m && rcN ds m ds.length b) = true
    · rw [if_pos c]; exact ⟨m, rfl, by omega⟩
    · rw [if_neg c]
      by_cases e : k = m
      · subst e
        exact absurd (Bool.and_eq_true_iff.mpr ⟨isWB_iff.mpr hw, hr⟩) c
      · exact lastW_mx hw hr (by omega)
theorem lastW_hd (ds : List Deed) (r b : Nat) : lastW ds r b ds.length = (latN ds r ds.length b).head? := by
  have H := hdOk ds r ds.length (Nat.le_refl _)
  cases h1 : lastW ds r b ds.length with
  | none =>
    cases h2 : (latN ds r ds.length b).head? with
    | none => rfl
    | some w =>
      obtain ⟨g1, g2, g3⟩ := H.is_ b w h2
      obtain ⟨k', q, _⟩ := lastW_mx g2 g3 g1
      rw [h1] at q
      cases q
  | some k =>
    obtain ⟨g1, g2, g3⟩ := lastW_is h1
    obtain ⟨w, q1, q2⟩ := H.mx b k g1 g2 g3
    obtain ⟨p1, p2, p3⟩ := H.is_ b w q1
    obtain ⟨k', s1, s2⟩ := lastW_mx p2 p3 p1
    rw [h1] at s1
    cases s1
    rw [q1, show w = k by omega]
theorem rcN_lt {n : Nat} {prs : List Wy} {ds : List Deed} (hds : DsOk n (joinW prs) ds) (h8 : n ≤ 8) (hok : ∀ w ∈ prs, PrOk n w) {r w : Nat} (hw : isWr ds r w) : ∀ {m b : Nat}, rcN ds w m b = true → b < n
  | 0, _, h => by cases h
  | m + 1, b, h => by
    obtain ⟨c, hc⟩ := hw
    by_cases e : m = w
    · subst e
      rw [rcN_at hc] at h
      have : r = b := of_decide_eq_true h
      have := (hds _ (List.mem_of_getElem? hc)).1
      omega
    · have ih := fun {b} => rcN_lt hds h8 hok ⟨c, hc⟩ (m := m) (b := b)
      unfold rcN at h
      rw [if_neg e] at h
      split at h
      · rename_i x y hxy
        rcases Bool.or_eq_true_iff.mp h with z | z
        · exact ih z
        · have := of_decide_eq_true (Bool.and_eq_true_iff.mp z).1
          have := (hds.pas h8 hok m x y hxy).2.1
          omega
      · exact ih h
/-- the list of the writes -/
def wV (n : Nat) (f : Nat → Option Nat) : List V := (List.range n).map fun b => oW (f b)
theorem wV_len (n : Nat) (f : Nat → Option Nat) : (wV n f).length = n := by unfold wV; simp
theorem wV_at {n b : Nat} {f : Nat → Option Nat} (h : b < n) : (wV n f)[b]? = some (oW (f b)) := by
  unfold wV
  rw [List.getElem?_map, List.getElem?_range h]
  rfl
theorem wV_set {n b : Nat} {f : Nat → Option Nat} {k : Nat} (h : b < n) : (wV n f).set b (.int (k : Int)) = wV n (fun j => if j = b then some k else f j) := by
  apply List.ext_getElem?
  intro i
  rw [List.getElem?_set]
  by_cases c : b = i
  · subst c
    rw [if_pos rfl, if_pos (by rw [wV_len]; exact h), wV_at h, if_pos rfl]
    rfl
  · rw [if_neg c]
    by_cases hi : i < n
    · rw [wV_at hi, wV_at hi, if_neg (fun z => c z.symm)]
    · rw [List.getElem?_eq_none (by rw [wV_len]; omega), List.getElem?_eq_none (by rw [wV_len]; omega)]
section
variable {K : PySem.W.Frag} {σ : L2.St} {H : Hp} {g : TG} {tu tz : TS} {D : Ends} {tl : TE}
/-- for x in a row -/
theorem q_forRow {a : Addr} {xs : List V} (h : Ev tl σ H (.ref a)) (hx : Row H a xs) (Pv : Nat → L2.St → Hp → Prop) (h0 : ∀ H1, Ex H H1 → Pv 0 σ H1) (hk : ∀ i σ' H', i ≤ xs.length → Pv i σ' H' → ∀ o, H a = some o → H' a = some o)
    (hs : ∀ i x σ' H', xs[i]? = some x → Pv i σ' H' → g x σ' H' fun σ2 H2 => tu { D with nx := Pv (i + 1), ct := Pv (i + 1), bk := tz D } σ2 H2) (hd : ∀ σ' H', Pv xs.length σ' H' → tz D σ' H') : tSeq (tFor (iRow K tl) g tu) tz D σ H :=
  h H (Ex.refl H) _ fun H1 e => by
    rcases hx with hx | hx
    · exact ⟨a, rfl, .inl ⟨⟨xs, sq_of (e _ _ hx)⟩, for_list (D := { D with nx := tz D }) Pv (h0 H1 e) (fun i σ' H' hi q => sq_of (hk i σ' H' hi q _ hx)) hs hd⟩⟩
    · exact ⟨a, rfl, .inr ⟨⟨xs, st_of (e _ _ hx)⟩, for_tup (D := { D with nx := tz D }) Pv (h0 H1 e) (fun i σ' H' hi q => st_of (hk i σ' H' hi q _ hx)) hs hd⟩⟩
end
section
variable {P : Program} {w : World} {K : PySem.W.Frag} {mg : Str → Option Value} {base : Heap} {f : Addr} {fd : FuncData} {CF CB CBd CN : Addr}
/-! _law_all -/
structure Ca (P : Program) (w : World) (K : PySem.W.Frag) (mg : Str → Option Value) (base : Heap) (CF CB CBd CN : Addr) : Prop where
  g : mg "Flood" = some (.ref CF)
  ini : ∃ (fI : Addr) (fd : FuncData), Mk K CF fI ∧ FnOk P w K mg base (L2.CX P w) 7 fI fd nInit (spInit2 CF CB) ∧ Binds K fd nInit []
  do_ : MskX P w K mg base CF "do" ["self", "deed"] 5 (spDo CF CBd)
  book : MskX P w K mg base CF "book" ["self", "router"] 5 (spBook2 CF CN)
  rch : Cal P w K mg base "_law_reached" ["_law_deeds", "_law_index"] 1 spRch
  pair : Cal P w K mg base "_law_pair" ["_law_size", "_law_links_here", "_law_deeds", "_law_r", "_law_b", "_law_write", "_law_book"] 8 spPair
def spAll : Sp := fun vs H Q _ => ∃ (n : Nat) (l a : Addr) (us xs : List V) (prs : List Wy) (ds : List Deed), vs = [.int (n : Int), .ref l, .ref a] ∧ 1 ≤ n ∧ n ≤ 8 ∧ Row H l us ∧ DqA H us (prs.map wd) ∧ (∀ w ∈ prs, PrOk n w) ∧ prs.length ≤ 22 ∧ Row H a xs ∧ DqA H xs (ds.map Deed.d) ∧ DsOk n (joinW prs) ds ∧ ds.length ≤ 60 ∧ ∀ H', Ex H H' → Q (.bl true) H'
abbrev sAll : Stmt := top 47
abbrev nAll : List Str := ["_law_size", "_law_links_here", "_law_deeds", "_law_flood", "_law_deed_here", "_law_r", "_law_writes", "_law_k", "_law_router", "_law_b"]
theorem scAll : FnScope nAll ["_law_size", "_law_links_here", "_law_deeds"] (defScope sAll) := ⟨rfl, rfl, rfl, by decide +kernel, rfl, by decide +kernel, by decide +kernel⟩
theorem ok_all (B : Bl mg) (X : FX K CF) (S : Ca P w K mg base CF CB CBd CN) (F : FnP K "_law_all" sAll f fd) : FnOk P w K mg base CX0 9 f fd ["_law_size", "_law_links_here", "_law_deeds"] spAll := by
  obtain ⟨fI, fdI, mk, FI, bI⟩ := S.ini
  obtain ⟨f1, fd1, me1, F1, b1⟩ := S.do_.ex
  obtain ⟨f2, fd2, me2, F2, b2⟩ := S.book.ex
  refine F.ok scAll (fun vs H Q E h => ?_) (fun cdv A outer s H vs Q E hr h => ?_)
  · obtain ⟨n, l, a, us, xs, prs, ds, rfl, _⟩ := h
    rfl
  · obtain ⟨n, l, a, us, xs, prs, ds, rfl, h1, h8, hl, hus, hok, hpl, hR, hxs, hds, hdl, k⟩ := h
    have r5 : Room 5 _ := hr.mono (by decide)
    refine ⟨_, pss_cons (ps_set (i := 3) scAll.nd rfl (Or.inl rfl) (pe_mkAt mk FI hr (by rfl) S.g bI (fun σ => passAt takes0 σ) (pa_cons (pv 0) (pa_cons (pv 1) pa_nil))))
      (pss_cons (ps_for (passes_of rfl) rfl (pi_row (pv 2)) (pg_name (i := 4) scAll.nd rfl (Or.inl rfl)) (pss_one (ps_expr (pe_meAt (pv 3) X.cl me1 F1 r5 b1 (fun σ => passAt takes0 σ) (pa_cons (pv 4) pa_nil)))))
      (pss_cons (ps_for (passes_of rfl) rfl (pi_range1 (by rfl) B.range (pa_cons (pv 0) pa_nil)) (pg_name (i := 5) scAll.nd rfl (Or.inl rfl))
        (pss_cons (ps_setLc (i := 6) (own := [("_law_k", 7)]) (g := gName 7) (tt := tYes) rfl scAll.nd rfl rfl (sw_true rfl rfl rfl (by decide +kernel)) (pi_range1 (by rfl) B.range (pa_cons (pv 0) pa_nil)) (blkOk_by (N := nAll) (sc := defScope sAll) (by decide +kernel)) (fun _ _ _ _ _ => pg_name (i := 7) scAll.nd rfl (Or.inl rfl)) (fun _ _ _ _ _ => pts_nil) (fun _ _ _ _ _ => pe_non))
        (pss_cons (ps_for (passes_of rfl) rfl (pi_range1 (by rfl) B.range (pa_cons (pe_callB call_len_seq (by rfl) B.len PySem.boot_len (pa_cons (pv 2) pa_nil)) pa_nil)) (pg_name (i := 7) scAll.nd rfl (Or.inl rfl))
          (pss_one (ps_if (PW.pt (pw_and (pt_cmpR op_eq (pe_ix ix_tup (pe_ix (ix_row (K := K) rfl) (pv 2) (pv 7) (fun _ _ => rfl)) pe_int (fun _ _ => rfl)) pe_str (nomark _)) (pw_and1 (pt_cmpR op_eq (pe_ix ix_tup (pe_ix (ix_row (K := K) rfl) (pv 2) (pv 7) (fun _ _ => rfl)) pe_int (fun _ _ => rfl)) (pv 5) (nomark _)))))
            (pss_one (ps_for (passes_of rfl) rfl (pi_list (pe_cal S.rch hr (by rfl) (pa_cons (pv 2) (pa_cons (pv 7) pa_nil)))) (pg_name (i := 8) scAll.nd rfl (Or.inl rfl)) (pss_one (ps_asg (pv 7) (pg_sub (pv 6) (pv 8) set_list))))) pss_nil)))
        (pss_one (ps_for (passes_of rfl) rfl (pi_range1 (by rfl) B.range (pa_cons (pv 0) pa_nil)) (pg_name (i := 9) scAll.nd rfl (Or.inl rfl))
          (pss_one (ps_if (pt_not (pt_val (pe_cal S.pair hr (by rfl) (pa_cons (pv 0) (pa_cons (pv 1) (pa_cons (pv 2) (pa_cons (pv 5) (pa_cons (pv 9) (pa_cons (pe_ix (ix_listK (K := K) rfl) (pv 6) (pv 9) (fun _ _ => rfl)) (pa_cons (pe_meAt (pv 3) X.cl me2 F2 r5 b2 (fun σ => passAt takes0 σ) (pa_cons (pv 9) pa_nil)) pa_nil)))))))))) (pss_one (ps_ret pe_bl)) pss_nil)))))))
      (pss_one (ps_ret pe_bl)))), ?_⟩
    have hxl : xs.length = ds.length := by rw [hxs.length, List.length_map]
    refine ⟨.int (n : Int), rfl, .ref l, rfl, fun x dx nx ndx nex => ?_⟩
    have e1 : Ex H (upd (upd H dx (.own x)) x (.ins CF dx [])) := fun b o hb => by
      rw [upd_ne (ne_of_none hb nx), upd_ne (ne_of_none hb ndx)]
      exact hb
    refine ⟨H, x, dx, .int (n : Int), .ref l, rfl, upd_same, e1, nx, .inl ⟨l, n, us, prs, rfl, rfl, hl.mono e1, hus, hok, hpl, h1, h8, fun G1 H1 pa la us1 eG1 eGH1 _ _ _ hF hla hja => ⟨rfl, ?_⟩⟩⟩
    refine g_name ?_
    dsimp only
    change tSeq (tFor _ _ _) _ _ [some (.int (n : Int)), some (.ref l), some (.ref a), some (.ref x), none, none, none, none, none, none] H1
    have e01 := eG1.trans eGH1
    refine q_forRow (K := K) (a := a) (xs := xs) (ev_var rfl) (hR.mono e01) (fun i σ' H' => ∃ (o4 : Option V) (G2 : Hp), σ' = [some (.int (n : Int)), some (.ref l), some (.ref a), some (.ref x), o4, none, none, none, none, none] ∧ Ex G1 G2 ∧ Ex G2 H' ∧ FdA CF G2 H' x pa la n i (bkN ds i) (csN ds i)) (fun H2 e2 => ⟨_, G1, rfl, Ex.refl _, eGH1.trans e2, hF.ext e2⟩) (fun i σ' H' _ hp o ho => ?_) (fun i y σ' H' hy hp => ?_) (fun σ' H' hp => ?_)
    · obtain ⟨_, G2, _, g1, g2, _⟩ := hp
      rcases hR with z | z
      · rw [e01 _ _ z] at ho; rw [← ho]; exact g2 _ _ (g1 _ _ (eG1 _ _ z))
      · rw [e01 _ _ z] at ho; rw [← ho]; exact g2 _ _ (g1 _ _ (eG1 _ _ z))
    · obtain ⟨o4, G2, rfl, g1, g2, hF2⟩ := hp
      obtain ⟨t, d, rfl, hd, ht⟩ := hdT hxs hy
      have e02 := (eG1.trans g1).trans g2
      obtain ⟨dx2, fs2, st2, q1, ff, q2⟩ := hF2.ob
      have hi60 : i < 60 := by have := (List.getElem?_eq_some_iff.mp hd).1; omega
      refine g_name ?_
      dsimp only
      refine ⟨.ref x, rfl, x, dx2, fs2, rfl, q1, ff.n1, .ref t, rfl, G2, x, pa, la, .ref t, n, i, bkN ds i, csN ds i, us1, joinW prs, rfl, g2, hF2, h8, by omega, g1 _ _ hla, hja.mono g1, .inl ⟨t, d, false, rfl, e02 _ _ ht, may_ok hds h8 hok hd, hds d (List.mem_of_getElem? hd), fun G3 H3 gm hF3 => ?_⟩⟩
      rw [← bkN_succ hd, ← csN_succ hd] at hF3
      exact ⟨_, G3, rfl, g1.trans gm.ex, gm.sub, hF3⟩
    obtain ⟨o4, G2, rfl, g1, g2, hF2⟩ := hp
    rw [hxl] at hF2
    have e02 := (eG1.trans g1).trans g2
    generalize H' = H2 at *
    refine q_forR1 (ea_cons (ev_var rfl) ea_nil) (n := (n : Int)) (by omega) (fun i σ' H' => ∃ (o5 o6 o7 o8 o9 : Option V), σ' = [some (.int (n : Int)), some (.ref l), some (.ref a), some (.ref x), o4, o5, o6, o7, o8, o9] ∧ Ex H2 H') (fun H3 e3 => ⟨_, _, _, _, _, rfl, e3⟩) ?_ ?_
    rotate_left
    · rintro σ' H3 ⟨o5, o6, o7, o8, o9, rfl, e3⟩
      exact s_ret ev_c fun H4 e4 => k H4 ((e02.trans e3).trans e4)
    rintro r σ' H3 hr ⟨o5, o6, o7, o8, o9, rfl, e3⟩
    have hrn : r < n := by omega
    have e03 := e02.trans e3
    change tSeq _ _ _ [some (.int (n : Int)), some (.ref l), some (.ref a), some (.ref x), o4, some (.int (r : Int)), o6, o7, o8, o9] H3
    refine q_asgW ?_
    refine ⟨.int (n : Int), rfl, (n : Int), rfl, by omega, by omega, fun W nW => ?_⟩
    refine lc_range (lo := 0) (n := (n : Int).toNat) (fun i H' => Ex H3 H' ∧ H' W = some (.lst ((List.range i).map fun _ => V.non))) ⟨Ex.new nW, upd_same⟩ (fun i H' hi hp => ?_) (fun H4 hp => ?_)
    · obtain ⟨e4, hW⟩ := hp
      refine ⟨rfl, ?_⟩
      refine et_yes H' (Ex.refl _) _ fun H5 e5 => ?_
      rw [if_pos rfl]
      exact ⟨_, e5 _ _ hW, by rw [List.length_map, List.length_range]; exact sz_lt (by omega), Ex.mut (e4.trans e5) nW, by rw [upd_same, List.range_succ, List.map_append]; rfl⟩
    obtain ⟨e4, hW⟩ := hp
    have hW0 : (List.range (n : Int).toNat).map (fun _ => V.non) = wV n (fun b => lastW ds r b 0) := by
      rw [show ((n : Int)).toNat = n by omega]
      rfl
    rw [hW0] at hW
    change tSeq (tFor _ _ _) _ _ [some (.int (n : Int)), some (.ref l), some (.ref a), some (.ref x), o4, some (.int (r : Int)), some (.ref W), o7, o8, o9] H4
    have e04 := e03.trans e4
    refine q_forR1 (ea_cons (ev_lenR (ev_var rfl) (hR.mono e04)) ea_nil) (n := (xs.length : Int)) (by omega) (fun i σ' H' => ∃ (o7 o8 : Option V), σ' = [some (.int (n : Int)), some (.ref l), some (.ref a), some (.ref x), o4, some (.int (r : Int)), some (.ref W), o7, o8, o9] ∧ Ex H3 H' ∧ H' W = some (.lst (wV n fun b => lastW ds r b i))) (fun H5 e5 => ⟨_, _, rfl, e4.trans e5, e5 _ _ hW⟩) ?_ ?_
    · rintro i σ' H5 hi ⟨o7, o8, rfl, e5, hW5⟩
      have hil : i < ds.length := by omega
      have e05 := e03.trans e5
      have hd := List.getElem?_eq_getElem hil
      obtain ⟨t, g3, g4⟩ := deeds_at hxs hil
      generalize ds[i] = d at hd g4
      change tIfS _ _ _ _ [some (.int (n : Int)), some (.ref l), some (.ref a), some (.ref x), o4, some (.int (r : Int)), some (.ref W), some (.int (i : Int)), o8, o9] H5
      have wk : ∀ {Hz : Hp} {u : V} {m : Nat}, Ex H5 Hz → atI d.vs (m : Int) = some u → Ev (tOp (rIxT K) (tOp (rIxR K) (tVar 2) (tVar 7)) (tC (.int (m : Int)))) [some (.int (n : Int)), some (.ref l), some (.ref a), some (.ref x), o4, some (.int (r : Int)), some (.ref W), some (.int (i : Int)), o8, o9] Hz u := fun ez hx => ev_op (ev_op (ev_var rfl) (ev_var rfl) (rv_ixR (hR.mono (e05.trans ez)) (atI_nat g3))) ev_c (rv_ixT (st_of ((e05.trans ez) _ _ g4)) hx)
      have ee : isWB ds r i = (decide (V.str d.word = V.str "write") && decide (V.int (d.one : Int) = V.int (r : Int))) := by
        unfold isWB
        rw [hd, word_wri]
        show (isWri d && decide (d.one = r)) = _
        congr 1
        exact decide_eq_decide.mpr ⟨fun z => by rw [z], fun z => by injection z with z; omega⟩
      have ct : EvT (tAnd (tTest (tOp rEq (tOp (rIxT K) (tOp (rIxR K) (tVar 2) (tVar 7)) (tC (.int 0))) (tC (.str "write")))) (tTest (tOp rEq (tOp (rIxT K) (tOp (rIxR K) (tVar 2) (tVar 7)) (tC (.int 1))) (tVar 5)))) [some (.int (n : Int)), some (.ref l), some (.ref a), some (.ref x), o4, some (.int (r : Int)), some (.ref W), some (.int (i : Int)), o8, o9] H5 (isWB ds r i) := by
        rw [ee]
        exact et_and (et_test (ev_op (r := rEq) (wk (m := 0) (Ex.refl _) (Deed.at0 d)) ev_c (rv_eq rfl))) fun _ => et_test (ev_op (r := rEq) (wk (m := 1) (Ex.refl _) (Deed.at1 d)) (ev_var rfl) (rv_eq rfl))
      refine s_when (b := isWB ds r i) ct (fun hb H6 e6 => ?_) (fun hb H6 e6 => ?_)
      · obtain ⟨c, hc⟩ := isWB_iff.mp hb
        have e06 := e05.trans e6
        refine ⟨.ref a, rfl, .int (i : Int), rfl, a, xs, ds, i, r, c, rfl, hR.mono e06, hxs.mono e06, hc, by omega, fun H7 L lr e7 nL hL7 hlr => ?_⟩
        have hW7 := e7 _ _ (e6 _ _ hW5)
        have nLW : L ≠ W := fun z => by rw [z, (e6 _ _ hW5)] at nL; cases nL
        refine ⟨L, rfl, ⟨_, sq_of hL7⟩, ?_⟩
        refine for_list (a := L) (xs := (nZ lr).map V.int) (fun j σ' H' => ∃ (o8 : Option V), σ' = [some (.int (n : Int)), some (.ref l), some (.ref a), some (.ref x), o4, some (.int (r : Int)), some (.ref W), some (.int (i : Int)), o8, o9] ∧ Ex H3 H' ∧ H' L = some (.lst ((nZ lr).map V.int)) ∧ H' W = some (.lst (wV n fun b => if b ∈ lr.take j then some i else lastW ds r b i))) ⟨_, rfl, (e5.trans e6).trans e7, hL7, by simpa using hW7⟩ (fun j σ' H' _ hp => ?_) (fun j y σ' H' hy hp => ?_) (fun σ' H' hp => ?_)
        · obtain ⟨_, _, _, z, _⟩ := hp
          exact sq_of z
        · obtain ⟨o8, rfl, e8, hL8, hW8⟩ := hp
          rw [List.getElem?_map] at hy
          unfold nZ at hy
          rw [List.getElem?_map] at hy
          cases hq : lr[j]? with
          | none => rw [hq] at hy; cases hy
          | some xj =>
            rw [hq] at hy
            obtain rfl := (Option.some.inj hy).symm
            have hxn : xj < n := rcN_lt hds h8 hok ⟨c, hc⟩ ((hlr xj).mp (List.mem_of_getElem? hq))
            refine g_name ?_
            dsimp only
            refine s_setL (l := W) (j := xj) hW8 (ev_var (i := 7) (v := .int (i : Int)) rfl) (ev_var rfl) (ev_var rfl) (by rw [wV_len]; exact hxn) fun H9 e9 => ?_
            refine ⟨_, rfl, Ex.mut (e8.trans e9) nW, by rw [upd_ne nLW]; exact e9 _ _ hL8, ?_⟩
            rw [upd_same, wV_set hxn, take_snoc hq]
            congr 2
            congr 1
            funext b
            by_cases cb : b = xj
            · subst cb
              simp
            · rw [if_neg cb]
              by_cases cm : b ∈ lr.take j
              · simp [cm]
              · simp [cm, cb]
        · obtain ⟨o8, rfl, e8, hL8, hW8⟩ := hp
          refine ⟨_, _, rfl, e8, ?_⟩
          rw [hW8]
          congr 2
          congr 1
          funext b
          have hlen : ((nZ lr).map V.int).length = lr.length := by rw [List.length_map]; unfold nZ; rw [List.length_map]
          rw [hlen, List.take_length]
          show _ = (if (isWB ds r i && rcN ds i ds.length b) = true then some i else lastW ds r b i)
          rw [hb, Bool.true_and]
          by_cases cm : b ∈ lr
          · rw [if_pos cm, if_pos ((hlr b).mp cm)]
          · rw [if_neg cm, if_neg (fun z => cm ((hlr b).mpr z))]
      · refine ⟨_, _, rfl, e5.trans e6, ?_⟩
        rw [e6 _ _ hW5]
        congr 2
        congr 1
        funext b
        show _ = (if (isWB ds r i && rcN ds i ds.length b) = true then some i else lastW ds r b i)
        rw [hb, Bool.false_and, if_neg (by decide)]
    · rintro σ' H5 ⟨o7, o8, rfl, e5, hW5⟩
      rw [hxl] at hW5
      have e05 := e03.trans e5
      refine s_forR1 (ea_cons (ev_var rfl) ea_nil) (n := (n : Int)) (by omega) (fun i σ' H' => ∃ (o9 : Option V), σ' = [some (.int (n : Int)), some (.ref l), some (.ref a), some (.ref x), o4, some (.int (r : Int)), some (.ref W), o7, o8, o9] ∧ Ex H5 H') (fun H6 e6 => ⟨_, rfl, e6⟩) ?_ (fun σ' H6 ⟨o9, e, e6⟩ => ⟨_, _, _, _, _, e, (e3.trans e5).trans e6⟩)
      rintro b σ' H6 hb ⟨o9, rfl, e6⟩
      have hbn : b < n := by omega
      have e06 := e05.trans e6
      have hF6 := hF2.ext ((e3.trans e5).trans e6)
      refine s_when (b := !true) (et_not (et_B fun Hy ey Qy qy => ?_)) (fun z => by cases z) fun _ H7 e7 => ⟨_, rfl, e6.trans e7⟩
      refine ⟨.int (n : Int), rfl, .ref l, rfl, .ref a, rfl, .int (r : Int), rfl, .int (b : Int), rfl, ?_⟩
      refine ev_op (ev_var rfl) (ev_var rfl) (rv_ixL (K := K) (i := (b : Int)) (sq_of (ey _ _ (e6 _ _ hW5))) (atI_nat (wV_at hbn))) Hy (Ex.refl _) _ fun H7 e7 => ?_
      have e67 := ey.trans e7
      have hF7 := hF6.ext e67
      have e07 := e06.trans e67
      obtain ⟨dx2, fs2, st2, q1, ff, q2⟩ := hF7.ob
      refine ⟨.ref x, rfl, x, dx2, fs2, rfl, q1, ff.n3, .int (b : Int), rfl, G2, x, pa, la, .int (b : Int), n, ds.length, bkN ds ds.length, csN ds ds.length, rfl, (((g2.trans e3).trans e5).trans e6).trans e67, hF7, h8, .inl ⟨b, rfl, hbn, fun H8 D kvs ks e8 nD hD hB _ => ?_⟩⟩
      have e08 := e07.trans e8
      refine ⟨n, r, b, l, a, D, us, xs, prs, ds, ?_, h1, h8, hl.mono e08, hus.mono e08, hok, hpl, hR.mono e08, hxs.mono e08, hds, hdl, hrn, hbn, ⟨kvs, ks, hD, hB.mono (((((g2.trans e3).trans e5).trans e6).trans e67).trans e8)⟩, fun H9 e9 => qy H9 ((e7.trans e8).trans e9)⟩
      rw [← lastW_hd, show ((ds.length : Int)).toNat = ds.length by omega]
      rfl
end
end Wk

set_option Elab.async false
set_option linter.all false
set_option maxRecDepth 100000
set_option maxHeartbeats 4000000
namespace Wk
open PySem PySem.Spec PyProof.Rows L2 Evl
/-! promises of defs that are called where no repr is under way -/
structure FnG (P : Program) (w : World) (K : PySem.W.Frag) (mg : Str → Option Value) (base : Heap) (k : Nat) (f : Addr) (fd : FuncData) (ps : List Str) (sp : Sp) : Prop where
  len : ∀ vs H Q E, sp vs H Q E → vs.length = ps.length
  run : ∀ (A : Around) (outer : List Env) (s : Shared) (H : Hp) (args : Args) (us : List Value) (vs : List V) (Q : VK) (E : XK), Room k A → A.guards = some [] → Env0 P w K mg base A outer s H → BindsTo s fd args (ps.zip us) → Vals vs us → sp vs H Q E →
    codeAny (model P w) A (.call (.ref f) args) (CR CX0 outer P w H s Q E) s
section
variable {P : Program} {w : World} {K : PySem.W.Frag} {mg : Str → Option Value} {base : Heap} {x qual : Str} {params : Arguments} {body : List Stmt} {scope : Scope} {dvs : List V} {kws : List (Str × V)} {f : Addr} {fd : FuncData}
theorem okG {N ps : List Str} {k : Nat} {sp : Sp} (F : FunD K x qual params body scope dvs kws f fd) (S : FnScope N ps scope) (len : ∀ vs H Q E, sp vs H Q E → vs.length = ps.length)
    (hbody : ∀ (cdv : Value) (A : Around) (outer : List Env) (s : Shared) (H : Hp) (vs : List V) (Q : VK) (E : XK), Room k (A.deeper (envOfC qual scope s.heap.objs.size f cdv)) → (A.deeper (envOfC qual scope s.heap.objs.size f cdv)).guards = some [] → sp vs H Q E →
      ∃ t, PSs (cxOf CX0 P w K mg base N qual scope f cdv A outer s H E) body t ∧ t { nx := fun _ H' => Q .non H', rt := Q } (start N vs) H) : FnG P w K mg base (k + 1) f fd ps sp := by
  obtain ⟨oc, od, dV, kV, doc, pm, an, cdv, ct, osl, rfl, lk, cd, _, _⟩ := F.ex
  refine ⟨len, fun A outer s H args us vs Q E hr hg e0 hb r hsp => ?_⟩
  have KX : K.In s.heap := e0.mod.kin.keeps fun b o e => (e0.bs b o e).1
  have lim : s.heap.NoLimit := e0.mod.nolimit.keeps fun b o e => (e0.bs b o e).1
  have kinds : ∀ y ∈ ps.zip us, scope.names.lookup y.1 = some .local ∨ (scope.names.lookup y.1 = some .cell ∧ ((cellsFrom (s.heap.objs.size + 1) scope.names []).lookup y.1).isSome = true) := fun y hy =>
    (S.par y.1 (List.of_mem_zip hy).1).elim .inl fun q => .inr ⟨q, PySem.W.cellsFrom_some _ _ _ (.inl q)⟩
  refine codeAny_call_function hr.depth (KX _ _ lk) rfl S.co S.gen rfl (PySem.W.codeRec_of KX cd) (hb _ _ _ _ (wpAny_newFunctionEnv_cells S.kind kinds fun env he s1 x => ?_))
  subst he
  refine ⟨lim.keeps x.toInCall.keep, codeAny_func ?_⟩
  obtain ⟨t, ht, hq⟩ := hbody cdv A outer s H vs Q E (hr.deeper _) hg hsp
  have I : Inv (cxOf CX0 P w K mg base N qual scope f cdv A outer s H E) [] (start N vs) H s1 := inv_start S hr.hd e0 (len _ _ _ _ hsp) r x
  refine wpAny_mono (ht.run [] s1 (start N vs) H _ I hq) (fun fl s' hs => ?_) fun e s' hs => hs
  cases fl with
  | ret u =>
    obtain ⟨v, σ', H', J, rv, q⟩ := hs
    exact ⟨v, H', J.os, J.bare, J.base, J.hok, rv, q⟩
  | next =>
    obtain ⟨σ', H', J, q⟩ := hs
    exact ⟨V.non, H', J.os, J.bare, J.base, J.hok, rfl, q⟩
  | brk => exact (hs.choose_spec.choose_spec.2 : False).elim
  | cont => exact (hs.choose_spec.choose_spec.2 : False).elim
end
structure CalG (P : Program) (w : World) (K : PySem.W.Frag) (mg : Str → Option Value) (base : Heap) (x : Str) (ps : List Str) (k : Nat) (sp : Sp) : Prop where
  ex : ∃ (f : Addr) (fd : FuncData), FnG P w K mg base k f fd ps sp ∧ mg x = some (.ref f) ∧ PySem.W.keepIn K (.ref f) = true ∧ Binds K fd ps []
section
variable {X : Cx}
theorem pe_calG {x : Str} {p pos : Pos} {e : Expr} {es : List Expr} {ps : List Str} {k : Nat} {sp : Sp} {t : TA} (C : CalG X.prog X.w X.K X.mg X.base x ps k sp) (hr : Room k X.A) (gu : X.A.guards = some []) (hg : Gl X x) (ha : PA X (e :: es) t)
    (hdb : (x == ("__debug__" : Str)) = false := by decide) (he : starEach (e :: es) X.env = (false, eval e X.env) :: starEach es X.env := by rfl) (hpl : (backTo pos (starEach es X.env)).any (·.1) = false := by rfl) :
    PE X (.Call (.Name x p) (e :: es) [] pos) (tCall sp [] E0 t) := by
  obtain ⟨f, fd, Fn, g, kp, b⟩ := C.ex
  refine ⟨fun pins s σ H Q I h => wpAny_Call_Name_kw (ld_glob I hg g (PySem.W.callWith_K (h₀ := X.base) I.ok.mod.kin kp (thn (ha.run pos pins s σ H _ I h) fun us s1 hh => ?_) he hpl) hdb)⟩
  obtain ⟨vs, H1, I1, r, q⟩ := hh
  rw [List.append_nil] at q
  have hl : us.length = ps.length := by rw [← r.length]; exact Fn.len _ _ _ _ q
  have bd := b s1 us I1.kIn (by rw [List.append_nil]; exact hl)
  rw [List.append_nil] at bd
  refine ⟨I1.kIn, wpAny_call (codeAny_mono (Fn.run X.A X.stack s1 H1 ⟨us, []⟩ us vs Q E0 hr gu I1.env0 bd r q) fun r s' out => ?_)⟩
  cases r with
  | error er => exact False.elim out
  | ok fl =>
    cases fl with
    | ret u => exact I1.after out
    | next => exact False.elim out
    | brk => exact False.elim out
    | cont => exact False.elim out
/-- repr(x) of data -/
def rRepr (K : PySem.W.Frag) : List V → Hp → VK → Prop := fun xs H Q => ∃ v d, xs = [v] ∧ Dp K H v d ∧ d.showable = true ∧ d.hasDict = false ∧ d.depth ≤ 60 ∧ d.shown.length ≤ sizeLine ∧ Q (.str d.shown) H
theorem call_reprD (gu : X.A.guards = some []) (hu : X.A.units + 64 < cLine) : CallR X (.builtin "repr") (rRepr X.K) := fun pins s σ H xs us Q I r h => by
  obtain ⟨v, d, rfl, hd, sh, nd, dp, sz, q⟩ := h
  obtain ⟨u, rfl, ru⟩ := Vals.one r
  obtain ⟨as, rd⟩ := Dp.reads I d v u hd ru
  cases hd with
  | non => cases ru; exact PySem.P.repr_of_none ⟨.str _, H, I.tok _, ⟨_, rfl⟩, q⟩
  | bl b =>
    cases ru
    refine PySem.P.repr_of_bool ⟨.str _, H, I.tok _, ⟨_, rfl⟩, ?_⟩
    cases b <;> exact q
  | int i =>
    obtain ⟨t, rfl⟩ := ru
    exact PySem.P.repr_of_int (by simpa [PyData.showable] using sh) ⟨.str _, H, I.tok _, ⟨_, rfl⟩, q⟩
  | str z =>
    obtain ⟨t, rfl⟩ := ru
    exact PySem.P.repr_of_str ⟨.str _, H, I.tok _, ⟨_, rfl⟩, q⟩ sz
  | lst h1 h2 =>
    cases ru
    exact repr_of_reads' rd sh (fun z => by rw [nd] at z; cases z) gu (by omega) (fun b o e => e) (fun h' u tk k => ⟨.str _, H, I.kept k, ⟨_, rfl⟩, q⟩) sz
  | tup h1 h2 =>
    cases ru
    exact repr_of_reads' rd sh (fun z => by rw [nd] at z; cases z) gu (by omega) (fun b o e => e) (fun h' u tk k => ⟨.str _, H, I.kept k, ⟨_, rfl⟩, q⟩) sz
end
end Wk

set_option Elab.async false
set_option linter.all false
set_option maxRecDepth 100000
set_option maxHeartbeats 4000000
namespace Wk
open PySem PySem.Spec PyProof.Rows L2 Evl
/-- repr of data, or of an empty dict -/
def Shw (K : PySem.W.Frag) (H : Hp) (v : V) (d : PyData) : Prop := (Dq H v d ∧ d.canLay0 = true ∧ d.showable = true ∧ d.hasDict = false ∧ d.depth ≤ 60 ∧ d.shown.length ≤ sizeLine) ∨ (d = .dict [] ∧ ∃ a, v = .ref a ∧ H a = some (.dK []))
theorem Shw.mono {K : PySem.W.Frag} {H H' : Hp} {v : V} {d : PyData} (e : Ex H H') (h : Shw K H v d) : Shw K H' v d := h.imp (fun h => ⟨h.1.mono e, h.2⟩) fun ⟨h1, a, h2, h3⟩ => ⟨h1, a, h2, e _ _ h3⟩
def rReprX (K : PySem.W.Frag) : List V → Hp → VK → Prop := fun xs H Q => ∃ v d, xs = [v] ∧ Shw K H v d ∧ Q (.str d.shown) H
theorem call_reprX {X : Cx} {K : PySem.W.Frag} (hK : X.K = K) (gu : X.A.guards = some []) (hu : X.A.units + 64 < cLine) : CallR X (.builtin "repr") (rReprX K) := by
  subst hK
  intro pins s σ H xs us Q I r h
  obtain ⟨v, d, rfl, hs | ⟨rfl, a, rfl, ha⟩, q⟩ := h
  · obtain ⟨h1, h2, h3, h4, h5, h6⟩ := hs
    exact call_reprD gu hu pins s σ H _ us Q I r ⟨v, d, rfl, Dq.dp h2 h1, h3, h4, h5, h6, q⟩
  · obtain ⟨u, rfl, ru⟩ := vals1 r
    cases ru
    obtain ⟨_, hd, vs, rel, o, es, ep, h1, h2, h3, _, h5, _⟩ := (show ObjOk X.prog X.w H s.heap a (.dK []) from I.hok a _ ha)
    cases rel
    have e0 : es.toList = [] := by
      generalize es.toList = l at h5
      cases h5
      rfl
    have rd : Reads s.heap (.ref a) (.dict []) (a :: [] ++ []) := .dict (kvs := []) h1 h2.1 h3 (by rw [e0]; exact .nil) (by rw [e0]; exact .nil)
    refine repr_of_reads' rd (by rfl) (fun _ z => ?_) gu (by show _ + (PyData.depth (.dict []) + 1) < _; rw [show PyData.depth (.dict []) = 1 by rfl]; omega) (fun b o e => e) (fun h' u tk k => ⟨.str _, H, I.kept k, ⟨_, rfl⟩, q⟩) (by decide +kernel)
    have : sysModules = a := by simpa using z
    rw [this] at hd
    simp at hd
def rIsFo (K : PySem.W.Frag) (D a : Addr) (cls : Value) (d : Option Addr) : List V → Hp → VK → Prop := fun xs H Q => cls = .ref D ∧ ∃ dx, d = some dx ∧ rIsF K D a dx xs H Q
def rIsFTo (K : PySem.W.Frag) (D a : Addr) (cls : Value) (d : Option Addr) : List V → Hp → VK → Prop := fun xs H Q => cls = .ref D ∧ ∃ dx, d = some dx ∧ rIsFT K D a dx xs H Q
theorem call_isFo {X : Cx} {K : PySem.W.Frag} {a D : Addr} {cls : Value} {d : Option Addr} {oe : Obj} {pn : List (Addr × Obj)} (hK : X.K = K) (C : ExcC K D) (hz : Zc cls d oe) (hf : ∃ vs, oe.data = .fields vs) : CallR (X.suite a ((a, oe) :: pn)) (.builtin "isinstance") (rIsFo K D a cls d) := by
  intro pins s σ H xs us Q I r h
  obtain ⟨rfl, dx, rfl, h⟩ := h
  exact call_isF hK C hz hf pins s σ H xs us Q I r h
theorem call_isFTo {X : Cx} {K : PySem.W.Frag} {a D : Addr} {cls : Value} {d : Option Addr} {oe : Obj} {pn : List (Addr × Obj)} (hK : X.K = K) (C : ExcC K D) (hz : Zc cls d oe) (hf : ∃ vs, oe.data = .fields vs) : CallR (X.suite a ((a, oe) :: pn)) (.builtin "isinstance") (rIsFTo K D a cls d) := by
  intro pins s σ H xs us Q I r h
  obtain ⟨rfl, dx, rfl, h⟩ := h
  exact call_isFT hK C hz hf pins s σ H xs us Q I r h
/-- what isinstance tells of a caught error -/
structure EKa (K : PySem.W.Frag) (C C1 C2 CW : Addr) : Prop where
  ex : ExcC K C
  k1 : PySem.W.kitOne K (.ref C) (.ref CW) = some true
  k2 : PySem.W.kitAny K (.ref C) [.ref C1, .ref C2] = some false
structure EKn (K : PySem.W.Frag) (C CW CB : Addr) : Prop where
  ex : ExcC K C
  k1 : PySem.W.kitOne K (.ref C) (.ref CW) = some true
  k2 : PySem.W.kitOne K (.ref C) (.ref CB) = some false
section
variable {P : Program} {w : World} {K : PySem.W.Frag} {mg : Str → Option Value} {base : Heap} {f : Addr} {fd : FuncData} {CB CD CN CW CE : Addr}
/-! _law_refused -/
def spRefd (K : PySem.W.Frag) : Sp := fun vs H Q _ => ∃ (v1 v2 v3 v4 v5 : V) (res : List V), vs = [v1, v2, v3, v4, v5] ∧
  ((∃ (d1 d2 : PyData) (s : Str), Dq H v1 d1 ∧ Tg H v2 d2 ∧ (itemsR d2).length ≤ 1000 ∧ fdue d1 d2 = some s ∧ res = [.str "flood", .str s, .bl true, .bl false]) ∨
   (∃ (n : Nat) (l : Addr) (us : List V) (prs : List Wy) (d2 d3 : PyData), v1 = .int (n : Int) ∧ v2 = .ref l ∧ 1 ≤ n ∧ n ≤ 8 ∧ Row H l us ∧ DqA H us (prs.map wd) ∧ (∀ w ∈ prs, PrOk n w) ∧ prs.length ≤ 22 ∧ Dq H v2 d2 ∧ (d2 = .list (prs.map wd) ∨ d2 = .tuple (prs.map wd)) ∧
     Dq H v3 d3 ∧ (itemsR d3).length ≤ 1000 ∧ (∀ x ∈ itemsR d3, (itemsT x).length ≤ 1000) ∧
     ((∃ i, faultD n (joinW prs) d3 = some i ∧ (∀ H', Shw K H' (.int i) (.int i)) ∧ res = [.str "deeds", .str (PyData.int i).shown, .bl true, .bl false]) ∨
      (faultD n (joinW prs) d3 = none ∧ ∃ d4 d5, Dq H v4 d4 ∧ Dq H v5 d5 ∧
        ((isR (n : Int) d4 = false ∧ Shw K H v4 d4 ∧ res = [.str "router", .str d4.shown, .bl true, .bl false]) ∨
         (isR (n : Int) d4 = true ∧ isR (n : Int) d5 = false ∧ Shw K H v5 d5 ∧ res = [.str "router", .str d5.shown, .bl true, .bl false])))))) ∧
  ∀ H' t, Ex H H' → H' t = some (.tup res) → Q (.ref t) H'
abbrev sRefd : Stmt := top 49
abbrev nRefd : List Str := ["_law_size", "_law_links_here", "_law_deeds", "_law_r", "_law_b", "_law_found", "e"]
theorem scRefd : FnScope nRefd ["_law_size", "_law_links_here", "_law_deeds", "_law_r", "_law_b"] (defScope sRefd) := ⟨rfl, rfl, rfl, by decide +kernel, rfl, by decide +kernel, by decide +kernel⟩
theorem ok_refd (B : Bl mg) (CLa : CalX P w K mg base "latest" ["size", "links", "deeds", "r", "b"] 7 (spLat CB CD CN)) (TB : ErrF P w K mg base "BadFlood" CB "part") (TD : ErrF P w K mg base "BadDeeds" CD "index") (TN : ErrF P w K mg base "NoRouter" CN "router")
    (xDB : PySem.W.exmOne K (.ref CD) (.ref CB) = some false) (xNB : PySem.W.exmOne K (.ref CN) (.ref CB) = some false) (xND : PySem.W.exmOne K (.ref CN) (.ref CD) = some false)
    (EB : EKa K CB CD CN CW) (ED : EKa K CD CE CN CW) (EN : EKn K CN CW CD) (gW : mg "WishError" = some (.ref CW)) (gE : mg "BadDeed" = some (.ref CE)) (F : FnP K "_law_refused" sRefd f fd) : FnG P w K mg base 8 f fd ["_law_size", "_law_links_here", "_law_deeds", "_law_r", "_law_b"] (spRefd K) := by
  obtain ⟨fL, fdL, FL, gL, kL, bL⟩ := CLa.ex
  refine okG F scRefd (fun vs H Q E h => ?_) (fun cdv A outer s H vs Q E hr hg h => ?_)
  · obtain ⟨v1, v2, v3, v4, v5, res, rfl, _⟩ := h
    rfl
  · obtain ⟨v1, v2, v3, v4, v5, res, rfl, hT, k⟩ := h
    have hu : (A.deeper (envOfC "_law_refused" (defScope sRefd) s.heap.objs.size f cdv)).units + 64 < cLine := by have := hr.un; omega
    refine ⟨_, pss_cons (ps_set (i := 5) scRefd.nd rfl (Or.inl rfl) pe_non)
      (pss_cons (ps_try_clauses (i := 6) rfl rfl scRefd.nd rfl rfl takes0
          (fun W pn xe tk _ => pss_one (ps_expr (pe_callS (E := WE W) FL hr (by rfl) gL kL bL (fun σ => passAt tk σ) (pa_cons (pv 0) (pa_cons (pv 1) (pa_cons (pv 2) (pa_cons (pv 3) (pa_cons (pv 4) pa_nil))))))))
          (.cons ⟨rfl, by decide, .inl TB.g⟩
            (fun a oe cls d pn hz hf => pss_one (ps_set (i := 5) scRefd.nd rfl (Or.inl rfl) (pe_tup (pa_cons pe_str (pa_cons (pe_xf TB.xf TB.no hz hf (pv 6))
              (pa_cons (pe_callB (call_isFo (K := K) rfl EB.ex hz hf) (by rfl) B.isi boot_isinstance (pa_cons (pv 6) (pa_cons (pe_glob (v := .ref CW) (by rfl) gW rfl) pa_nil)))
              (pa_cons (pe_callB (call_isFTo (K := K) rfl EB.ex hz hf) (by rfl) B.isi boot_isinstance (pa_cons (pv 6) (pa_cons (pe_tup (pa_cons (pe_glob (v := .ref CD) (by rfl) TD.g rfl) (pa_cons (pe_glob (v := .ref CN) (by rfl) TN.g rfl) pa_nil))) pa_nil))) pa_nil)))))))
          (.cons ⟨rfl, by decide, .inl TD.g⟩
            (fun a oe cls d pn hz hf => pss_one (ps_set (i := 5) scRefd.nd rfl (Or.inl rfl) (pe_tup (pa_cons pe_str (pa_cons (pe_callB (call_reprX (K := K) rfl hg hu) (by rfl) B.repr boot_repr (pa_cons (pe_xf TD.xf TD.no hz hf (pv 6)) pa_nil))
              (pa_cons (pe_callB (call_isFo (K := K) rfl ED.ex hz hf) (by rfl) B.isi boot_isinstance (pa_cons (pv 6) (pa_cons (pe_glob (v := .ref CW) (by rfl) gW rfl) pa_nil)))
              (pa_cons (pe_callB (call_isFTo (K := K) rfl ED.ex hz hf) (by rfl) B.isi boot_isinstance (pa_cons (pv 6) (pa_cons (pe_tup (pa_cons (pe_glob (v := .ref CE) (by rfl) gE rfl) (pa_cons (pe_glob (v := .ref CN) (by rfl) TN.g rfl) pa_nil))) pa_nil))) pa_nil)))))))
          (.cons ⟨rfl, by decide, .inl TN.g⟩
            (fun a oe cls d pn hz hf => pss_one (ps_set (i := 5) scRefd.nd rfl (Or.inl rfl) (pe_tup (pa_cons pe_str (pa_cons (pe_callB (call_reprX (K := K) rfl hg hu) (by rfl) B.repr boot_repr (pa_cons (pe_xf TN.xf TN.no hz hf (pv 6)) pa_nil))
              (pa_cons (pe_callB (call_isFo (K := K) rfl EN.ex hz hf) (by rfl) B.isi boot_isinstance (pa_cons (pv 6) (pa_cons (pe_glob (v := .ref CW) (by rfl) gW rfl) pa_nil)))
              (pa_cons (pe_callB (call_isFo (K := K) rfl EN.ex hz hf) (by rfl) B.isi boot_isinstance (pa_cons (pv 6) (pa_cons (pe_glob (v := .ref CD) (by rfl) TD.g rfl) pa_nil))) pa_nil)))))))
          .nil))))
      (pss_one (ps_ret (pv 5)))), ?_⟩
    refine g_name ?_
    dsimp only
    change tSeq _ _ _ [some v1, some v2, some v3, some v4, some v5, some .non, none] H
    refine ⟨v1, rfl, v2, rfl, v3, rfl, v4, rfl, v5, rfl, v1, v2, v3, v4, v5, rfl, ?_⟩
    rcases hT with ⟨d1, d2, s1, h1, h2, h3, h4, hres⟩ | ⟨n, l, us, prs, d2, d3, e1, e2, h1, h8, hl, hus, hok, hpl, hd2, hd2', hd3, hi3, hx3, hT⟩
    · refine .inl ⟨d1, d2, s1, h1, h2, h3, h4, fun dz H2 h0 e2 hz => ?_⟩
      refine ⟨true, TB.te, fun _ a ha => ?_, fun z => Bool.noConfusion z⟩
      refine ⟨.ref a, rfl, rfl, rfl, dz, _, .str s1, rfl, hz, rfl, ?_⟩
      refine ⟨.ref a, rfl, rfl, dz, rfl, .ref CW, .ref CW, true, _, rfl, .own CW, EB.k1, hz, ?_⟩
      refine ⟨.ref a, rfl, by show 2 ≤ sizeLine; decide, fun tp htp => ?_⟩
      have e3 := Ex.new (o := .tup [V.ref CD, .ref CN]) htp
      refine ⟨rfl, dz, rfl, tp, [.ref CD, .ref CN], [.ref CD, .ref CN], false, _, rfl, upd_same, .cons (.own CD) (.cons (.own CN) .nil), EB.k2, e3 _ _ hz, ?_⟩
      refine ⟨by show 4 ≤ sizeLine; decide, fun p3 hp3 => ?_⟩
      have e4 := Ex.new (o := .tup [V.str "flood", .str s1, .bl true, .bl false]) hp3
      refine g_name ?_
      rw [hres] at k
      exact ⟨.ref p3, rfl, k _ p3 (e2.trans (e3.trans e4)) upd_same⟩
    · refine .inr ⟨n, l, us, prs, d2, d3, e1, e2, h1, h8, hl, hus, hok, hpl, hd2, hd2', hd3, hi3, hx3, ?_⟩
      rcases hT with ⟨i, h5, h6, hres⟩ | ⟨h5, d4, d5, hd4, hd5, hT⟩
      · refine .inl ⟨i, h5, fun dz H2 h0 e2 hz => ?_⟩
        refine ⟨false, xDB, (fun z => Bool.noConfusion z), fun _ => ⟨true, TD.te, fun _ c hc => ?_, fun z => Bool.noConfusion z⟩⟩
        refine ⟨.ref c, rfl, rfl, rfl, dz, _, .int i, rfl, hz, rfl, .int i, .int i, rfl, h6 _, ?_⟩
        refine ⟨.ref c, rfl, rfl, dz, rfl, .ref CW, .ref CW, true, _, rfl, .own CW, ED.k1, hz, ?_⟩
        refine ⟨.ref c, rfl, by show 2 ≤ sizeLine; decide, fun tp htp => ?_⟩
        have e3 := Ex.new (o := .tup [V.ref CE, .ref CN]) htp
        refine ⟨rfl, dz, rfl, tp, [.ref CE, .ref CN], [.ref CE, .ref CN], false, _, rfl, upd_same, .cons (.own CE) (.cons (.own CN) .nil), ED.k2, e3 _ _ hz, ?_⟩
        refine ⟨by show 4 ≤ sizeLine; decide, fun p3 hp3 => ?_⟩
        have e4 := Ex.new (o := .tup [V.str "deeds", .str (PyData.int i).shown, .bl true, .bl false]) hp3
        refine g_name ?_
        rw [hres] at k
        exact ⟨.ref p3, rfl, k _ p3 (e2.trans (e3.trans e4)) upd_same⟩
      · refine .inr ⟨h5, d4, d5, hd4, hd5, ?_⟩
        rcases hT with ⟨h6, h7, hres⟩ | ⟨h6, h7, h9, hres⟩
        · refine .inl ⟨h6, fun dz H2 h0 e2 hz => ?_⟩
          refine ⟨false, xNB, (fun z => Bool.noConfusion z), fun _ => ⟨false, xND, (fun z => Bool.noConfusion z), fun _ => ⟨true, TN.te, fun _ c hc => ?_, fun z => Bool.noConfusion z⟩⟩⟩
          refine ⟨.ref c, rfl, rfl, rfl, dz, _, v4, rfl, hz, rfl, v4, d4, rfl, h7.mono e2, ?_⟩
          refine ⟨.ref c, rfl, rfl, dz, rfl, .ref CW, .ref CW, true, _, rfl, .own CW, EN.k1, hz, ?_⟩
          refine ⟨.ref c, rfl, rfl, dz, rfl, .ref CD, .ref CD, false, _, rfl, .own CD, EN.k2, hz, ?_⟩
          refine ⟨by show 4 ≤ sizeLine; decide, fun p3 hp3 => ?_⟩
          have e4 := Ex.new (o := .tup [V.str "router", .str d4.shown, .bl true, .bl false]) hp3
          refine g_name ?_
          rw [hres] at k
          exact ⟨.ref p3, rfl, k _ p3 (e2.trans e4) upd_same⟩
        · refine .inr (.inl ⟨h6, h7, fun dz H2 h0 e2 hz => ?_⟩)
          refine ⟨false, xNB, (fun z => Bool.noConfusion z), fun _ => ⟨false, xND, (fun z => Bool.noConfusion z), fun _ => ⟨true, TN.te, fun _ c hc => ?_, fun z => Bool.noConfusion z⟩⟩⟩
          refine ⟨.ref c, rfl, rfl, rfl, dz, _, v5, rfl, hz, rfl, v5, d5, rfl, h9.mono e2, ?_⟩
          refine ⟨.ref c, rfl, rfl, dz, rfl, .ref CW, .ref CW, true, _, rfl, .own CW, EN.k1, hz, ?_⟩
          refine ⟨.ref c, rfl, rfl, dz, rfl, .ref CD, .ref CD, false, _, rfl, .own CD, EN.k2, hz, ?_⟩
          refine ⟨by show 4 ≤ sizeLine; decide, fun p3 hp3 => ?_⟩
          have e4 := Ex.new (o := .tup [V.str "router", .str d5.shown, .bl true, .bl false]) hp3
          refine g_name ?_
          rw [hres] at k
          exact ⟨.ref p3, rfl, k _ p3 (e2.trans e4) upd_same⟩
end
end Wk

set_option Elab.async false
set_option linter.all false
set_option maxRecDepth 100000
set_option maxHeartbeats 4000000
namespace Wk
open PySem PySem.Spec PyProof.Rows L2 Evl
/-! what is no deed -/
def wr0 (n a : Int) : List PyData := [.tuple [.str "restart", .int a], .tuple [.str "write", .int a, .int 100], .tuple [.str "write", .int n, .int 5], .tuple [.str "write", .int a, .bool true], .tuple [.str "pass", .int a, .int a], .list [.str "write", .int a, .int 5]]
def wr1 (n a : Int) : List PyData := [.tuple [.str "lose", .int a, .int n], .tuple [.str "write", .int a], .tuple [], .none, .str "write", .tuple [.str "keep", .int a], .tuple [.str "restart", .int n], .int 7]
theorem pas_no {n : Nat} {js : List Wy} {s : Str} {a b : Int} (h1 : decide (V.str s = V.str "write") = false) (h2 : decide (V.str s = V.str "restart") = false) (h : [a, b] ∉ js) : dOk n js (.tuple [.str s, .int a, .int b]) = false := by
  refine Bool.and_eq_false_iff.mpr (.inl ?_)
  show fdR n js s [.int a, .int b] = false
  unfold fdR
  rw [h1, h2]
  simp only [Bool.false_eq_true, if_false]
  rw [show (List.map valI [PyData.int a, .int b]) = [a, b] from rfl, decide_eq_false h]
  simp
theorem wr_no {n : Nat} {js : List Wy} {a : Nat} (h8 : n ≤ 8) (ha : a < n) (hj : ∀ w ∈ js, PrOk n w) : ∀ d ∈ wr0 n a ++ wr1 n a, dOk n js d = false ∧ (itemsT d).length ≤ 60 := by
  have haa : [(a : Int), (a : Int)] ∉ js := fun z => by
    obtain ⟨u, v, e, _, _, q⟩ := hj _ z
    injection e with e1 e2
    injection e2 with e2 _
    exact q (by omega)
  have han : [(a : Int), (n : Int)] ∉ js := fun z => by
    obtain ⟨u, v, e, _, q, _⟩ := hj _ z
    injection e with e1 e2
    injection e2 with e2 _
    omega
  have hR : isR (n : Int) (.int (n : Int)) = false := by
    refine Bool.and_eq_false_iff.mpr (.inr (Bool.and_eq_false_iff.mpr (.inr ?_)))
    show decide ((n : Int) ≤ (n : Int) - 1) = false
    exact decide_eq_false (by omega)
  have hK : ∀ r, fdK (.tuple (.str "restart" :: r)) = false := fun r => by
    show (!decide (V.str "restart" = V.str "restart")) = false
    rw [decide_eq_true rfl]
    rfl
  intro d hd
  unfold wr0 wr1 at hd
  simp only [List.mem_append, List.mem_cons, List.not_mem_nil, or_false] at hd
  rcases hd with (rfl | rfl | rfl | rfl | rfl | rfl) | (rfl | rfl | rfl | rfl | rfl | rfl | rfl | rfl) <;> refine ⟨?_, by simp [itemsT]⟩
  · exact Bool.and_eq_false_iff.mpr (.inr (hK _))
  · simp [dOk, isFD, fdR, betI, isI, valI]
  · simp [dOk, isFD, fdR, hR]
  · simp [dOk, isFD, fdR, isI]
  · exact pas_no (by decide +kernel) (by decide +kernel) haa
  · rfl
  · exact pas_no (by decide +kernel) (by decide +kernel) han
  · simp [dOk, isFD, fdR]
  · rfl
  · rfl
  · rfl
  · refine Bool.and_eq_false_iff.mpr (.inl ?_)
    show fdR n js "keep" [.int (a : Int)] = false
    unfold fdR
    rw [show decide (V.str "keep" = V.str "write") = false by decide +kernel, show decide (V.str "keep" = V.str "restart") = false by decide +kernel, show inV (.str "keep") [.str "pass", .str "lose"] = false by decide +kernel]
    simp
  · exact Bool.and_eq_false_iff.mpr (.inr (hK _))
  · rfl
section
variable {P : Program} {w : World} {K : PySem.W.Frag} {mg : Str → Option Value} {base : Heap} {f : Addr} {fd : FuncData}
/-! _law_wrong_deed -/
def spWrg : Sp := fun vs H Q _ => ∃ (G : Hp) (p q l : Addr) (n : Nat) (us : List V) (prs : List Wy), vs = [.ref p, .int (n : Int), .ref l] ∧ Pm G H p q ∧ 1 ≤ n ∧ n ≤ 8 ∧ G l = some (.lst us) ∧ DqA G us (prs.map wd) ∧ (∀ w ∈ prs, PrOk n w) ∧ prs.length ≤ 22 ∧
  ∀ G' H' v d, Gr p q G H G' H' → Dq G' v d → dOk n (joinW prs) d = false → (itemsT d).length ≤ 60 → Q v H'
abbrev sWrg : Stmt := top 48
abbrev nWrg : List Str := ["_law_pool_here", "_law_size", "_law_links_here", "_law_a", "_law_c", "_law_things"]
theorem scWrg : FnScope nWrg ["_law_pool_here", "_law_size", "_law_links_here"] (defScope sWrg) := ⟨rfl, rfl, rfl, by decide +kernel, rfl, by decide +kernel, by decide +kernel⟩
theorem ok_wrg (B : Bl mg) (C : Cal P w K mg base "_law_draw" ["_law_pool_here", "_law_limit"] 2 spDraw) (CP : Cal P w K mg base "_law_pairs" ["_law_links_here"] 1 spPairs) (F : FnP K "_law_wrong_deed" sWrg f fd) : FnOk P w K mg base CX0 4 f fd ["_law_pool_here", "_law_size", "_law_links_here"] spWrg := by
  refine F.ok scWrg (fun vs H Q E h => ?_) (fun cdv A outer s H vs Q E hr h => ?_)
  · obtain ⟨G, p, q, l, n, us, prs, rfl, _⟩ := h
    rfl
  · obtain ⟨G, p, q, l, n, us, prs, rfl, hP, h1, h8, hl, hus, hok, hpl, k⟩ := h
    have hu : (A.deeper (envOfC "_law_wrong_deed" (defScope sWrg) s.heap.objs.size f cdv)).units + 65 < cLine := by have := hr.un; omega
    have r2 : Room 2 _ := hr.mono (by decide)
    refine ⟨_, pss_cons (ps_set (i := 3) scWrg.nd rfl (Or.inl rfl) (pe_cal C r2 (by rfl) (pa_cons (pv 0) (pa_cons (pv 1) pa_nil))))
      (pss_cons (ps_set (i := 4) scWrg.nd rfl (Or.inl rfl) (pe_cal C r2 (by rfl) (pa_cons (pv 0) (pa_cons (pv 1) pa_nil))))
      (pss_cons (ps_if (PW.pt (pw_and (pt_cmpR op_eq (pe_cal C r2 (by rfl) (pa_cons (pv 0) (pa_cons pe_int pa_nil))) pe_int (nomark _)) (pw_and1 (pt_cmpR (op_notInD hu) (pe_tup (pa_cons (pv 3) (pa_cons (pv 4) pa_nil))) (pe_cal CP hr (by rfl) (pa_cons (pv 2) pa_nil)) rfl))))
        (pss_one (ps_ret (pe_tup (pa_cons (pe_ix (ix_listK (K := K) rfl) (pe_lst (pa_cons pe_str (pa_cons pe_str pa_nil))) (pe_cal C r2 (by rfl) (pa_cons (pv 0) (pa_cons pe_int pa_nil))) (fun _ _ => rfl)) (pa_cons (pv 3) (pa_cons (pv 4) pa_nil)))))) pss_nil)
      (pss_cons (ps_set (i := 5) scWrg.nd rfl (Or.inl rfl) (pe_lst (pa_cons (pe_tup (pa_cons pe_str (pa_cons (pv 3) pa_nil))) (pa_cons (pe_tup (pa_cons pe_str (pa_cons (pv 3) (pa_cons pe_int pa_nil)))) (pa_cons (pe_tup (pa_cons pe_str (pa_cons (pv 1) (pa_cons pe_int pa_nil)))) (pa_cons (pe_tup (pa_cons pe_str (pa_cons (pv 3) (pa_cons pe_bl pa_nil)))) (pa_cons (pe_tup (pa_cons pe_str (pa_cons (pv 3) (pa_cons (pv 3) pa_nil)))) (pa_cons (pe_lst (pa_cons pe_str (pa_cons (pv 3) (pa_cons pe_int pa_nil)))) pa_nil))))))))
      (pss_cons (ps_set (i := 5) scWrg.nd rfl (Or.inl rfl) (pe_op op_cat (pv 5) (pe_lst (pa_cons (pe_tup (pa_cons pe_str (pa_cons (pv 3) (pa_cons (pv 1) pa_nil)))) (pa_cons (pe_tup (pa_cons pe_str (pa_cons (pv 3) pa_nil))) (pa_cons (pe_tup pa_nil) (pa_cons pe_non (pa_cons pe_str (pa_cons (pe_tup (pa_cons pe_str (pa_cons (pv 3) pa_nil))) (pa_cons (pe_tup (pa_cons pe_str (pa_cons (pv 1) pa_nil))) (pa_cons pe_int pa_nil)))))))))))
      (pss_one (ps_ret (pe_ix (ix_listK (K := K) rfl) (pv 5) (pe_cal C r2 (by rfl) (pa_cons (pv 0) (pa_cons pe_int pa_nil))) (fun _ _ => rfl)))))))), ?_⟩
    refine ⟨.ref p, rfl, .int (n : Int), rfl, ⟨_, p, q, (n : Int), rfl, hP.hd, by omega, by omega, fun H1 ai h1' ha0 ha1 => ?_⟩⟩
    have g1 := Gr.draw hP h1'
    obtain ⟨a, rfl⟩ : ∃ m : Nat, ai = (m : Int) := ⟨ai.toNat, by omega⟩
    refine g_name ?_
    dsimp only
    refine ⟨.ref p, rfl, .int (n : Int), rfl, ⟨_, p, q, (n : Int), rfl, g1.pl.hd, by omega, by omega, fun H2 ci h2' hc0 hc1 => ?_⟩⟩
    have g2 := g1.trans (Gr.draw g1.pl h2')
    obtain ⟨c, rfl⟩ : ∃ m : Nat, ci = (m : Int) := ⟨ci.toNat, by omega⟩
    refine g_name ?_
    dsimp only
    have han : a < n := by omega
    have fin : ∀ G3 H3, Gr p q G H G3 H3 → ∀ tz : TS, True := fun _ _ _ _ => trivial
    change tSeq _ _ _ [some (.ref p), some (.int (n : Int)), some (.ref l), some (.int (a : Int)), some (.int (c : Int)), none] H2
    refine ⟨.ref p, rfl, ⟨_, p, q, (3 : Int), rfl, g2.pl.hd, by decide, by decide, fun H3 k3 h3' hk0 hk1 => ?_⟩⟩
    have g3 := g2.trans (Gr.draw g2.pl h3')
    refine ⟨rfl, _, rfl, ?_⟩
    dsimp only
    by_cases hk : decide (V.int k3 = V.int 0) = true
    · rw [if_pos hk]
      refine ⟨.int (a : Int), rfl, .int (c : Int), rfl, by show 2 ≤ sizeLine; decide, fun t ht => ?_⟩
      have gt := Gr.new (o := .tup [V.int (a : Int), .int (c : Int)]) g3.pl ht
      have g4 := g3.trans gt
      refine ⟨.ref l, rfl, l, us, prs, rfl, g4.pl.ex _ _ (g4.ex _ _ hl), (hus.mono g4.ex).mono g4.pl.ex, fun w hw => ?_, hpl, fun H5 l5 us5 e5 n5 hl5 hus5 => ?_⟩
      · obtain ⟨u, v, e, q1, q2, q3⟩ := hok w hw
        exact ⟨u, v, e, by omega, by omega, q3⟩
      have g5 := g4.trans (Gr.ext g4.pl e5)
      refine ⟨wd [(a : Int), (c : Int)], (joinW prs).map wd, Dq.dp ?_ (wd_of (e5 _ _ upd_same)), Dq.dp ?_ (.lst hl5 hus5), shaped_ints _, shaped_wds _, ?_⟩
      · simp only [wd, PyData.canLay0]
        exact lay_ints [(a : Int), (c : Int)]
      · simp [PyData.canLay0, lay_wds]
      rw [any_wd]
      refine ⟨_, rfl, ?_⟩
      by_cases hm : [(a : Int), (c : Int)] ∈ joinW prs
      · rw [decide_eq_true hm]
        dsimp only
        rw [if_neg (show ¬ (!true) = true by decide)]
        · skip
          have f4 := g5
          refine q_asgD (p := p) (q := q) (d := .list (wr0 n a)) (ed_lst (ed_cons (ed_tup (ed_cons (ed_c fun _ => .str _) (ed_cons (ed_int rfl) ed_nil)) (by simp)) (ed_cons (ed_tup (ed_cons (ed_c fun _ => .str _) (ed_cons (ed_int rfl) (ed_cons (ed_c fun _ => .int _) ed_nil))) (by simp)) (ed_cons (ed_tup (ed_cons (ed_c fun _ => .str _) (ed_cons (ed_int rfl) (ed_cons (ed_c fun _ => .int _) ed_nil))) (by simp)) (ed_cons (ed_tup (ed_cons (ed_c fun _ => .str _) (ed_cons (ed_int rfl) (ed_cons (ed_c fun _ => .bl _) ed_nil))) (by simp)) (ed_cons (ed_tup (ed_cons (ed_c fun _ => .str _) (ed_cons (ed_int rfl) (ed_cons (ed_int rfl) ed_nil))) (by simp)) (ed_cons (ed_lst (ed_cons (ed_c fun _ => .str _) (ed_cons (ed_int rfl) (ed_cons (ed_c fun _ => .int _) ed_nil))) (by simp)) ed_nil)))))) (by simp [wr0])) f4.pl fun G5 H5 v5 g5 hv5 => ?_
          change tSeq _ _ _ [some (.ref p), some (.int (n : Int)), some (.ref l), some (.int (a : Int)), some (.int (c : Int)), some v5] H5
          have f5 := f4.trans g5
          refine q_catD (p := p) (q := q) (es := wr1 n a) G5 (v := v5) rfl hv5 (ed_lst (ed_cons (ed_tup (ed_cons (ed_c fun _ => .str _) (ed_cons (ed_int rfl) (ed_cons (ed_int rfl) ed_nil))) (by simp)) (ed_cons (ed_tup (ed_cons (ed_c fun _ => .str _) (ed_cons (ed_int rfl) ed_nil)) (by simp)) (ed_cons (ed_tup ed_nil (by simp)) (ed_cons (ed_c fun _ => .non) (ed_cons (ed_c fun _ => .str _) (ed_cons (ed_tup (ed_cons (ed_c fun _ => .str _) (ed_cons (ed_int rfl) ed_nil)) (by simp)) (ed_cons (ed_tup (ed_cons (ed_c fun _ => .str _) (ed_cons (ed_int rfl) ed_nil)) (by simp)) (ed_cons (ed_c fun _ => .int _) ed_nil)))))))) (by simp [wr1])) (by simp [wr0, wr1]) f5.pl fun G6 H6 v6 g6 hv6 => ?_
          change tRet _ _ [some (.ref p), some (.int (n : Int)), some (.ref l), some (.int (a : Int)), some (.int (c : Int)), some v6] H6
          have f6 := f5.trans g6
          clear hv5
          have hno := wr_no (js := joinW prs) h8 han (join_ok h8 hok)
          have hlen : (wr0 n a ++ wr1 n a).length = 14 := rfl
          generalize wr0 n a ++ wr1 n a = ds at *
          cases hv6 with
          | @lst A xs _ a1 a2 =>
            refine ⟨.ref A, rfl, .ref p, rfl, ⟨_, p, q, 14, rfl, f6.pl.hd, by decide, by decide, fun H11 j h11 hj0 hj1 => ?_⟩⟩
            have f11 := f6.trans (Gr.draw f6.pl h11)
            have l1 := a2.length
            obtain ⟨m, rfl⟩ : ∃ m : Nat, j = (m : Int) := ⟨j.toNat, by omega⟩
            have hm : m < ds.length := by omega
            obtain ⟨u, hu1, hu2⟩ := a2.at (List.getElem?_eq_getElem hm)
            obtain ⟨n1, n2⟩ := hno _ (List.getElem_mem hm)
            exact ⟨A, xs, (m : Int), u, rfl, rfl, sq_of (f11.pl.ex _ _ a1), atI_nat hu1, k _ H11 u _ f11 hu2 n1 n2⟩
      · rw [decide_eq_false hm]
        dsimp only
        rw [if_pos (show (!false) = true by decide)]
        refine ⟨by show 2 ≤ sizeLine; decide, fun L hL => ?_⟩
        have gl := Gr.new (o := .lst [V.str "pass", .str "lose"]) g5.pl hL
        have g6 := g5.trans gl
        refine ⟨.ref p, rfl, ⟨_, p, q, 2, rfl, g6.pl.hd, by decide, by decide, fun H7 j h7 hj0 hj1 => ?_⟩⟩
        have gd := Gr.draw g6.pl h7
        have g7 := g6.trans gd
        obtain ⟨m, rfl⟩ : ∃ m : Nat, j = (m : Int) := ⟨j.toNat, by omega⟩
        have hm2 : m = 0 ∨ m = 1 := by omega
        have fin2 : ∀ (sx : Str), ([V.str "pass", .str "lose"])[m]? = some (.str sx) → decide (V.str sx = V.str "write") = false → decide (V.str sx = V.str "restart") = false → rIxL K (.ref L) (.int (m : Int)) H7 (fun x H8 => tCons (tVar 3) (tCons (tVar 4) tNil) [some (.ref p), some (.int (n : Int)), some (.ref l), some (.int (a : Int)), some (.int (c : Int)), none] H8 fun vs H9 => (x :: vs).length ≤ sizeLine ∧ ∀ t, H9 t = none → Q (.ref t) (upd H9 t (.tup (x :: vs)))) := fun sx h1 h2 h3 => by
          refine ⟨L, _, (m : Int), .str sx, rfl, rfl, sq_of (g7.pl.ex _ _ upd_same), atI_nat h1, .int (a : Int), rfl, .int (c : Int), rfl, by show 3 ≤ sizeLine; decide, fun t2 ht2 => ?_⟩
          have gt2 := Gr.new (o := .tup [V.str sx, .int (a : Int), .int (c : Int)]) g7.pl ht2
          exact k _ _ (.ref t2) (.tuple [.str sx, .int (a : Int), .int (c : Int)]) (g7.trans gt2) (.tup upd_same (.cons (.str _) (.cons (.int _) (.cons (.int _) .nil)))) (pas_no h2 h3 hm) (by simp [itemsT])
        rcases hm2 with rfl | rfl
        · exact fin2 "pass" rfl (by decide +kernel) (by decide +kernel)
        · exact fin2 "lose" rfl (by decide +kernel) (by decide +kernel)
    · rw [if_neg hk]
      rw [if_neg (show ¬ false = true by decide)]
      have f4 := g3
      refine q_asgD (p := p) (q := q) (d := .list (wr0 n a)) (ed_lst (ed_cons (ed_tup (ed_cons (ed_c fun _ => .str _) (ed_cons (ed_int rfl) ed_nil)) (by simp)) (ed_cons (ed_tup (ed_cons (ed_c fun _ => .str _) (ed_cons (ed_int rfl) (ed_cons (ed_c fun _ => .int _) ed_nil))) (by simp)) (ed_cons (ed_tup (ed_cons (ed_c fun _ => .str _) (ed_cons (ed_int rfl) (ed_cons (ed_c fun _ => .int _) ed_nil))) (by simp)) (ed_cons (ed_tup (ed_cons (ed_c fun _ => .str _) (ed_cons (ed_int rfl) (ed_cons (ed_c fun _ => .bl _) ed_nil))) (by simp)) (ed_cons (ed_tup (ed_cons (ed_c fun _ => .str _) (ed_cons (ed_int rfl) (ed_cons (ed_int rfl) ed_nil))) (by simp)) (ed_cons (ed_lst (ed_cons (ed_c fun _ => .str _) (ed_cons (ed_int rfl) (ed_cons (ed_c fun _ => .int _) ed_nil))) (by simp)) ed_nil)))))) (by simp [wr0])) f4.pl fun G5 H5 v5 g5 hv5 => ?_
      change tSeq _ _ _ [some (.ref p), some (.int (n : Int)), some (.ref l), some (.int (a : Int)), some (.int (c : Int)), some v5] H5
      have f5 := f4.trans g5
      refine q_catD (p := p) (q := q) (es := wr1 n a) G5 (v := v5) rfl hv5 (ed_lst (ed_cons (ed_tup (ed_cons (ed_c fun _ => .str _) (ed_cons (ed_int rfl) (ed_cons (ed_int rfl) ed_nil))) (by simp)) (ed_cons (ed_tup (ed_cons (ed_c fun _ => .str _) (ed_cons (ed_int rfl) ed_nil)) (by simp)) (ed_cons (ed_tup ed_nil (by simp)) (ed_cons (ed_c fun _ => .non) (ed_cons (ed_c fun _ => .str _) (ed_cons (ed_tup (ed_cons (ed_c fun _ => .str _) (ed_cons (ed_int rfl) ed_nil)) (by simp)) (ed_cons (ed_tup (ed_cons (ed_c fun _ => .str _) (ed_cons (ed_int rfl) ed_nil)) (by simp)) (ed_cons (ed_c fun _ => .int _) ed_nil)))))))) (by simp [wr1])) (by simp [wr0, wr1]) f5.pl fun G6 H6 v6 g6 hv6 => ?_
      change tRet _ _ [some (.ref p), some (.int (n : Int)), some (.ref l), some (.int (a : Int)), some (.int (c : Int)), some v6] H6
      have f6 := f5.trans g6
      clear hv5
      have hno := wr_no (js := joinW prs) h8 han (join_ok h8 hok)
      have hlen : (wr0 n a ++ wr1 n a).length = 14 := rfl
      generalize wr0 n a ++ wr1 n a = ds at *
      cases hv6 with
      | @lst A xs _ a1 a2 =>
        refine ⟨.ref A, rfl, .ref p, rfl, ⟨_, p, q, 14, rfl, f6.pl.hd, by decide, by decide, fun H11 j h11 hj0 hj1 => ?_⟩⟩
        have f11 := f6.trans (Gr.draw f6.pl h11)
        have l1 := a2.length
        obtain ⟨m, rfl⟩ : ∃ m : Nat, j = (m : Int) := ⟨j.toNat, by omega⟩
        have hm : m < ds.length := by omega
        obtain ⟨u, hu1, hu2⟩ := a2.at (List.getElem?_eq_getElem hm)
        obtain ⟨n1, n2⟩ := hno _ (List.getElem_mem hm)
        exact ⟨A, xs, (m : Int), u, rfl, rfl, sq_of (f11.pl.ex _ _ a1), atI_nat hu1, k _ H11 u _ f11 hu2 n1 n2⟩
end
end Wk

set_option Elab.async false
set_option linter.all false
set_option maxRecDepth 100000
set_option maxHeartbeats 4000000
namespace Wk
open PySem PySem.Spec PyProof.Rows L2 Evl
/-! the first wrong deed -/
theorem firstD_at {n : Nat} {js : List Wy} {w : PyData} {rest : List PyData} (hw : dOk n js w = false) : ∀ {ds : List PyData} {i : Nat}, (∀ d ∈ ds, dOk n js d = true) → firstD n js i (ds ++ w :: rest) = some ((i + ds.length : Nat) : Int)
  | [], i, _ => by
    show (if dOk n js w = true then _ else some ((i : Nat) : Int)) = _
    rw [if_neg (by rw [hw]; decide)]
    rfl
  | d :: ds, i, h => by
    show (if dOk n js d = true then firstD n js (i + 1) (ds ++ w :: rest) else _) = _
    rw [if_pos (h d (List.mem_cons_self)), firstD_at hw fun x hx => h x (List.mem_cons_of_mem _ hx)]
    congr 2
    simp only [List.length_cons]
    omega
theorem faultD_at {n : Nat} {js : List Wy} {w : PyData} {ds rest : List PyData} (hw : dOk n js w = false) (h : ∀ d ∈ ds, dOk n js d = true) : faultD n js (.list (ds ++ w :: rest)) = some (ds.length : Int) := by
  show (if true = true then firstD n js 0 (ds ++ w :: rest) else _) = _
  rw [if_pos rfl, firstD_at hw h, Nat.zero_add]
/-! odd sizes, links, routers -/
def wsz : List PyData := [.int 0, .int 9, .int (-1), .bool true, .none, .str "3", .tuple [.int 3], .int ((10 : Int) ^ (20 : Int).toNat)]
theorem wsz_no : ∀ d ∈ wsz, szB d = false := by
  intro d hd
  unfold wsz at hd
  simp only [List.mem_cons, List.not_mem_nil, or_false] at hd
  rcases hd with rfl | rfl | rfl | rfl | rfl | rfl | rfl | rfl <;> decide +kernel
theorem wsz_due {d d2 : PyData} (h : d ∈ wsz) : fdue d d2 = some "size" := by
  unfold fdue
  rw [wsz_no d h]
  rfl
def wlk (n : Nat) (prs : List Wy) : List PyData := [.none, .str "01", .list [.tuple [.int 0, .int 0]], .list [.tuple [.int 0, .int (n : Int)]], .list (prs.map wd ++ [.tuple [.int ((n : Int) - 1), .int ((n : Int) - 1)]]), .dict []]
theorem wlk_no {n : Nat} {prs : List Wy} (h1 : 1 ≤ n) (h8 : n ≤ 8) : ∀ d ∈ wlk n prs, unlD (n : Int) d = false := by
  intro d hd
  unfold wlk at hd
  simp only [List.mem_cons, List.not_mem_nil, or_false] at hd
  have hn : n = 1 ∨ n = 2 ∨ n = 3 ∨ n = 4 ∨ n = 5 ∨ n = 6 ∨ n = 7 ∨ n = 8 := by omega
  rcases hd with rfl | rfl | rfl | rfl | rfl | rfl
  · rfl
  · rfl
  · rcases hn with rfl | rfl | rfl | rfl | rfl | rfl | rfl | rfl <;> decide +kernel
  · rcases hn with rfl | rfl | rfl | rfl | rfl | rfl | rfl | rfl <;> decide +kernel
  · refine Bool.and_eq_false_iff.mpr (.inr ?_)
    show (prs.map wd ++ [PyData.tuple [.int ((n : Int) - 1), .int ((n : Int) - 1)]]).all (prD (n : Int)) = false
    rw [List.all_append]
    refine Bool.and_eq_false_iff.mpr (.inr ?_)
    rcases hn with rfl | rfl | rfl | rfl | rfl | rfl | rfl | rfl <;> decide +kernel
  · rfl
theorem wlk_due {n : Nat} {prs : List Wy} {d : PyData} (h1 : 1 ≤ n) (h8 : n ≤ 8) (h : d ∈ wlk n prs) : fdue (.int (n : Int)) d = some "links" := by
  have hs : szB (.int (n : Int)) = true := by
    have hn : n = 1 ∨ n = 2 ∨ n = 3 ∨ n = 4 ∨ n = 5 ∨ n = 6 ∨ n = 7 ∨ n = 8 := by omega
    rcases hn with rfl | rfl | rfl | rfl | rfl | rfl | rfl | rfl <;> decide +kernel
  unfold fdue
  rw [hs, show valI (.int (n : Int)) = (n : Int) from rfl, wlk_no h1 h8 d h]
  rfl
def wrt (n : Nat) : List PyData := [.int (n : Int), .int (-1), .bool true, .none, .str "0", .tuple [.int 0], .int ((10 : Int) ^ (20 : Int).toNat), .list [.int 0]]
theorem wrt_no {n : Nat} (h1 : 1 ≤ n) (h8 : n ≤ 8) : ∀ d ∈ wrt n, isR (n : Int) d = false ∧ d.canLay0 = true ∧ d.showable = true ∧ d.hasDict = false ∧ d.depth ≤ 60 ∧ d.shown.length ≤ sizeLine := by
  have hn : n = 1 ∨ n = 2 ∨ n = 3 ∨ n = 4 ∨ n = 5 ∨ n = 6 ∨ n = 7 ∨ n = 8 := by omega
  intro d hd
  unfold wrt at hd
  simp only [List.mem_cons, List.not_mem_nil, or_false] at hd
  rcases hn with rfl | rfl | rfl | rfl | rfl | rfl | rfl | rfl <;> rcases hd with rfl | rfl | rfl | rfl | rfl | rfl | rfl | rfl <;> exact ⟨by decide +kernel, by decide +kernel, by decide +kernel, by decide +kernel, by decide +kernel, by decide +kernel⟩
theorem wrt_shw {K : PySem.W.Frag} {H : Hp} {v : V} {n : Nat} {d : PyData} (h1 : 1 ≤ n) (h8 : n ≤ 8) (h : d ∈ wrt n) (hd : Dq H v d) : Shw K H v d := .inl ⟨hd, (wrt_no h1 h8 d h).2⟩
def wds : List PyData := [.none, .dict [], .str "write", .int 5]
theorem wds_no {n : Nat} {js : List Wy} : ∀ d ∈ wds, faultD n js d = some (-1) := by
  intro d hd
  unfold wds at hd
  simp only [List.mem_cons, List.not_mem_nil, or_false] at hd
  rcases hd with rfl | rfl | rfl | rfl <;> rfl
/-- an index is shown -/
theorem shw_i73 {K : PySem.W.Frag} {H : Hp} {i : Int} (h1 : -1 ≤ i) (h6 : i ≤ 60) : Shw K H (.int i) (.int i) := by
  have h : ∀ a : Fin 62, (PyData.int ((a.val : Int) - 1)).canLay0 = true ∧ (PyData.int ((a.val : Int) - 1)).showable = true ∧ (PyData.int ((a.val : Int) - 1)).hasDict = false ∧ (PyData.int ((a.val : Int) - 1)).depth ≤ 60 ∧ (PyData.int ((a.val : Int) - 1)).shown.length ≤ sizeLine := by decide +kernel
  have z := h ⟨(i + 1).toNat, by omega⟩
  dsimp only at z
  rw [show (((i + 1).toNat : Nat) : Int) - 1 = i by omega] at z
  exact .inl ⟨.int i, z⟩
end Wk

set_option Elab.async false
set_option linter.all false
set_option maxRecDepth 100000
set_option maxHeartbeats 4000000
namespace Wk
open PySem PySem.Spec PyProof.Rows L2 Evl
/-! t == u, equal plain items -/
def rEqSm (K : PySem.W.Frag) : R2 := fun x y H Q => ∃ a b xs, x = .ref a ∧ y = .ref b ∧ SqT K H a xs ∧ SqT K H b xs ∧ xs.all flatV = true ∧ (∀ z ∈ xs, eqV z z = true) ∧ Q (.bl true) H
theorem op_eqSm {X : Cx} {K : PySem.W.Frag} (hK : X.K = K) (hu : X.A.units < cLine) : OpR X (compareOp .Eq) (rEqSm K) := by
  subst hK
  intro pins s σ H x y v u Q I rx ry h
  obtain ⟨a, b, xs, rfl, rfl, ha, hb, hf, he, q⟩ := h
  cases rx
  cases ry
  obtain ⟨its, r1, p1, _⟩ := I.tuple ha
  obtain ⟨its2, r2, p2, _⟩ := I.tuple hb
  have l1 := r1.length
  have l2 := r2.length
  refine SeqAt.eq_tupleAt (e := fun _ => true) p1 p2 hu (fun j h1 h2 => ?_) ⟨.bl true, H, I, ?_, q⟩
  · have hj : j < xs.length := by simp at h1; omega
    have hx : xs[j]? = some xs[j] := List.getElem?_eq_getElem hj
    obtain ⟨u1, e1, q1⟩ := r1.get hx
    obtain ⟨u2, e2, q2⟩ := r2.get hx
    have f1 := List.all_eq_true.mp hf xs[j] (List.getElem_mem hj)
    have z := eqAt_V (A := X.A.in1) (s := s) q1 q2 f1 f1
    rw [he _ (List.getElem_mem hj)] at z
    have i1 : its.toArray[j] = u1 := by
      have := (List.getElem?_eq_some_iff.mp e1).2
      simpa using this
    have i2 : its2.toArray[j] = u2 := by
      have := (List.getElem?_eq_some_iff.mp e2).2
      simpa using this
    rw [i1, i2]
    exact z
  · show Value.bool _ = Value.bool true
    have : its.length = its2.length := by omega
    simp [this]
/-! displays that may hold an old thing -/
def EvX (G0 : Hp) (p q : Addr) (te : TE) (σ : L2.St) (d : PyData) : Prop := ∀ G H, Ex G0 G → Pm G H p q → ∀ Q : VK, (∀ G' H' v, Gr p q G H G' H' → Dq G' v d → Q v H') → te σ H Q
def EvXA (G0 : Hp) (p q : Addr) (ta : TA) (σ : L2.St) (ds : List PyData) : Prop := ∀ G H, Ex G0 G → Pm G H p q → ∀ Q : List V → Hp → Prop, (∀ G' H' vs, Gr p q G H G' H' → DqA G' vs ds → Q vs H') → ta σ H Q
section
variable {p q : Addr} {σ : L2.St} {te tb : TE} {ta : TA} {d : PyData} {ds es : List PyData} {G0 : Hp} {v : V}
theorem ed_ev (h : ∀ H, Ev te σ H v) (hd : ∀ G, Dq G v d) : EvDt p q te σ d := fun G H hP Q k => h H H (Ex.refl _) _ fun H1 e => k G H1 v (Gr.ext hP e) (hd G)
theorem ed_pow : EvDt p q (tOp (rI CPow fun i j => .int (i ^ j.toNat)) (tC (.int 10)) (tC (.int 20))) σ (.int ((10 : Int) ^ (20 : Int).toNat)) :=
  ed_ev (fun H H1 e Q q => ⟨10, 20, rfl, rfl, ⟨by decide, by decide, by decide⟩, q H1 (Ex.refl _)⟩) fun _ => .int _
theorem ed_neg : EvDt p q (tUn (rU fun i => .int (-i)) (tC (.int 1))) σ (.int (-1)) := ed_ev (fun H => ev_un (r := rU fun i => .int (-i)) (ev_c (v := .int 1)) (fun H1 _ Q q => ⟨1, rfl, q H1 (Ex.refl H1)⟩)) fun _ => .int _
theorem ed_dec {i : Nat} {a : Int} (h : σ[i]? = some (some (.int a))) : EvDt p q (tOp (rI0 fun i j => .int (i - j)) (tVar i) (tC (.int 1))) σ (.int (a - 1)) :=
  ed_ev (fun H => ev_op (ev_var h) ev_c rv_I0) fun _ => .int _
theorem x_of (h : EvDt p q te σ d) : EvX G0 p q te σ d := fun G H _ hP Q k => h G H hP Q k
theorem x_nil : EvXA G0 p q tNil σ [] := fun G H _ hP Q k => k G H [] (Gr.refl hP) .nil
theorem x_cons (h : EvX G0 p q te σ d) (hr : EvXA G0 p q ta σ ds) : EvXA G0 p q (tCons te ta) σ (d :: ds) := fun G H e hP Q k =>
  h G H e hP _ fun G1 H1 v g1 hv => hr G1 H1 (e.trans g1.ex) g1.pl _ fun G2 H2 vs g2 hvs => k G2 H2 (v :: vs) (g1.trans g2) (.cons (hv.mono g2.ex) hvs)
theorem x_lst (h : EvXA G0 p q ta σ ds) (hl : ds.length ≤ 1000) : EvX G0 p q (tLst ta) σ (.list ds) := fun G H e hP Q k =>
  h G H e hP _ fun G1 H1 vs g1 hvs => ⟨by have := hvs.length; rw [sizeLine_eq]; omega, fun t ht => k (upd G1 t (.lst vs)) _ (.ref t) (g1.trans (Gr.new g1.pl ht)) (.lst upd_same (hvs.mono (Gr.new (o := .lst vs) g1.pl ht).ex))⟩
theorem x_cat {i : Nat} (hv : σ[i]? = some (some v)) (h0 : Dq G0 v (.list ds)) (hb : EvDt p q tb σ (.list es)) (hl : ds.length + es.length ≤ 1000) : EvX G0 p q (tOp rCat (tVar i) tb) σ (.list (ds ++ es)) := fun G H e hP Q k =>
  ed_cat G hv (h0.mono e) hb hl hP k
theorem x_var {i : Nat} (hv : σ[i]? = some (some v)) (h0 : Dq G0 v d) : EvX G0 p q (tVar i) σ d := fun G H e hP Q k => ⟨v, hv, k G H v (Gr.refl hP) (h0.mono e)⟩
/-- things[draw] -/
theorem x_pick {K : PySem.W.Frag} {z : Int} (h : EvX G0 p q te σ (.list ds)) (hz : z = (ds.length : Int)) (h0 : 0 < z) (h9 : z ≤ 1000) (hs : σ[0]? = some (some (.ref p))) {G H : Hp} (e : Ex G0 G) (hP : Pm G H p q) {Q : VK} (k : ∀ G' H' v d, Gr p q G H G' H' → d ∈ ds → Dq G' v d → Q v H') :
    tOp (rIxL K) te (tCall spDraw [] E0 (tCons (tVar 0) (tCons (tC (.int z)) tNil))) σ H Q := by
  refine h G H e hP _ fun G1 H1 v1 g1 hv1 => ?_
  cases hv1 with
  | @lst A xs _ a1 a2 =>
    refine ⟨.ref p, hs, ⟨_, p, q, z, rfl, g1.pl.hd, h0, by omega, fun H2 j h2 hj0 hj1 => ?_⟩⟩
    have g2 := g1.trans (Gr.draw g1.pl h2)
    have l1 := a2.length
    obtain ⟨m, rfl⟩ : ∃ m : Nat, j = (m : Int) := ⟨j.toNat, by omega⟩
    have hm : m < ds.length := by omega
    obtain ⟨u, hu1, hu2⟩ := a2.at (List.getElem?_eq_getElem hm)
    exact ⟨A, xs, (m : Int), u, rfl, rfl, sq_of (g2.pl.ex _ _ a1), atI_nat hu1, k _ H2 u _ g2 (List.getElem_mem hm) hu2⟩
theorem q_pick {K : PySem.W.Frag} {i : Nat} {tz : TS} {D : Ends} {z : Int} (h : EvX G0 p q te σ (.list ds)) (hz : z = (ds.length : Int)) (h0 : 0 < z) (h9 : z ≤ 1000) (hs : σ[0]? = some (some (.ref p))) {G H : Hp} (e : Ex G0 G) (hP : Pm G H p q) (k : ∀ G' H' v d, Gr p q G H G' H' → d ∈ ds → Dq G' v d → tz D (σ.set i (some v)) H') :
    tSeq (tAsg (tOp (rIxL K) te (tCall spDraw [] E0 (tCons (tVar 0) (tCons (tC (.int z)) tNil)))) (gName i)) tz D σ H := x_pick h hz h0 h9 hs e hP k
end
theorem sh_i73 {i : Int} (h1 : -1 ≤ i) (h6 : i ≤ 60) : V.str (toString i) = V.str (PyData.int i).shown := by
  have h : ∀ a : Fin 62, (toString ((a.val : Int) - 1) : Str) = (PyData.int ((a.val : Int) - 1)).shown := by decide +kernel
  have z := h ⟨(i + 1).toNat, by omega⟩
  dsimp only at z
  rw [show (((i + 1).toNat : Nat) : Int) - 1 = i by omega] at z
  rw [z]
theorem nat1 {a b : Int} : (decide (V.int a = V.int b) = true) → a = b := fun h => by have := of_decide_eq_true h; injection this
theorem nat0 {a b : Int} : ¬ (decide (V.int a = V.int b) = true) → a ≠ b := fun h z => h (decide_eq_true (by rw [z]))
/-! what is due -/
def T45 (K : PySem.W.Frag) (n : Nat) (H : Hp) (v4 v5 : V) (res : List V) : Prop := ∃ d4 d5, Dq H v4 d4 ∧ Dq H v5 d5 ∧
  ((isR (n : Int) d4 = false ∧ Shw K H v4 d4 ∧ res = [.str "router", .str d4.shown, .bl true, .bl false]) ∨
   (isR (n : Int) d4 = true ∧ isR (n : Int) d5 = false ∧ Shw K H v5 d5 ∧ res = [.str "router", .str d5.shown, .bl true, .bl false]))
def T3 (K : PySem.W.Frag) (n : Nat) (prs : List Wy) (H : Hp) (v3 v4 v5 : V) (res : List V) : Prop := ∃ d3, Dq H v3 d3 ∧ (itemsR d3).length ≤ 1000 ∧ (∀ x ∈ itemsR d3, (itemsT x).length ≤ 1000) ∧
  ((∃ i, faultD n (joinW prs) d3 = some i ∧ (∀ H', Shw K H' (.int i) (.int i)) ∧ res = [.str "deeds", .str (PyData.int i).shown, .bl true, .bl false]) ∨ (faultD n (joinW prs) d3 = none ∧ T45 K n H v4 v5 res))
def T2f (H : Hp) (v1 v2 : V) (res : List V) : Prop := ∃ (d1 d2 : PyData) (s : Str), Dq H v1 d1 ∧ Dq H v2 d2 ∧ (itemsR d2).length ≤ 1000 ∧ fdue d1 d2 = some s ∧ res = [.str "flood", .str s, .bl true, .bl false]
def T2s (K : PySem.W.Frag) (n : Nat) (prs : List Wy) (H : Hp) (v1 v2 v3 v4 v5 : V) (res : List V) : Prop := ∃ (l : Addr) (us : List V), v1 = .int (n : Int) ∧ v2 = .ref l ∧ H l = some (.lst us) ∧ DqA H us (prs.map wd) ∧ T3 K n prs H v3 v4 v5 res
theorem T45.mono {K : PySem.W.Frag} {n : Nat} {H H' : Hp} {v4 v5 : V} {res : List V} (e : Ex H H') (h : T45 K n H v4 v5 res) : T45 K n H' v4 v5 res := by
  obtain ⟨d4, d5, h4, h5, h⟩ := h
  exact ⟨d4, d5, h4.mono e, h5.mono e, h.imp (fun ⟨a, b, c⟩ => ⟨a, b.mono e, c⟩) fun ⟨a, a', b, c⟩ => ⟨a, a', b.mono e, c⟩⟩
theorem T3.mono {K : PySem.W.Frag} {n : Nat} {prs : List Wy} {H H' : Hp} {v3 v4 v5 : V} {res : List V} (e : Ex H H') (h : T3 K n prs H v3 v4 v5 res) : T3 K n prs H' v3 v4 v5 res := by
  obtain ⟨d3, h3, hl, hx, h⟩ := h
  exact ⟨d3, h3.mono e, hl, hx, h.imp id fun ⟨a, b⟩ => ⟨a, b.mono e⟩⟩
theorem T2f.mono {H H' : Hp} {v1 v2 : V} {res : List V} (e : Ex H H') (h : T2f H v1 v2 res) : T2f H' v1 v2 res := by
  obtain ⟨d1, d2, s, h1, h2, r⟩ := h
  exact ⟨d1, d2, s, h1.mono e, h2.mono e, r⟩
theorem T2s.mono {K : PySem.W.Frag} {n : Nat} {prs : List Wy} {H H' : Hp} {v1 v2 v3 v4 v5 : V} {res : List V} (e : Ex H H') (h : T2s K n prs H v1 v2 v3 v4 v5 res) : T2s K n prs H' v1 v2 v3 v4 v5 res := by
  obtain ⟨l, us, h1, h2, h3, h4, h5⟩ := h
  exact ⟨l, us, h1, h2, e _ _ h3, h4.mono e, h5.mono e⟩
theorem flat4 (a b : Str) : ([V.str a, .str b, .bl true, .bl false]).all flatV = true ∧ ∀ z ∈ [V.str a, .str b, .bl true, .bl false], eqV z z = true := ⟨rfl, fun z hz => by
  rcases List.mem_cons.mp hz with q | hz
  · rw [q]; simp [eqV]
  rcases List.mem_cons.mp hz with q | hz
  · rw [q]; simp [eqV]
  rcases List.mem_cons.mp hz with q | hz
  · rw [q]; simp [eqV]
  · rw [List.mem_singleton.mp hz]; simp [eqV]⟩
theorem T2f.flat {H : Hp} {v1 v2 : V} {res : List V} (h : T2f H v1 v2 res) : res.all flatV = true ∧ ∀ z ∈ res, eqV z z = true := by
  obtain ⟨d1, d2, s, _, _, _, _, rfl⟩ := h
  exact flat4 _ _
theorem T2s.flat {K : PySem.W.Frag} {n : Nat} {prs : List Wy} {H : Hp} {v1 v2 v3 v4 v5 : V} {res : List V} (h : T2s K n prs H v1 v2 v3 v4 v5 res) : res.all flatV = true ∧ ∀ z ∈ res, eqV z z = true := by
  obtain ⟨_, _, _, _, _, _, _, _, _, _, h⟩ := h
  rcases h with ⟨i, _, _, rfl⟩ | ⟨_, _, _, _, _, h⟩
  · exact flat4 _ _
  · rcases h with ⟨_, _, rfl⟩ | ⟨_, _, _, rfl⟩ <;> exact flat4 _ _
end Wk

set_option Elab.async false
set_option linter.all false
set_option maxRecDepth 100000
set_option maxHeartbeats 8000000
namespace Wk
open PySem PySem.Spec PyProof.Rows L2 Evl
abbrev Se (p : Addr) (v1 v2 v3 : V) (w : Int) (du : V) (W : Addr) (v4 v5 : V) (o : Option V) : L2.St := [some (.ref p), some v1, some v2, some v3, some (.int w), some du, some (.ref W), some v4, some v5, o]
theorem ins_at {α : Type} {pre rest : List α} {a b : α} {m : Nat} : (pre ++ a :: rest).take (pre.length + (m + 1)) ++ [b] ++ (pre ++ a :: rest).drop (pre.length + (m + 1)) = pre ++ a :: (rest.take m ++ [b] ++ rest.drop m) := by
  rw [List.take_length_add_append, List.drop_length_add_append, List.take_succ_cons, List.drop_succ_cons]
  simp
theorem wds_it : ∀ d ∈ wds, itemsR d = [] := by
  intro d hd
  unfold wds at hd
  simp only [List.mem_cons, List.not_mem_nil, or_false] at hd
  rcases hd with rfl | rfl | rfl | rfl <;> rfl
theorem wlk_it {n : Nat} {prs : List Wy} (hp : prs.length ≤ 22) : ∀ d ∈ wlk n prs, (itemsR d).length ≤ 1000 := by
  intro d hd
  unfold wlk at hd
  simp only [List.mem_cons, List.not_mem_nil, or_false] at hd
  rcases hd with rfl | rfl | rfl | rfl | rfl | rfl <;> simp [itemsR]
  omega
section
variable {P : Program} {w : World} {K : PySem.W.Frag} {mg : Str → Option Value} {base : Heap} {f : Addr} {fd : FuncData}
/-! _law_errors -/
def spErrs : Sp := fun vs H Q _ => ∃ (G : Hp) (p q l L : Addr) (n : Nat) (us xs : List V) (prs : List Wy) (ds : List Deed), vs = [.ref p, .int (n : Int), .ref l, .ref L] ∧ Pm G H p q ∧ 1 ≤ n ∧ n ≤ 8 ∧ G l = some (.lst us) ∧ DqA G us (prs.map wd) ∧ (∀ w ∈ prs, PrOk n w) ∧ prs.length ≤ 22 ∧
  G L = some (.lst xs) ∧ DqA G xs (ds.map Deed.d) ∧ DsOk n (joinW prs) ds ∧ ds.length ≤ 60 ∧ ∀ H', Q (.bl true) H'
abbrev sErrs : Stmt := top 50
abbrev nErrs : List Str := ["_law_pool_here", "_law_size", "_law_links_here", "_law_deeds", "_law_wrong", "_law_due", "_law_wrongs", "_law_r", "_law_b", "_law_at"]
theorem scErrs : FnScope nErrs ["_law_pool_here", "_law_size", "_law_links_here", "_law_deeds"] (defScope sErrs) := ⟨rfl, rfl, rfl, by decide +kernel, rfl, by decide +kernel, by decide +kernel⟩
theorem ok_errs (B : Bl mg) (C : Cal P w K mg base "_law_draw" ["_law_pool_here", "_law_limit"] 2 spDraw) (CW : Cal P w K mg base "_law_wrong_deed" ["_law_pool_here", "_law_size", "_law_links_here"] 4 spWrg)
    (CR : CalG P w K mg base "_law_refused" ["_law_size", "_law_links_here", "_law_deeds", "_law_r", "_law_b"] 8 (spRefd K)) (F : FnP K "_law_errors" sErrs f fd) : FnG P w K mg base 9 f fd ["_law_pool_here", "_law_size", "_law_links_here", "_law_deeds"] spErrs := by
  refine okG F scErrs (fun vs H Q E h => ?_) (fun cdv A outer s H vs Q E hr hg h => ?_)
  · obtain ⟨G, p, q, l, L, n, us, xs, prs, ds, rfl, _⟩ := h
    rfl
  · obtain ⟨G, p, q, l, L, n, us, xs, prs, ds, rfl, hP, h1, h8, hl, hus, hok, hpl, hL, hxs, hds, hdl, k⟩ := h
    have hu : (A.deeper (envOfC "_law_errors" (defScope sErrs) s.heap.objs.size f cdv)).units + 64 < cLine := by have := hr.un; omega
    have hu0 : (A.deeper (envOfC "_law_errors" (defScope sErrs) s.heap.objs.size f cdv)).units < cLine := by omega
    refine ⟨_, pss_cons (ps_set (i := 4) scErrs.nd rfl (Or.inl rfl) (pe_op op_add pe_int (pe_cal C hr (by rfl) (pa_cons (pv 0) (pa_cons pe_int pa_nil)))))
      (pss_cons (ps_set (i := 5) scErrs.nd rfl (Or.inl rfl) pe_non)
      (pss_cons (ps_set (i := 6) scErrs.nd rfl (Or.inl rfl) (pe_lst (pa_cons (pv 1) (pa_cons (pe_un un_neg pe_int) (pa_cons pe_bl (pa_cons pe_non (pa_cons pe_str (pa_cons (pe_tup (pa_cons pe_int pa_nil)) (pa_cons (pe_op op_pow pe_int pe_int) (pa_cons (pe_lst (pa_cons pe_int pa_nil)) pa_nil))))))))))
      (pss_cons (ps_set (i := 7) scErrs.nd rfl (Or.inl rfl) (pe_cal C hr (by rfl) (pa_cons (pv 0) (pa_cons (pv 1) pa_nil))))
      (pss_cons (ps_set (i := 8) scErrs.nd rfl (Or.inl rfl) (pe_cal C hr (by rfl) (pa_cons (pv 0) (pa_cons (pv 1) pa_nil))))
      (pss_cut (ps_if (pt_cmpR op_eq (pe_op op_fdiv (pv 4) pe_int) pe_int (nomark _))
        (pss_cons (ps_set (i := 8) scErrs.nd rfl (Or.inl rfl) (pe_ix (ix_listK (K := K) rfl) (pv 6) (pe_cal C hr (by rfl) (pa_cons (pv 0) (pa_cons pe_int pa_nil))) (fun _ _ => rfl)))
        (pss_one (ps_set (i := 5) scErrs.nd rfl (Or.inl rfl) (pe_tup (pa_cons pe_str (pa_cons (pe_callB (call_reprX (K := K) rfl hg hu) (by rfl) B.repr boot_repr (pa_cons (pv 8) pa_nil)) (pa_cons pe_bl (pa_cons pe_bl pa_nil)))))))) pss_nil)
      (pss_cut (ps_if (pt_cmpR op_eq (pe_op op_mod (pe_callTy call_int1 (by rfl) B.int PyProof.Rows.boot_int (pa_cons (pe_op op_fdiv (pv 4) pe_int) pa_nil)) pe_int) pe_int (nomark _))
        (pss_cons (ps_set (i := 7) scErrs.nd rfl (Or.inl rfl) (pe_ix (ix_listK (K := K) rfl) (pv 6) (pe_cal C hr (by rfl) (pa_cons (pv 0) (pa_cons pe_int pa_nil))) (fun _ _ => rfl)))
        (pss_one (ps_set (i := 5) scErrs.nd rfl (Or.inl rfl) (pe_tup (pa_cons pe_str (pa_cons (pe_callB (call_reprX (K := K) rfl hg hu) (by rfl) B.repr boot_repr (pa_cons (pv 7) pa_nil)) (pa_cons pe_bl (pa_cons pe_bl pa_nil)))))))) pss_nil)
      (pss_cut (ps_if (pt_cmpR op_eq (pe_op op_mod (pe_callTy call_int1 (by rfl) B.int PyProof.Rows.boot_int (pa_cons (pe_op op_fdiv (pv 4) pe_int) pa_nil)) pe_int) pe_int (nomark _))
        (pss_cons (ps_set (i := 9) scErrs.nd rfl (Or.inl rfl) (pe_cal C hr (by rfl) (pa_cons (pv 0) (pa_cons (pe_op op_add (pe_callB call_len_seq (by rfl) B.len PySem.boot_len (pa_cons (pv 3) pa_nil)) pe_int) pa_nil))))
        (pss_cons (ps_set (i := 3) scErrs.nd rfl (Or.inl rfl) (pe_op op_cat (pe_op op_cat (pe_slice sl_list (pv 3) po_none (po_some (pv 9))) (pe_lst (pa_cons (pe_cal CW hr (by rfl) (pa_cons (pv 0) (pa_cons (pv 1) (pa_cons (pv 2) pa_nil)))) pa_nil))) (pe_slice sl_list (pv 3) (po_some (pv 9)) po_none)))
        (pss_cut (ps_if (pt_cmpR op_eq (pe_cal C hr (by rfl) (pa_cons (pv 0) (pa_cons pe_int pa_nil))) pe_int (nomark _))
          (pss_one (ps_expr (pe_bm PySem.F.plainAttrs_list PySem.F.slot_list_insert PySem.F.type_list_insert mt_insert (pv 3) (pa_cons (pe_op op_add (pe_op op_add (pe_cal C hr (by rfl) (pa_cons (pv 0) (pa_cons (pe_op op_sub (pe_callB call_len_seq (by rfl) B.len PySem.boot_len (pa_cons (pv 3) pa_nil)) (pv 9)) pa_nil))) (pv 9)) pe_int) (pa_cons (pe_cal CW hr (by rfl) (pa_cons (pv 0) (pa_cons (pv 1) (pa_cons (pv 2) pa_nil)))) pa_nil))))) pss_nil)
        (pss_cut (ps_if (pt_cmpR op_eq (pe_cal C hr (by rfl) (pa_cons (pv 0) (pa_cons pe_int pa_nil))) pe_int (nomark _))
          (pss_cons (ps_set (i := 3) scErrs.nd rfl (Or.inl rfl) (pe_ix (ix_listK (K := K) rfl) (pe_lst (pa_cons pe_non (pa_cons pe_dnewK (pa_cons pe_str (pa_cons pe_int pa_nil))))) (pe_cal C hr (by rfl) (pa_cons (pv 0) (pa_cons pe_int pa_nil))) (fun _ _ => rfl)))
          (pss_one (ps_set (i := 9) scErrs.nd rfl (Or.inl rfl) (pe_un un_neg pe_int)))) pss_nil)
        (pss_one (ps_set (i := 5) scErrs.nd rfl (Or.inl rfl) (pe_tup (pa_cons pe_str (pa_cons (pe_callTy call_str_int (by rfl) B.str PyProof.Rows.boot_str (pa_cons (pv 9) pa_nil)) (pa_cons pe_bl (pa_cons pe_bl pa_nil))))))))))) pss_nil)
      (pss_cut (ps_if (pt_cmpR op_eq (pe_op op_mod (pe_callTy call_int1 (by rfl) B.int PyProof.Rows.boot_int (pa_cons (pe_op op_fdiv (pv 4) pe_int) pa_nil)) pe_int) pe_int (nomark _))
        (pss_cons (ps_set (i := 2) scErrs.nd rfl (Or.inl rfl) (pe_ix (ix_listK (K := K) rfl) (pe_lst (pa_cons pe_non (pa_cons pe_str (pa_cons (pe_lst (pa_cons (pe_tup (pa_cons pe_int (pa_cons pe_int pa_nil))) pa_nil)) (pa_cons (pe_lst (pa_cons (pe_tup (pa_cons pe_int (pa_cons (pv 1) pa_nil))) pa_nil)) (pa_cons (pe_op op_cat (pv 2) (pe_lst (pa_cons (pe_tup (pa_cons (pe_op op_sub (pv 1) pe_int) (pa_cons (pe_op op_sub (pv 1) pe_int) pa_nil))) pa_nil))) (pa_cons pe_dnewK pa_nil))))))) (pe_cal C hr (by rfl) (pa_cons (pv 0) (pa_cons pe_int pa_nil))) (fun _ _ => rfl)))
        (pss_one (ps_set (i := 5) scErrs.nd rfl (Or.inl rfl) (pe_tup (pa_cons pe_str (pa_cons pe_str (pa_cons pe_bl (pa_cons pe_bl pa_nil)))))))) pss_nil)
      (pss_cut (ps_if (pt_cmpR op_eq (pe_op op_mod (pe_callTy call_int1 (by rfl) B.int PyProof.Rows.boot_int (pa_cons (pv 4) pa_nil)) pe_int) pe_int (nomark _))
        (pss_cons (ps_set (i := 1) scErrs.nd rfl (Or.inl rfl) (pe_ix (ix_listK (K := K) rfl) (pe_lst (pa_cons pe_int (pa_cons pe_int (pa_cons (pe_un un_neg pe_int) (pa_cons pe_bl (pa_cons pe_non (pa_cons pe_str (pa_cons (pe_tup (pa_cons pe_int pa_nil)) (pa_cons (pe_op op_pow pe_int pe_int) pa_nil))))))))) (pe_cal C hr (by rfl) (pa_cons (pv 0) (pa_cons pe_int pa_nil))) (fun _ _ => rfl)))
        (pss_one (ps_set (i := 5) scErrs.nd rfl (Or.inl rfl) (pe_tup (pa_cons pe_str (pa_cons pe_str (pa_cons pe_bl (pa_cons pe_bl pa_nil)))))))) pss_nil)
      (pss_one (ps_ret (pe_cmpR (op_eqSm (K := K) rfl hu0) (pe_calG CR hr hg (by rfl) (pa_cons (pv 1) (pa_cons (pv 2) (pa_cons (pv 3) (pa_cons (pv 7) (pa_cons (pv 8) pa_nil)))))) (pv 5) (nomark _))))))))))))), ?_⟩
    refine ⟨.ref p, rfl, ⟨_, p, q, 31, rfl, hP.hd, by decide, by decide, fun H1 y h1' hy0 hy1 => ⟨1, y, rfl, rfl, ?_⟩⟩⟩
    have g1 := Gr.draw hP h1'
    obtain ⟨w, hw⟩ : ∃ w : Int, 1 + y = w := ⟨_, rfl⟩
    have hw1 : 1 ≤ w := by omega
    have hw2 : w ≤ 31 := by omega
    refine g_name ?_
    dsimp only
    rw [hw]
    clear hw hy0 hy1
    refine q_c ?_
    refine q_asgD (p := p) (q := q) (d := .list (wrt n)) (ed_lst (ed_cons (ed_int rfl) (ed_cons ed_neg (ed_cons (ed_c fun _ => .bl _) (ed_cons (ed_c fun _ => .non) (ed_cons (ed_c fun _ => .str _) (ed_cons (ed_tup (ed_cons (ed_c fun _ => .int _) ed_nil) (by simp)) (ed_cons ed_pow (ed_cons (ed_lst (ed_cons (ed_c fun _ => .int _) ed_nil) (by simp)) ed_nil)))))))) (by simp [wrt])) g1.pl fun G2 H2 v2 g2 hv2 => ?_
    have f2 := g1.trans g2
    obtain ⟨W, rfl⟩ : ∃ W, v2 = .ref W := by cases hv2; exact ⟨_, rfl⟩
    refine ⟨.ref p, rfl, .int (n : Int), rfl, ⟨_, p, q, (n : Int), rfl, f2.pl.hd, by omega, by omega, fun H3 ri h3' hr0 hr1 => ?_⟩⟩
    have f3 := f2.trans (Gr.draw f2.pl h3')
    refine g_name ?_
    dsimp only
    refine ⟨.ref p, rfl, .int (n : Int), rfl, ⟨_, p, q, (n : Int), rfl, f3.pl.hd, by omega, by omega, fun H4 bi h4' hb0 hb1 => ?_⟩⟩
    have f4 := f3.trans (Gr.draw f3.pl h4')
    refine g_name ?_
    dsimp only
    have eG := f4.ex
    have hl := eG _ _ hl
    have hus := hus.mono eG
    have hL := eG _ _ hL
    have hxs := hxs.mono eG
    have hP4 := f4.pl
    have hWd := hv2.mono (((Gr.draw f2.pl h3').trans (Gr.draw f3.pl h4')).ex)
    clear f4 f3 f2 g1 g2 h1' h3' h4' hP eG hv2
    generalize H4 = H0 at *
    clear H1 H2 H3
    obtain ⟨Ws, hWs, hWq⟩ : ∃ Ws, G2 W = some (.lst Ws) ∧ DqA G2 Ws (wrt n) := by
      cases hWd with
      | lst a1 a2 => exact ⟨_, a1, a2⟩
    have hwr := @wrt_no n h1 h8
    have hwl : (wrt n).length = 8 := rfl
    generalize wrt n = wr at *
    generalize G2 = G0 at *
    have hri : isR (n : Int) (.int ri) = true := by
      show (true && (decide (0 ≤ ri) && decide (ri ≤ (n : Int) - 1))) = true
      rw [decide_eq_true hr0, decide_eq_true (show ri ≤ (n : Int) - 1 by omega)]
      rfl
    -- a drawn odd router
    have pickR : ∀ {σ : L2.St} {G' H' : Hp} {Q : VK}, σ[0]? = some (some (.ref p)) → σ[6]? = some (some (.ref W)) → Ex G0 G' → Pm G' H' p q → (∀ H2 v d, Pm G' H2 p q → Dq G' v d → isR (n : Int) d = false → Shw K G' v d → Q v H2) →
        tOp (rIxL K) (tVar 6) (tCall spDraw [] E0 (tCons (tVar 0) (tCons (tC (.int 8)) tNil))) σ H' Q := fun {σ G' H' Q} h0 h6 e hP kq => by
      refine ⟨.ref W, h6, .ref p, h0, ⟨_, p, q, 8, rfl, hP.hd, by decide, by decide, fun H2 j h2 hj0 hj1 => ?_⟩⟩
      have hP2 := hP.back h2
      have l1 := hWq.length
      obtain ⟨m, rfl⟩ : ∃ m : Nat, j = (m : Int) := ⟨j.toNat, by omega⟩
      have hm : m < wr.length := by omega
      obtain ⟨u, hu1, hu2⟩ := hWq.at (List.getElem?_eq_getElem hm)
      have hz := hwr _ (List.getElem_mem hm)
      exact ⟨W, Ws, (m : Int), u, rfl, rfl, sq_of (hP2.ex _ _ (e _ _ hWs)), atI_nat hu1, kq H2 u _ hP2 (hu2.mono e) hz.1 (.inl ⟨hu2.mono e, hz.2⟩)⟩
    refine q_cut (M := fun σ' H' => ∃ (G' : Hp) (v5 : V) (d5 : PyData) (du : V), σ' = Se p (.int (n : Int)) (.ref l) (.ref L) w du W (.int ri) v5 none ∧ Ex G0 G' ∧ Pm G' H' p q ∧ Dq G' v5 d5 ∧
      ((w < 16 ∧ du = .non) ∨ (isR (n : Int) d5 = false ∧ Shw K G' v5 d5 ∧ ∃ u, du = .ref u ∧ G' u = some (.tup [.str "router", .str d5.shown, .bl true, .bl false])))) ?_ ?_
    · refine ⟨.int w, rfl, w, 16, rfl, rfl, ⟨by decide, by decide⟩, rfl, _, rfl, ?_⟩
      refine ite2 (fun hb => ?_) (fun hb => ?_)
      · refine q_asgW ?_
        refine pickR rfl rfl (Ex.refl _) hP4 fun H5 v5 d5 hP5 hd5 hr5 hs5 => ?_
        refine ⟨v5, rfl, v5, d5, rfl, hs5.mono hP5.ex, by show 4 ≤ sizeLine; decide, fun u hu => ?_⟩
        have gu := Gr.new (o := .tup [V.str "router", .str d5.shown, .bl true, .bl false]) hP5 hu
        refine g_name ?_
        exact ⟨_, v5, d5, .ref u, rfl, gu.ex, gu.pl, hd5.mono gu.ex, .inr ⟨hr5, hs5.mono gu.ex, u, rfl, upd_same⟩⟩
      · have hb := nat0 hb
        exact ⟨G0, .int bi, .int bi, .non, rfl, Ex.refl _, hP4, .int _, .inl ⟨by omega, rfl⟩⟩
    rintro σ' H5 ⟨G5, v5, d5, du5, rfl, e05, hP5, hd5, hc5⟩
    clear hP4
    refine q_cut (M := fun σ' H' => ∃ (G' : Hp) (v4 v5 du : V), σ' = Se p (.int (n : Int)) (.ref l) (.ref L) w du W v4 v5 none ∧ Ex G0 G' ∧ Pm G' H' p q ∧ ((w < 8 ∧ du = .non) ∨ ∃ u res, du = .ref u ∧ G' u = some (.tup res) ∧ T45 K n G' v4 v5 res)) ?_ ?_
    · refine ⟨.int w, rfl, w, 8, rfl, rfl, ⟨by decide, by decide⟩, .inl ⟨_, rfl, _, 2, rfl, rfl, (by decide : (0 : Int) < 2), rfl, _, rfl, ?_⟩⟩
      refine ite2 (fun hb => ?_) (fun hb => ?_)
      · refine q_asgW ?_
        refine pickR rfl rfl e05 hP5 fun H6 v4 d4 hP6 hd4 hr4 hs4 => ?_
        refine ⟨v4, rfl, v4, d4, rfl, hs4.mono hP6.ex, by show 4 ≤ sizeLine; decide, fun u hu => ?_⟩
        have gu := Gr.new (o := .tup [V.str "router", .str d4.shown, .bl true, .bl false]) hP6 hu
        refine g_name ?_
        exact ⟨_, v4, v5, .ref u, rfl, e05.trans gu.ex, gu.pl, .inr ⟨u, _, rfl, upd_same, d4, d5, hd4.mono gu.ex, hd5.mono gu.ex, .inl ⟨hr4, hs4.mono gu.ex, rfl⟩⟩⟩
      · have hb := nat0 hb
        rcases hc5 with ⟨h16, rfl⟩ | ⟨hr5, hs5, u, rfl, hu⟩
        · exact ⟨G5, _, v5, .non, rfl, e05, hP5, .inl ⟨by omega, rfl⟩⟩
        · exact ⟨G5, _, v5, .ref u, rfl, e05, hP5, .inr ⟨u, _, rfl, hu, .int ri, d5, .int _, hd5, .inr ⟨hri, hr5, hs5, rfl⟩⟩⟩
    clear hc5 hd5 hP5 e05
    rintro σ' H6 ⟨G6, v4, v5, du, rfl, e06, hP6, hc6⟩
    have hfd := hds.dOk
    refine q_cut (M := fun σ' H' => ∃ (G' : Hp) (v3 v4 v5 du : V) (o : Option V), σ' = Se p (.int (n : Int)) (.ref l) v3 w du W v4 v5 o ∧ Ex G0 G' ∧ Pm G' H' p q ∧ ((w < 4 ∧ du = .non) ∨ ∃ u res, du = .ref u ∧ G' u = some (.tup res) ∧ T3 K n prs G' v3 v4 v5 res)) ?_ ?_
    · refine ⟨.int w, rfl, w, 4, rfl, rfl, ⟨by decide, by decide⟩, .inl ⟨_, rfl, _, 2, rfl, rfl, (by decide : (0 : Int) < 2), rfl, _, rfl, ?_⟩⟩
      refine ite2 (fun hb => ?_) (fun hb => ?_)
      · clear hc6 hb
        have hxl : xs.length = ds.length := by have := hxs.length; rw [List.length_map] at this; exact this
        have hL6 := hP6.ex _ _ (e06 _ _ hL)
        refine ⟨.ref p, rfl, .ref L, rfl, L, xs, rfl, .inl (sq_of hL6), (xs.length : Int), 1, rfl, rfl, ⟨_, p, q, (xs.length : Int) + 1, rfl, hP6.hd, by omega, by omega, fun H7 ai h7 ha0 ha1 => ?_⟩⟩
        have hP7 := hP6.back h7
        obtain ⟨a, rfl⟩ : ∃ a : Nat, ai = (a : Int) := ⟨ai.toNat, by omega⟩
        have haL : a ≤ xs.length := by omega
        refine g_name ?_
        dsimp only
        change tSeq _ _ _ (Se p (.int (n : Int)) (.ref l) (.ref L) w du W v4 v5 (some (.int (a : Int)))) H7
        refine q_asgW ?_
        have hs1 := el_sl (K := K) (a := L) (xs := xs) (σ := Se p (.int (n : Int)) (.ref l) (.ref L) w du W v4 v5 (some (.int (a : Int)))) (te := tVar 3) (ev_var rfl) eo_none (eo_some (te := tVar 9) (i := (a : Int)) (ev_var rfl)) (sq_of (hP7.ex _ _ (e06 _ _ hL)))
        refine hs1 H7 (Ex.refl _) _ fun a1 H8 na1 e78 ha1 => ?_
        rw [cut_to xs a haL] at ha1
        have hP8 := hP7.ext e78
        refine ⟨.ref p, rfl, .int (n : Int), rfl, .ref l, rfl, ⟨G6, p, q, l, n, us, prs, rfl, hP8, h1, h8, e06 _ _ hl, hus.mono e06, hok, hpl, fun G9 H9 vw dw g9 hw hno hlw => ?_⟩⟩
        have ha1 := g9.off _ _ (hP7.np na1) ha1
        refine ⟨by show 1 ≤ sizeLine; decide, fun b1 hb1 => ?_⟩
        have e10 := Ex.new (o := .lst [vw]) hb1
        have hb1' : (upd H9 b1 (.lst [vw])) b1 = some (.lst [vw]) := upd_same
        have hP10 := g9.pl.ext e10
        have ha1 := e10 _ _ ha1
        generalize upd H9 b1 (.lst [vw]) = H10 at *
        refine ⟨a1, b1, xs.take a, [vw], rfl, rfl, ha1, hb1', by rw [List.length_take, sizeLine_eq]; show _ + 1 ≤ _; omega, fun c1 hc1 => ?_⟩
        have e11 := Ex.new (o := .lst (xs.take a ++ [vw])) hc1
        have hc1' : (upd H10 c1 (.lst (xs.take a ++ [vw]))) c1 = some (.lst (xs.take a ++ [vw])) := upd_same
        have hP11 := hP10.ext e11
        generalize upd H10 c1 (.lst (xs.take a ++ [vw])) = H11 at *
        have e09 := e06.trans g9.ex
        have hs2 := el_sl (K := K) (a := L) (xs := xs) (H := H11) (σ := Se p (.int (n : Int)) (.ref l) (.ref L) w du W v4 v5 (some (.int (a : Int)))) (te := tVar 3) (ev_var rfl) (eo_some (te := tVar 9) (i := (a : Int)) (ev_var rfl)) eo_none (sq_of (hP11.ex _ _ (e09 _ _ hL)))
        refine hs2 H11 (Ex.refl _) _ fun a2 H12 na2 e12 ha2 => ?_
        rw [cut_from xs a haL] at ha2
        refine ⟨c1, a2, xs.take a ++ [vw], xs.drop a, rfl, rfl, e12 _ _ hc1', ha2, by rw [List.length_append, List.length_take, List.length_drop, sizeLine_eq]; show _ + 1 + _ ≤ _; omega, fun c2 hc2 => ?_⟩
        have hP12 := hP11.ext e12
        have gc2 := fresh_back hP12.ex hc2
        have nc2 := hP12.np hc2
        have hP13 := hP12.ext (Ex.new (o := .lst (xs.take a ++ [vw] ++ xs.drop a)) hc2)
        have hc2' : (upd H12 c2 (.lst (xs.take a ++ [vw] ++ xs.drop a))) c2 = some (.lst (xs.take a ++ [vw] ++ xs.drop a)) := upd_same
        generalize upd H12 c2 (.lst (xs.take a ++ [vw] ++ xs.drop a)) = H13 at *
        have hys : DqA G9 (xs.take a ++ [vw] ++ xs.drop a) ((ds.map Deed.d).take a ++ dw :: (ds.map Deed.d).drop a) := by
          have e : (ds.map Deed.d).take a ++ dw :: (ds.map Deed.d).drop a = (ds.map Deed.d).take a ++ [dw] ++ (ds.map Deed.d).drop a := by simp
          rw [e]
          exact ((((hxs.mono e09).take a).append (.cons hw .nil)).append ((hxs.mono e09).drop a))
        generalize xs.take a ++ [vw] ++ xs.drop a = ys at *
        have hpre : ((ds.map Deed.d).take a).length = a := by rw [List.length_take, List.length_map]; omega
        have hpo : ∀ x ∈ (ds.map Deed.d).take a, dOk n (joinW prs) x = true := fun x hx => hfd x (List.mem_of_mem_take hx)
        have h62 : ((ds.map Deed.d).take a ++ dw :: (ds.map Deed.d).drop a).length ≤ 61 := by
          simp only [List.length_append, List.length_cons, List.length_take, List.length_drop, List.length_map]
          omega
        have hi3 : ∀ x ∈ ds.map Deed.d, (itemsT x).length ≤ 60 := fun x hx => by
          obtain ⟨d, _, rfl⟩ := List.mem_map.mp hx
          cases d <;> (show _ ≤ 60; simp [Deed.d, Deed.ds, itemsT])
        have hi62 : ∀ x ∈ (ds.map Deed.d).take a ++ dw :: (ds.map Deed.d).drop a, (itemsT x).length ≤ 60 := fun x hx => by
          rcases List.mem_append.mp hx with z | z
          · exact hi3 x (List.mem_of_mem_take z)
          · rcases List.mem_cons.mp z with rfl | z
            · exact hlw
            · exact hi3 x (List.mem_of_mem_drop z)
        have ha60 : a ≤ 60 := by omega
        generalize (ds.map Deed.d).take a = pre at *
        generalize (ds.map Deed.d).drop a = rest at *
        subst hpre
        clear hP7 hP8 hP10 hP11 hP12 ha1 hb1' hc1' ha2 e10 e11 e12 e78 hs1 hs2 h7 hP6 hL6 hc1 hb1 na2 na1 hw hlw hi3 haL ha0
        have hP9 := hP13
        dsimp only
        refine q_cut (M := fun σ' H' => ∃ (G' : Hp) (ys : List V) (rest : List PyData), σ' = Se p (.int (n : Int)) (.ref l) (.ref c2) w du W v4 v5 (some (.int (pre.length : Int))) ∧ Ex G9 G' ∧ Pm G' H' p q ∧ G' c2 = none ∧ H' c2 = some (.lst ys) ∧ DqA G' ys (pre ++ dw :: rest) ∧ (pre ++ dw :: rest).length ≤ 62 ∧ ∀ x ∈ pre ++ dw :: rest, (itemsT x).length ≤ 60) ?_ ?_
        · refine ⟨.ref p, rfl, ⟨_, p, q, 2, rfl, hP9.hd, by decide, by decide, fun H14 y14 h14 _ _ => ⟨rfl, _, rfl, ?_⟩⟩⟩
          have hP14 := hP9.back h14
          have hc14 := h14.off _ _ nc2 hc2'
          refine ite2 (fun _ => ?_) (fun _ => ⟨G9, ys, rest, rfl, Ex.refl _, hP14, gc2, hc14, hys, by omega, hi62⟩)
          have hyl := hys.length
          rw [List.length_append, List.length_cons] at hyl h62
          refine ⟨.ref c2, rfl, Or.inl ⟨rfl, ys, sq_of hc14⟩, ?_⟩
          refine ⟨.ref p, rfl, .ref c2, rfl, c2, ys, rfl, .inl (sq_of hc14), .int (pre.length : Int), rfl, (ys.length : Int), (pre.length : Int), rfl, rfl, ⟨_, p, q, (ys.length : Int) - (pre.length : Int), rfl, hP14.hd, by omega, by omega, fun H15 j h15 hj0 hj1 => ?_⟩⟩
          have hP15 := hP14.back h15
          have hc15 := h15.off _ _ nc2 hc14
          obtain ⟨m, rfl⟩ : ∃ m : Nat, j = (m : Int) := ⟨j.toNat, by omega⟩
          refine ⟨.int (pre.length : Int), rfl, (m : Int), (pre.length : Int), rfl, rfl, _, 1, rfl, rfl, .ref p, rfl, .int (n : Int), rfl, .ref l, rfl, ⟨G9, p, q, l, n, us, prs, rfl, hP15, h1, h8, e09 _ _ hl, hus.mono e09, hok, hpl, fun G16 H16 v16 d16 g16 hd16 hno16 hl16 => ?_⟩⟩
          have hc16 := g16.off _ _ nc2 hc15
          have gc16 := g16.nw c2 gc2 (by rw [hc15]; simp)
          have hix : (((m : Int) + (pre.length : Int) + 1)).toNat = pre.length + (m + 1) := by omega
          refine ⟨c2, ys, (m : Int) + (pre.length : Int) + 1, v16, rfl, rfl, hc16, by rw [sizeLine_eq]; omega, by omega, by omega, ?_⟩
          refine ⟨G16, _, rest.take m ++ [d16] ++ rest.drop m, rfl, g16.ex, g16.pl.mut gc16 nc2, gc16, upd_same, ?_, ?_, fun x hx => ?_⟩
          · rw [hix]
            have z := (((hys.mono g16.ex).take (pre.length + (m + 1))).append (.cons hd16 .nil)).append ((hys.mono g16.ex).drop (pre.length + (m + 1)))
            rw [ins_at] at z
            exact z
          · simp only [List.length_append, List.length_cons, List.length_take, List.length_drop, List.length_nil]
            omega
          · rcases List.mem_append.mp hx with z | z
            · exact hi62 x (List.mem_append.mpr (.inl z))
            rcases List.mem_cons.mp z with rfl | z
            · exact hi62 x (List.mem_append.mpr (.inr (List.mem_cons_self)))
            rcases List.mem_append.mp z with z | z
            · rcases List.mem_append.mp z with z | z
              · exact hi62 x (List.mem_append.mpr (.inr (List.mem_cons_of_mem _ (List.mem_of_mem_take z))))
              · rw [List.mem_singleton.mp z]; exact hl16
            · exact hi62 x (List.mem_append.mpr (.inr (List.mem_cons_of_mem _ (List.mem_of_mem_drop z))))
        clear hys h62 hi62 hP9 hP13 hc2'
        rintro σ' H14 ⟨G14, ys, rest, rfl, e914, hP14, gc14, hc14, hys, h62, hi62⟩
        refine q_cut (M := fun σ' H' => ∃ (G' : Hp) (v3 : V) (d3 : PyData) (i : Int), σ' = Se p (.int (n : Int)) (.ref l) v3 w du W v4 v5 (some (.int i)) ∧ Ex G9 G' ∧ Pm G' H' p q ∧ Dq G' v3 d3 ∧ (itemsR d3).length ≤ 1000 ∧ (∀ x ∈ itemsR d3, (itemsT x).length ≤ 1000) ∧ faultD n (joinW prs) d3 = some i ∧ -1 ≤ i ∧ i ≤ 60) ?_ ?_
        · refine ⟨.ref p, rfl, ⟨_, p, q, 8, rfl, hP14.hd, by decide, by decide, fun H15 y15 h15 _ _ => ⟨rfl, _, rfl, ?_⟩⟩⟩
          have hP15 := hP14.back h15
          have hc15 := h15.off _ _ nc2 hc14
          refine ite2 (fun _ => ?_) (fun _ => ?_)
          · refine q_pick (p := p) (q := q) (ds := wds) (x_of (ed_lst (ed_cons (ed_c fun _ => .non) (ed_cons ed_dict (ed_cons (ed_c fun _ => .str _) (ed_cons (ed_c fun _ => .int _) ed_nil)))) (by show 4 ≤ 1000; decide))) rfl (by decide) (by decide) rfl (Ex.refl G14) hP15 fun G16 H16 v16 d16 g16 hm16 hd16 => ?_
            refine ⟨1, rfl, ?_⟩
            refine g_name ?_
            have hi := wds_it d16 hm16
            exact ⟨G16, v16, d16, -1, rfl, e914.trans g16.ex, g16.pl, hd16, (by rw [hi]; simp), (fun x hx => by rw [hi] at hx; cases hx), wds_no d16 hm16, by decide, by decide⟩
          · have hP16 := hP15.hold hc15 nc2 gc14
            exact ⟨upd G14 c2 (.lst ys), .ref c2, .list (pre ++ dw :: rest), (pre.length : Int), rfl, e914.trans (Ex.new gc14), hP16, .lst upd_same (hys.mono (Ex.new gc14)), by show (pre ++ dw :: rest).length ≤ 1000; omega, fun x hx => Nat.le_trans (hi62 x hx) (by decide), faultD_at hno hpo, by omega, by omega⟩
        rintro σ' H15 ⟨G15, v3, d3, i, rfl, e915, hP15, hd3, hl3, hx3, hf3, hi0, hi1⟩
        refine ⟨.int i, rfl, i, rfl, by have := Nat.log2_le_self i.natAbs; omega, by show 4 ≤ sizeLine; decide, fun u hu => ?_⟩
        have gu := Gr.new (o := .tup [V.str "deeds", .str (toString i), .bl true, .bl false]) hP15 hu
        refine g_name ?_
        exact ⟨_, v3, v4, v5, .ref u, _, rfl, (e09.trans e915).trans gu.ex, gu.pl, .inr ⟨u, [.str "deeds", .str (PyData.int i).shown, .bl true, .bl false], rfl, by rw [upd_same, sh_i73 hi0 hi1], d3, hd3.mono gu.ex, hl3, hx3, .inl ⟨i, hf3, fun H' => shw_i73 hi0 hi1, rfl⟩⟩⟩
      · have hb := nat0 hb
        refine ⟨G6, .ref L, v4, v5, du, none, rfl, e06, hP6, ?_⟩
        rcases hc6 with ⟨h8', rfl⟩ | ⟨u, res, rfl, hu, hT⟩
        · exact .inl ⟨by omega, rfl⟩
        · refine .inr ⟨u, res, rfl, hu, .list (ds.map Deed.d), .lst (e06 _ _ hL) (hxs.mono e06), ?_, fun x hx => ?_, .inr ⟨by show (if true = true then firstD n (joinW prs) 0 (ds.map Deed.d) else _) = none; rw [if_pos rfl]; exact firstD_none hfd, hT⟩⟩
          · show (ds.map Deed.d).length ≤ 1000
            rw [List.length_map]
            omega
          · obtain ⟨d, _, rfl⟩ := List.mem_map.mp (show x ∈ ds.map Deed.d from hx)
            cases d <;> (show _ ≤ 1000; simp [Deed.d, Deed.ds, itemsT])
    clear hc6 hP6 e06
    rintro σ' H7 ⟨G7, v3, v4, v5, du, o, rfl, e07, hP7, hc7⟩
    refine q_cut (M := fun σ' H' => ∃ (G' : Hp) (v2 v3 v4 v5 du : V) (d2 : PyData) (o : Option V), σ' = Se p (.int (n : Int)) v2 v3 w du W v4 v5 o ∧ Ex G0 G' ∧ Pm G' H' p q ∧ Dq G' v2 d2 ∧ (itemsR d2).length ≤ 1000 ∧ ((w < 2 ∧ du = .non) ∨ ∃ u res, du = .ref u ∧ G' u = some (.tup res) ∧ (T2f G' (.int (n : Int)) v2 res ∨ T2s K n prs G' (.int (n : Int)) v2 v3 v4 v5 res))) ?_ ?_
    · refine ⟨.int w, rfl, w, 2, rfl, rfl, ⟨by decide, by decide⟩, .inl ⟨_, rfl, _, 2, rfl, rfl, (by decide : (0 : Int) < 2), rfl, _, rfl, ?_⟩⟩
      refine ite2 (fun hb => ?_) (fun hb => ?_)
      · refine q_pick (p := p) (q := q) (G0 := G7) (ds := wlk n prs) (x_lst (x_cons (x_of (ed_c fun _ => .non)) (x_cons (x_of (ed_c fun _ => .str _)) (x_cons (x_of (ed_lst (ed_cons (ed_tup (ed_cons (ed_c fun _ => .int _) (ed_cons (ed_c fun _ => .int _) ed_nil)) (by simp)) ed_nil) (by simp))) (x_cons (x_of (ed_lst (ed_cons (ed_tup (ed_cons (ed_c fun _ => .int _) (ed_cons (ed_int rfl) ed_nil)) (by simp)) ed_nil) (by simp))) (x_cons (x_cat (v := .ref l) (ds := prs.map wd) rfl (.lst (e07 _ _ hl) (hus.mono e07)) (ed_lst (ed_cons (ed_tup (ed_cons (ed_dec (a := (n : Int)) rfl) (ed_cons (ed_dec (a := (n : Int)) rfl) ed_nil)) (by simp)) ed_nil) (by simp)) (by simp; omega)) (x_cons (x_of ed_dict) x_nil)))))) (by show 6 ≤ 1000; decide)) rfl (by show (0 : Int) < 6; decide) (by show (6 : Int) ≤ 1000; decide) rfl (Ex.refl _) hP7 fun G8 H8 v2 d2 g8 hm8 hd8 => ?_
        refine ⟨by show 4 ≤ sizeLine; decide, fun u hu => ?_⟩
        have gu := Gr.new (o := .tup [V.str "flood", .str "links", .bl true, .bl false]) g8.pl hu
        refine g_name ?_
        have hi := wlk_it hpl d2 hm8
        exact ⟨_, v2, v3, v4, v5, .ref u, d2, _, rfl, (e07.trans g8.ex).trans gu.ex, gu.pl, hd8.mono gu.ex, hi, .inr ⟨u, _, rfl, upd_same, .inl ⟨.int (n : Int), d2, "links", .int _, hd8.mono gu.ex, hi, wlk_due h1 h8 hm8, rfl⟩⟩⟩
      · have hb := nat0 hb
        refine ⟨G7, .ref l, v3, v4, v5, du, .list (prs.map wd), o, rfl, e07, hP7, .lst (e07 _ _ hl) (hus.mono e07), by show (prs.map wd).length ≤ 1000; rw [List.length_map]; omega, ?_⟩
        rcases hc7 with ⟨h4, rfl⟩ | ⟨u, res, rfl, hu, hT⟩
        · exact .inl ⟨by omega, rfl⟩
        · exact .inr ⟨u, res, rfl, hu, .inr ⟨l, us, rfl, rfl, e07 _ _ hl, hus.mono e07, hT⟩⟩
    clear hc7 hP7 e07
    rintro σ' H8 ⟨G8, v2, v3, v4, v5, du, d2, o, rfl, e08, hP8, hd2, hi2, hc8⟩
    refine q_cut (M := fun σ' H' => ∃ (G' : Hp) (v1 v2 v3 v4 v5 : V) (o : Option V) (u : Addr) (res : List V), σ' = Se p v1 v2 v3 w (.ref u) W v4 v5 o ∧ Pm G' H' p q ∧ G' u = some (.tup res) ∧ (T2f G' v1 v2 res ∨ T2s K n prs G' v1 v2 v3 v4 v5 res)) ?_ ?_
    · refine ⟨.int w, rfl, .inl ⟨w, rfl, _, 2, rfl, rfl, (by decide : (0 : Int) < 2), rfl, _, rfl, ?_⟩⟩
      refine ite2 (fun hb => ?_) (fun hb => ?_)
      · refine q_pick (p := p) (q := q) (ds := wsz) (x_of (ed_lst (ed_cons (ed_c fun _ => .int _) (ed_cons (ed_c fun _ => .int _) (ed_cons ed_neg (ed_cons (ed_c fun _ => .bl _) (ed_cons (ed_c fun _ => .non) (ed_cons (ed_c fun _ => .str _) (ed_cons (ed_tup (ed_cons (ed_c fun _ => .int _) ed_nil) (by simp)) (ed_cons ed_pow ed_nil)))))))) (by show 8 ≤ 1000; decide))) rfl (by decide) (by decide) rfl (Ex.refl G8) hP8 fun G9 H9 v1 d1 g9 hm9 hd9 => ?_
        refine ⟨by show 4 ≤ sizeLine; decide, fun u hu => ?_⟩
        have gu := Gr.new (o := .tup [V.str "flood", .str "size", .bl true, .bl false]) g9.pl hu
        refine g_name ?_
        exact ⟨_, v1, v2, v3, v4, v5, _, u, _, rfl, gu.pl, upd_same, .inl ⟨d1, d2, "size", hd9.mono gu.ex, hd2.mono (g9.ex.trans gu.ex), hi2, wsz_due hm9, rfl⟩⟩
      · have hb := nat0 hb
        rcases hc8 with ⟨h2', _⟩ | ⟨u, res, rfl, hu, hT⟩
        · exfalso
          omega
        · exact ⟨G8, .int (n : Int), v2, v3, v4, v5, o, u, res, rfl, hP8, hu, hT⟩
    clear hc8 hP8 hd2 hi2 e08
    rintro σ' H9 ⟨G9, v1, v2, v3, v4, v5, o, u, res, rfl, hP9, hu9, hT⟩
    have e9 := hP9.ex
    have hfl : res.all flatV = true ∧ ∀ z ∈ res, eqV z z = true := by
      rcases hT with h | h
      · exact h.flat
      · exact h.flat
    refine ⟨v1, rfl, v2, rfl, v3, rfl, v4, rfl, v5, rfl, v1, v2, v3, v4, v5, res, rfl, ?_, fun H10 t e10 ht => ⟨.ref u, rfl, t, u, res, rfl, rfl, st_of ht, st_of (e10 _ _ (e9 _ _ hu9)), hfl.1, hfl.2, k _⟩⟩
    rcases hT with h | h
    · obtain ⟨d1, d2, s1, q1, q2, q3, q4, q5⟩ := h.mono e9
      exact .inl ⟨d1, d2, s1, q1, .inl q2, q3, q4, q5⟩
    · obtain ⟨l', us', q1, q2, q3, q4, d3, q5, q6, q7, q8⟩ := h.mono e9
      refine .inr ⟨n, l', us', prs, .list (prs.map wd), d3, q1, q2, h1, h8, .inl q3, q4, hok, hpl, by rw [q2]; exact .lst q3 q4, .inl rfl, q5, q6, q7, ?_⟩
      rcases q8 with q8 | ⟨q8, q9⟩
      · exact .inl q8
      · exact .inr ⟨q8, q9⟩
end
end Wk

set_option Elab.async false
set_option linter.all false
set_option maxRecDepth 100000
set_option maxHeartbeats 8000000
namespace Wk
open PySem PySem.Spec PyProof.Rows L2 Evl
theorem deed_eqv (x : Deed) : PyData.eqv x.d x.d = true := by
  cases x <;> simp [Deed.d, Deed.ds, PyData.eqv, PyData.eqvAll]
theorem deeds_eqv : ∀ ds : List Deed, PyData.eqvAll (ds.map Deed.d) (ds.map Deed.d) = true
  | [] => rfl
  | x :: l => by
    show (PyData.eqv x.d x.d && PyData.eqvAll (l.map Deed.d) (l.map Deed.d)) = true
    rw [deed_eqv, deeds_eqv l]
    rfl
theorem deed_lay (x : Deed) : x.d.canLay0 = true := by
  have h := x.word_ok
  cases x <;> simp [Deed.d, Deed.ds, PyData.canLay0, PyData.canLayAll0] <;> exact h
theorem deed_dep (x : Deed) : x.d.depth ≤ 1 := by
  cases x <;> simp [Deed.d, Deed.ds, PyData.depth, PyData.depthAll]
theorem deeds_shaped (ds : List Deed) : SeqAt.shaped (.list (ds.map Deed.d)) = true := by
  unfold SeqAt.shaped
  have h1 : PyData.canLayAll0 (ds.map Deed.d) = true := layAll.mpr fun d hd => by
    obtain ⟨x, _, rfl⟩ := List.mem_map.mp hd
    exact deed_lay x
  have h2 : PyData.depthAll (ds.map Deed.d) ≤ 1 := depAll.mpr fun d hd => by
    obtain ⟨x, _, rfl⟩ := List.mem_map.mp hd
    exact deed_dep x
  have : decide ((PyData.list (ds.map Deed.d)).depth ≤ 64) = true := decide_eq_true (by simp only [PyData.depth]; omega)
  rw [this]
  simp [PyData.canLay0, h1]
theorem wds_hd {H : Hp} {p : Addr} {xs us : List V} {ws : List Wy} (hp : H p = some (.lst xs)) (h : DqA H us (ws.map wd)) : DqA (Hd1 H p) us (ws.map wd) := by
  obtain ⟨ks, k1, k2, k3⟩ := wds_ks h
  rw [k1, ← k2]
  refine ks_wds fun q hq => ?_
  have := k3 q hq
  rw [hd1_at (fun z => by rw [z, hp] at this; cases this)]
  exact this
section
variable {P : Program} {w : World} {K : PySem.W.Frag} {mg : Str → Option Value} {base : Heap} {f : Addr} {fd : FuncData}
/-! law -/
def spLaw (K : PySem.W.Frag) : Sp := fun vs H Q _ => ∃ (a : Addr) (ns : List Int), vs = [.ref a] ∧ SqL K H a (ns.map V.int) ∧ ns.length ≤ 63 ∧ ∀ H', Q (.bl true) H'
abbrev sLaw : Stmt := top 51
abbrev nLaw : List Str := ["_law_script", "_law_pool_here", "_law_size", "_law_links_here", "_law_pairs_here", "_law_deeds", "_law_k", "_law_handed"]
theorem scLaw : FnScope nLaw ["_law_script"] (defScope sLaw) := ⟨rfl, rfl, rfl, by decide +kernel, rfl, by decide +kernel, by decide +kernel⟩
structure Cs (P : Program) (w : World) (K : PySem.W.Frag) (mg : Str → Option Value) (base : Heap) : Prop where
  pool : Cal P w K mg base "_law_pool" ["_law_script"] 1 (spPool K)
  draw : Cal P w K mg base "_law_draw" ["_law_pool_here", "_law_limit"] 2 spDraw
  links : Cal P w K mg base "_law_links" ["_law_pool_here", "_law_size"] 4 spLinks
  pairs : Cal P w K mg base "_law_pairs" ["_law_links_here"] 1 spPairs
  deed : Cal P w K mg base "_law_deed" ["_law_pool_here", "_law_size", "_law_pairs_here", "_law_restarts"] 3 spDeed
  errs : CalG P w K mg base "_law_errors" ["_law_pool_here", "_law_size", "_law_links_here", "_law_deeds"] 9 spErrs
  all : Cal P w K mg base "_law_all" ["_law_size", "_law_links_here", "_law_deeds"] 9 spAll
theorem ok_law (B : Bl mg) (S : Cs P w K mg base) (F : FnP K "law" sLaw f fd) : FnG P w K mg base 10 f fd ["_law_script"] (spLaw K) := by
  refine okG F scLaw (fun vs H Q E h => ?_) (fun cdv A outer s H vs Q E hr hg h => ?_)
  · obtain ⟨a, ns, rfl, _⟩ := h
    rfl
  · obtain ⟨a0, ns, rfl, hS, hns, k⟩ := h
    have hu : (A.deeper (envOfC "law" (defScope sLaw) s.heap.objs.size f cdv)).units + 64 < cLine := by have := hr.un; omega
    refine ⟨_, pss_cons (ps_set (i := 1) scLaw.nd rfl (Or.inr rfl) (pe_cal S.pool hr (by rfl) (pa_cons (pv 0) pa_nil)))
      (pss_cons (ps_set (i := 2) scLaw.nd rfl (Or.inr rfl) (pe_op op_add pe_int (pe_cal S.draw hr (by rfl) (pa_cons (pv 1) (pa_cons pe_int pa_nil)))))
      (pss_cons (ps_set (i := 3) scLaw.nd rfl (Or.inl rfl) (pe_cal S.links hr (by rfl) (pa_cons (pv 1) (pa_cons (pv 2) pa_nil))))
      (pss_cons (ps_set (i := 4) scLaw.nd rfl (Or.inr rfl) (pe_cal S.pairs hr (by rfl) (pa_cons (pv 3) pa_nil)))
      (pss_cons (ps_setLc (i := 5) (own := [("_law_k", 6)]) (g := gName 6) (tt := tYes) rfl scLaw.nd rfl rfl (sw_true rfl rfl rfl (by decide +kernel)) (pi_range1 (by rfl) B.range (pa_cons (pe_cal S.draw hr (by rfl) (pa_cons (pv 1) (pa_cons pe_int pa_nil))) pa_nil)) (blkOk_by (N := nLaw) (sc := defScope sLaw) (by decide +kernel))
          (fun _ _ _ _ _ => pg_name (i := 6) scLaw.nd rfl (Or.inl rfl)) (fun _ _ _ _ _ => pts_nil) (fun _ _ _ _ _ => pe_cal S.deed hr (by rfl) (pa_cons (pv 1) (pa_cons (pv 2) (pa_cons (pv 4) (pa_cons pe_bl pa_nil))))))
      (pss_cons (ps_if (pt_cmpR op_eq (pe_cal S.draw hr (by rfl) (pa_cons (pv 1) (pa_cons pe_int pa_nil))) pe_int (nomark _)) (pss_one (ps_ret (pe_calG S.errs hr hg (by rfl) (pa_cons (pv 1) (pa_cons (pv 2) (pa_cons (pv 3) (pa_cons (pv 5) pa_nil))))))) pss_nil)
      (pss_cons (ps_if (pt_cmpR op_eq (pe_cal S.draw hr (by rfl) (pa_cons (pv 1) (pa_cons pe_int pa_nil))) pe_int (nomark _)) (pss_one (ps_ret (pe_cal S.all hr (by rfl) (pa_cons (pv 2) (pa_cons (pe_callTy (call_tupleK (K := K) rfl) (by rfl) B.tuple PyProof.Rows.boot_tuple (pa_cons (pv 3) pa_nil)) (pa_cons (pe_callTy (call_tupleK (K := K) rfl) (by rfl) B.tuple PyProof.Rows.boot_tuple (pa_cons (pv 5) pa_nil)) pa_nil)))))) pss_nil)
      (pss_cons (ps_set (i := 7) scLaw.nd rfl (Or.inl rfl) (pe_callTy (call_listK2 (K := K) rfl) (by rfl) B.list PyProof.Rows.boot_list (pa_cons (pv 5) pa_nil)))
      (pss_one (ps_ret (pe_and (pe_cal S.all hr (by rfl) (pa_cons (pv 2) (pa_cons (pv 3) (pa_cons (pv 7) pa_nil)))) (pe_one (pe_cmpR (op_eqD hu) (pv 7) (pv 5) (nomark _))))))))))))), ?_⟩
    refine ⟨.ref a0, rfl, a0, ns, rfl, hS, hns, fun G1 H1 p q _ hP1 => ?_⟩
    refine g_name ?_
    refine ⟨.ref p, rfl, ⟨_, p, q, _, rfl, hP1.hd, by decide, by decide, fun H2 y h2 hy0 hy1 => ⟨1, y, rfl, rfl, ?_⟩⟩⟩
    have hP2 := hP1.back h2
    obtain ⟨n, hn⟩ : ∃ n : Nat, (1 : Int) + y = (n : Int) := ⟨(1 + y).toNat, by omega⟩
    refine g_name ?_
    dsimp only
    rw [hn]
    have hn1 : 1 ≤ n := by omega
    have hn8 : n ≤ 8 := by omega
    refine ⟨.ref p, rfl, .int (n : Int), rfl, G1, p, q, n, rfl, hP2, hn1, hn8, fun G3 H3 lk us0 prs e13 hP3 glk hus0 hprs hpl => ?_⟩
    refine g_name ?_
    have hprs8 : ∀ w ∈ prs, PrOk 8 w := fun w hw => by
      obtain ⟨u, v, e, h1, h2, h3⟩ := hprs w hw
      exact ⟨u, v, e, by omega, by omega, h3⟩
    refine ⟨.ref lk, rfl, lk, us0, prs, rfl, hP3.ex _ _ glk, hus0.mono hP3.ex, hprs8, hpl, fun H4 l us e34 hl0 hl hus => ?_⟩
    refine g_name ?_
    have hP4 := hP3.ext e34
    obtain ⟨_, _, _, hpp, _⟩ := hP4.at_
    have nlp := hP3.np hl0
    have gl : (Hd1 H4 p) l = some (.lst us) := by rw [hd1_at nlp]; exact hl
    have hus4 := wds_hd hpp hus
    have hP5 := hP4.hd
    have glk4 : (Hd1 H4 p) lk = some (.lst us0) := hP4.sub _ _ glk
    have hus0 := hus0.mono hP4.sub
    generalize Hd1 H4 p = G4 at *
    have hjs := join_ok hn8 hprs
    have hjl := asc_len (prs ++ prs.map swW)
    have hjl : (joinW prs).length ≤ 64 := hjl
    clear hus hpp hl hl0 e34 hP4 hP3 glk hprs8 hP2 h2
    change tSeq _ _ _ [some (.ref a0), some (.ref p), some (.int (n : Int)), some (.ref lk), some (.ref l), none, none, none] H4
    refine ⟨.ref p, rfl, ⟨_, p, q, _, rfl, hP5.hd, by decide, by decide, fun H5 m h5 hm0 hm1 => ⟨m, rfl, by omega, by omega, fun D hD => ?_⟩⟩⟩
    have hP6 := hP5.back h5
    have gD := fresh_back hP6.ex hD
    have nD := hP6.np hD
    refine lc_range (lo := 0) (n := m.toNat) (fun i H' => ∃ (G' : Hp) (us : List V) (ds : List Deed), Ex G4 G' ∧ Pm G' H' p q ∧ G' D = none ∧ H' D = some (.lst us) ∧ DqA G' us (ds.map Deed.d) ∧ ds.length = i ∧ ∀ x ∈ ds, x.ok n (joinW prs) false) ⟨G4, [], [], Ex.refl _, hP6.ext (Ex.new hD), gD, upd_same, .nil, rfl, fun x hx => by cases hx⟩ ?_ ?_
    · rintro i H7 hi ⟨G7, us7, ds, e47, hP7, gD7, hD7, hus7, hdl, hok⟩
      have hul := hus7.length
      rw [List.length_map] at hul
      have hP7h := hP7.hold hD7 nD gD7
      have eD7 : Ex G7 (upd G7 D (.lst us7)) := Ex.new gD7
      refine ⟨rfl, .ref p, rfl, .int (n : Int), rfl, .ref l, rfl, _, p, q, l, n, us, joinW prs, false, rfl, hP7h, hn1, hn8, eD7 _ _ (e47 _ _ gl), (hus4.mono e47).mono eD7, hjs, hjl, fun H8 t x ht hP8h hx => ?_⟩
      have nDt : D ≠ t := ne_of_none hD7 ht
      have gt := fresh_back hP7.ex ht
      have eg : Ex G7 (upd G7 t (.tup x.vs)) := Ex.new gt
      have hD8 : H8 D = some (.lst us7) := hP8h.ex _ _ (by rw [upd_ne nDt]; exact upd_same)
      have hP8 : Pm (upd G7 t (.tup x.vs)) H8 p q := hP8h.less (fun a o ha => by
        by_cases c : a = t
        · rw [c, upd_same] at ha ⊢
          exact ha
        · rw [upd_ne c] at ha ⊢
          exact eD7 _ _ ha) (by
        obtain ⟨cs, h0, h1⟩ := hP7.gq
        exact ⟨cs, eg _ _ h0, h1⟩)
      refine ⟨us7, hD8, by rw [sizeLine_eq]; omega, upd G7 t (.tup x.vs), us7 ++ [.ref t], ds ++ [x], e47.trans eg, hP8.mut (by rw [upd_ne nDt]; exact gD7) nD, by rw [upd_ne nDt]; exact gD7, upd_same, ?_, by simp [hdl], fun z hz => ?_⟩
      · rw [List.map_append]
        exact (hus7.mono eg).append (.cons (Deed.dq upd_same) .nil)
      · rcases List.mem_append.mp hz with c | c
        · exact hok z c
        · rw [List.mem_singleton.mp c]
          exact hx
    rintro H7 ⟨G7, us7, ds, e47, hP7, gD7, hD7, hus7, hdl, hok⟩
    have hul := hus7.length
    rw [List.length_map] at hul
    have hd60 : ds.length ≤ 60 := by omega
    have hpo : PasOk ds := fun i a b hi => by
      obtain ⟨u, v, e, _, _, h3⟩ := hjs _ (hok _ (List.mem_of_getElem? hi))
      injection e with e1 e2
      injection e2 with e2 _
      omega
    have hP8 := hP7.hold hD7 nD gD7
    have eD7 : Ex G7 (upd G7 D (.lst us7)) := Ex.new gD7
    have hGD : (upd G7 D (.lst us7)) D = some (.lst us7) := upd_same
    have hus8 := hus7.mono eD7
    have glk8 := eD7 _ _ (e47 _ _ glk4)
    have hus08 := (hus0.mono e47).mono eD7
    generalize upd G7 D (.lst us7) = G8 at *
    clear hP7 hD7 gD7 hus7 eD7 e47 hP6 gD hD hus4 gl glk4 hP5 h5 hus0
    change tSeq _ _ _ [some (.ref a0), some (.ref p), some (.int (n : Int)), some (.ref lk), some (.ref l), some (.ref D), none, none] H7
    refine ⟨.ref p, rfl, ⟨_, p, q, 4, rfl, hP8.hd, by decide, by decide, fun H9 y9 h9 _ _ => ⟨rfl, _, rfl, ?_⟩⟩⟩
    have hP9 := hP8.back h9
    refine ite2 (fun _ => ?_) (fun _ => ?_)
    · exact ⟨.ref p, rfl, .int (n : Int), rfl, .ref lk, rfl, .ref D, rfl, ⟨G8, p, q, lk, D, n, us0, us7, prs, ds, rfl, hP9, hn1, hn8, glk8, hus08, hprs, hpl, hGD, hus8, hok, hd60, fun H' => k H'⟩⟩
    refine ⟨.ref p, rfl, ⟨_, p, q, 2, rfl, hP9.hd, by decide, by decide, fun H10 y10 h10 _ _ => ⟨rfl, _, rfl, ?_⟩⟩⟩
    have hP10 := hP9.back h10
    have eH := hP10.ex
    refine ite2 (fun _ => ?_) (fun _ => ?_)
    · refine ⟨.int (n : Int), rfl, .ref lk, rfl, lk, us0, rfl, .inl ⟨sq_of (eH _ _ glk8), fun t1 ht1 => ?_⟩⟩
      have e1 := Ex.new (o := .tup us0) ht1
      have ht1' : (upd H10 t1 (.tup us0)) t1 = some (.tup us0) := upd_same
      generalize upd H10 t1 (.tup us0) = H11 at *
      refine ⟨.ref D, rfl, D, us7, rfl, .inl ⟨sq_of (e1 _ _ (eH _ _ hGD)), fun t2 ht2 => ?_⟩⟩
      have e2 := Ex.new (o := .tup us7) ht2
      have e12 := eH.trans (e1.trans e2)
      exact ⟨n, t1, t2, us0, us7, prs, ds, rfl, hn1, hn8, .inr (e2 _ _ ht1'), hus08.mono e12, hprs, hpl, .inr upd_same, hus8.mono e12, hok, hd60, fun H' _ => k H'⟩
    · refine ⟨.ref D, rfl, D, us7, rfl, .inl (sq_of (eH _ _ hGD)), fun h hh => ?_⟩
      have e1 := Ex.new (o := .lst us7) hh
      have hh' : (upd H10 h (.lst us7)) h = some (.lst us7) := upd_same
      have e11 := eH.trans e1
      generalize upd H10 h (.lst us7) = H11 at *
      refine g_name ?_
      dsimp only
      refine ⟨.int (n : Int), rfl, .ref lk, rfl, .ref h, rfl, ⟨n, lk, h, us0, us7, prs, ds, rfl, hn1, hn8, .inl (e11 _ _ glk8), hus08.mono e11, hprs, hpl, .inl hh', hus8.mono e11, hok, hd60, fun H12 e2 => ⟨true, rfl, ?_⟩⟩⟩
      refine ⟨.ref h, rfl, .ref D, rfl, .list (ds.map Deed.d), .list (ds.map Deed.d), Dq.dp (SeqAt.canLay_of_shaped (deeds_shaped ds)) (.lst (e2 _ _ hh') (hus8.mono (e11.trans e2))), Dq.dp (SeqAt.canLay_of_shaped (deeds_shaped ds)) (.lst ((e11.trans e2) _ _ hGD) (hus8.mono (e11.trans e2))), deeds_shaped ds, deeds_shaped ds, ?_⟩
      show Q (.bl (PyData.eqvAll (ds.map Deed.d) (ds.map Deed.d))) H12
      rw [deeds_eqv]
      exact k H12
end
end Wk

set_option Elab.async false
set_option linter.all false
set_option maxRecDepth 100000
set_option maxHeartbeats 4000000
namespace Wk
open PySem PySem.Spec PyProof.Rows L2 Evl
/-! the head's facts with more of them -/
abbrev AlX : Type := He.AlD × Bool
def obsX (n : Nat) (fa : List He.Fa) (fn : List He.DefD) (eb : PySem.W.Frag → Bool) (g : Addr → Option Obj) : AlX := (He.obsDG n fa fn g, eb (He.frG g (He.asD g n)))
def hookX (n : Nat) (fa : List He.Fa) (fn : List He.DefD) (eb : PySem.W.Frag → Bool) : PySem.W.Hook where
  α := AlX
  obs := fun s => obsX n fa fn eb s.heap.get?
  val := fun _ => (He.valD fn, true)
  says := fun _ h => ∃ K : PySem.W.Frag, K.In h ∧ He.SaysD fa fn K ∧ eb K = true
  of := fun _ _ e => ⟨_, He.frG_in, congrArg Prod.fst e, congrArg Prod.snd e⟩
  keeps := fun _ _ _ ⟨K, hK, c⟩ k => ⟨K, PySem.W.Frag.In.keeps hK k, c⟩
theorem obsX_eq {n : Nat} {fa : List He.Fa} {fn : List He.DefD} {eb : PySem.W.Frag → Bool} {g : Addr → Option Obj} {s : Shared} (h : ∀ a, g a = s.heap.get? a) : obsX n fa fn eb g = (hookX n fa fn eb).obs s := by
  have e : g = s.heap.get? := funext h
  rw [e]
  rfl
theorem calOf {P : Program} {w : World} {K : PySem.W.Frag} {mg : Str → Option Value} {base : Heap} {x q : Str} {params : Arguments} {body : List Stmt} {scope : Scope} {f : Addr} {fd : FuncData} {ps : List Str} {k : Nat} {sp : Sp} (F : FunD K x q params body scope [] [] f fd) (o : FnOk P w K mg base CX0 k f fd ps sp) (g : mg x = some (.ref f)) (b : Binds K fd ps []) : Cal P w K mg base x ps k sp := ⟨⟨f, fd, o, g, F.kp, b⟩⟩
def dG (x : Str) (i : Nat) : He.DefD := ⟨(x, none), x, x, defArgs (top i), defBody (top i), defScope (top i), [], []⟩
def dM (c m q : Str) (i j : Nat) : He.DefD := ⟨(c, some m), m, q, defArgs (inClass (top i) j), defBody (inClass (top i) j), defScope (inClass (top i) j), [], []⟩
end Wk

set_option Elab.async false
set_option linter.all false
set_option maxRecDepth 100000
set_option maxHeartbeats 2000000
namespace Wk
open PySem PySem.Spec PyProof.Rows L2 Evl
/-! more facts: a thing of an own class, an error without arguments -/
def errB (K : PySem.W.Frag) (C : Addr) : Bool := PySem.W.excIn K C [.type "ValueError", .type "Exception", .type "BaseException", .type "object"] "ValueError.__new__" && (PySem.W.keepIn K (.ref C) && (decide (PySem.W.subIn K (.ref C) (.type "BaseException") = some true) && decide (PySem.W.typeIn K (.ref C) = some (.type "type"))))
theorem errB_ok {K : PySem.W.Frag} {mg : Str → Option Value} {x : Str} {C : Addr} (h : errB K C = true) (g : mg x = some (.ref C)) : ErrN K mg x C := by
  obtain ⟨h1, h⟩ := He.ba h
  obtain ⟨h2, h⟩ := He.ba h
  obtain ⟨h3, h4⟩ := He.ba h
  exact ⟨g, h1, h2, of_decide_eq_true h3, of_decide_eq_true h4⟩
def excB (K : PySem.W.Frag) (C : Addr) : Bool := He.eqO (PySem.W.findIn K (.ref C) "__getattribute__") (some (some (.builtin "BaseException.__getattribute__"))) && (He.eqO (PySem.W.findIn K (.ref C) "__getattr__") (some none) && (decide (PySem.W.subIn K (.ref C) (.type "BaseException") = some true) && (PySem.W.hasDictIn K C &&
  (He.eqO (PySem.W.findIn K (.ref C) "__class__") (some (some (.builtin "object.__class__"))) && (He.eqO (PySem.W.specialIn K (.builtin "object.__class__") "__get__") (some (some (.builtin "getset_descriptor.__get__"))) && (decide (PySem.W.takesIn K (.builtin "object.__class__") = some true) && decide (PySem.W.mroIn K C (.type "object") = some true)))))))
theorem excB_ok {K : PySem.W.Frag} {C : Addr} (h : excB K C = true) : ExcC K C := by
  obtain ⟨h1, h⟩ := He.ba h
  obtain ⟨h2, h⟩ := He.ba h
  obtain ⟨h3, h⟩ := He.ba h
  obtain ⟨h4, h⟩ := He.ba h
  obtain ⟨h5, h⟩ := He.ba h
  obtain ⟨h6, h⟩ := He.ba h
  obtain ⟨h7, h8⟩ := He.ba h
  exact ⟨He.eqO_ok h1, He.eqO_ok h2, of_decide_eq_true h3, h4, He.eqO_ok h5, He.eqO_ok h6, of_decide_eq_true h7, of_decide_eq_true h8⟩
def eknB (K : PySem.W.Frag) (C CW CB : Addr) : Bool := excB K C && (decide (PySem.W.kitOne K (.ref C) (.ref CW) = some true) && decide (PySem.W.kitOne K (.ref C) (.ref CB) = some false))
theorem eknB_ok {K : PySem.W.Frag} {C CW CB : Addr} (h : eknB K C CW CB = true) : EKn K C CW CB := by
  obtain ⟨h1, h⟩ := He.ba h
  obtain ⟨h2, h3⟩ := He.ba h
  exact ⟨excB_ok h1, of_decide_eq_true h2, of_decide_eq_true h3⟩
/-! the end: the law is called where no repr is under way -/
abbrev scO (vs : List Value) : Obj := { cls := .type "list", data := .seq vs.toArray }
section
variable {P : Program} {w : World} {K : PySem.W.Frag} {mg mb : Str → Option Value} {k : Nat} {fa a : Addr} {fd : FuncData} {x : Str} {sp : Sp} {s : Shared} {vs : List Value}
theorem gcall (kx : K.In s.heap) (g1 : s.heap.Ns mainGlobals mg) (g2 : s.heap.Ns builtinsNs mb) (g3 : ∀ y : Str, y ≠ "__name__" → mb y = bootBuiltins y) (g4 : s.heap.NoLimit) (g5 : s.gens = #[])
    (oa : s.heap.get? a = some (scO vs)) (room : Room k callerA) (Fn : ∀ base : Heap, K.In base → base.Ns mainGlobals mg → FnG P w K mg base k fa fd [x] sp) (bd : ∀ (t : Shared) (u : Value), BindsTo t fd ⟨[u], []⟩ [(x, u)])
    (H : Hp) (only : ∀ b, H b = none ∨ (b = a ∧ ∃ o xs, H b = some (.frz o (.lst xs)))) (hok : HOk P w H s.heap) (kh : H a ≠ none → K.lookup a = none) (hq : sp [.ref a] H (fun v _ => v = .bl true) fun _ _ _ => False) :
    codeAny (model P w) callerA (.call (.ref fa) ⟨[.ref a], []⟩) (fun r t => r = .ok (.ret (.bool true)) ∧ OldK s.heap t.heap ∧ t.os = s.os ∧ AllBare t.gens) s := by
  have off : ∀ b, b ≠ a → H b = none := fun b nb => (only b).elim id fun z => absurd z.1 nb
  have ns : ∀ {b : Addr} {m : Str → Option Value}, s.heap.Ns b m → (hidT s.heap H).Ns b m := fun {b m} z => by
    obtain ⟨o, es, ep, e, d, r⟩ := z
    refine ⟨o, es, ep, hidT_get e (off b fun c => ?_), d, r⟩
    rw [c, oa] at e
    cases e
    cases (show Data.seq vs.toArray _ = Data.dict es ep from d)
  have ki : K.In (hidT s.heap H) := fun b o e => by
    by_cases c : b = a
    · subst c
      cases z : H b with
      | none => exact hidT_get (kx b o e) z
      | some u =>
        rw [kh (by rw [z]; simp)] at e
        cases e
    · exact hidT_get (kx b o e) (off b c)
  have md : Mod K mg (hidT s.heap H) := ⟨ki, ns g1, ⟨mb, ns g2, g3⟩, g4.elim fun mc z => ⟨mc, ns z.1, z.2⟩⟩
  have ev : Env0 P w K mg (hidT s.heap H) callerA [] s H := ⟨rfl, md, fun b o e => of_hidT e, Nat.le_of_eq (hidT_size _ _), trivial, fun b hb => absurd (show b ∈ ([] : List Addr) from hb) (by simp), hok, .of_eq g5⟩
  have go := (Fn _ ki (ns g1)).run callerA [] s H ⟨[.ref a], []⟩ [.ref a] [.ref a] (fun v _ => v = .bl true) (fun _ _ _ => False) room rfl ev (bd s (.ref a)) (.cons rfl .nil) hq
  refine codeAny_mono go fun r t out => ?_
  match r, out with
  | .error e, out => exact False.elim out
  | .ok .next, out => exact False.elim out
  | .ok .brk, out => exact False.elim out
  | .ok .cont, out => exact False.elim out
  | .ok (.ret u), out =>
    obtain ⟨v, H', os, bare, un, hok', rv, q⟩ := out
    have q2 : v = .bl true := q
    subst q2
    have eu : u = Value.bool true := rv
    subst eu
    refine ⟨rfl, OldK.of_keep fun b o e => ?_, os, bare⟩
    rcases only b with z | ⟨_, ob, xs, z⟩
    · exact un.keep b o e z (by intro c; exact absurd (show b ∈ ([] : List Addr) from c) (by simp)) (by simp)
    · have e1 := (hok b _ z).1
      have e2 := (hok' b _ (un.frzs b ob _ z)).1
      rw [e] at e1
      cases e1
      exact e2
theorem gcall_all {ns : List Int} (kx : K.In s.heap) (g1 : s.heap.Ns mainGlobals mg) (g2 : s.heap.Ns builtinsNs mb) (g3 : ∀ y : Str, y ≠ "__name__" → mb y = bootBuiltins y) (g4 : s.heap.NoLimit) (g5 : s.gens = #[])
    (oa : s.heap.get? a = some (scO vs)) (hi : IntsAre vs ns) (hl : ns.length ≤ sizeLine) (room : Room k callerA) (Fn : ∀ base : Heap, K.In base → base.Ns mainGlobals mg → FnG P w K mg base k fa fd [x] sp) (bd : ∀ (t : Shared) (u : Value), BindsTo t fd ⟨[u], []⟩ [(x, u)])
    (hq : ∀ H : Hp, SqL K H a (ns.map V.int) → sp [.ref a] H (fun v _ => v = .bl true) fun _ _ _ => False) :
    codeAny (model P w) callerA (.call (.ref fa) ⟨[.ref a], []⟩) (fun r t => r = .ok (.ret (.bool true)) ∧ OldK s.heap t.heap ∧ t.os = s.os ∧ AllBare t.gens) s := by
  have rv := vals_ints hi
  have lv := hi.length
  by_cases hk : K.lookup a = none
  · refine gcall kx g1 g2 g3 g4 g5 oa room Fn bd (fun b => if b = a then some (.frz (scO vs) (.lst (ns.map V.int))) else none) (fun b => ?_) (fun b u z => ?_) (fun _ => hk) (hq _ (.inl (.inr ⟨scO vs, if_pos rfl⟩)))
    · by_cases c : b = a
      · exact .inr ⟨c, _, _, if_pos c⟩
      · exact .inl (if_neg c)
    · by_cases c : b = a
      · subst c
        have z2 := (if_pos rfl).symm.trans z
        cases z2
        exact ⟨oa, by rw [List.length_map]; exact hl, vs, _, rv, oa⟩
      · have z2 := (if_neg c).symm.trans z
        cases z2
  · obtain ⟨o, ho⟩ := Option.ne_none_iff_exists'.mp hk
    have e := kx a o ho
    rw [oa] at e
    cases e
    exact gcall kx g1 g2 g3 g4 g5 oa room Fn bd (fun _ => none) (fun _ => .inl rfl) (fun b u z => by cases z) (fun z => absurd rfl z) (hq _ (.inr ⟨_, vs.toArray, _, ho, rfl, rfl, rfl, by rw [List.size_toArray, lv]; exact hl, by simpa using rv⟩))
end
/-- from the promise of the law's def to what the head leaves -/
theorem walkG {l : PySem.W.OpenLaw} {n k : Nat} {q : Program} {loose : List Str} {XP : (Str → Option Value) → Heap → Prop} {YP : World → Heap → Prop} {d : DefRec} {x : Str} (hn : l.most = some n) (hn2 : n ≤ sizeLine) (hd : d.params.defaults = []) (hr : Room k callerA)
    (F : ∀ (w : World) (mg : Str → Option Value) (fa : Addr) (h : Heap), YP w h → h.Ns mainGlobals mg → mg d.name = some (.ref fa) → ∃ (K : PySem.W.Frag) (fd : FuncData) (sp : Sp), K.In h ∧ (∀ (t : Shared) (u : Value), BindsTo t fd ⟨[u], []⟩ [(x, u)]) ∧
      (∀ (H : Hp) (a : Addr) (ns : List Int), ns.length ≤ n → SqL K H a (ns.map V.int) → sp [.ref a] H (fun v _ => v = .bl true) fun _ _ _ => False) ∧ ∀ base : Heap, K.In base → base.Ns mainGlobals mg → FnG l.prog w K mg base k fa fd [x] sp) :
    PySem.W.WalkO q loose XP YP l.row.toRowW d [] (fun f vs => PySem.call f vs) := by
  refine Att.attach_call hn hd fun w s₀ s₁ mg mb fa o pm cd doc a vs ns G Y _ _ _ hmg hobj hints hlen hg => ?_
  obtain ⟨K, fd, sp, kx, hb, hsp, hF⟩ := F w mg fa _ Y G.T.g hmg
  exact gcall_all kx G.T.g G.T.b G.T.builtins G.T.nolimit hg hobj hints (Nat.le_trans hlen hn2) hr hF hb fun H hS => hsp H a ns hlen hS
/-! facts of own errors -/
def exB (K : PySem.W.Frag) (C : Addr) : Bool := (match K.lookup C with
  | some o => (match o.cls, o.data, o.slots.toList with
    | .type t, .cls cd, [_, _, _, _, some (.builtin n), _] => decide (t = "type") && (decide (n = "ValueError.__new__") && (cd.hasDict && (!cd.hasDel && (match cd.mro with
      | .ref c :: bm => decide (c = C) && PySem.HandSPX.refsVE bm
      | _ => false))))
    | _, _, _ => false)
  | none => false) && (He.eqO (PySem.W.findIn K (.ref C) "__setattr__") (some (some (.builtin "object.__setattr__"))) && (decide (PySem.W.subIn K (.ref C) (.type "BaseException") = some true) && (decide (PySem.W.typeIn K (.ref C) = some (.type "type")) && (PySem.W.keepIn K (.ref C) && xfB K C))))
theorem exB_ok {K : PySem.W.Frag} {C : Addr} (h : exB K C = true) : OexC K C ∧ XfC K C := by
  unfold exB at h
  obtain ⟨h1, h⟩ := He.ba h
  obtain ⟨h2, h⟩ := He.ba h
  obtain ⟨h3, h⟩ := He.ba h
  obtain ⟨h4, h⟩ := He.ba h
  obtain ⟨h5, h6⟩ := He.ba h
  refine ⟨⟨?_, He.eqO_ok h2, of_decide_eq_true h3, of_decide_eq_true h4, h5⟩, xfB_ok h6⟩
  cases hl : K.lookup C with
  | none =>
    rw [hl] at h1
    cases h1
  | some o =>
    rw [hl] at h1
    obtain ⟨oc, od, dt, ⟨sl⟩⟩ := o
    dsimp only at h1
    split at h1
    · rename_i t cd k0 k1 k2 k3 n k5
      obtain ⟨z1, h1⟩ := He.ba h1
      obtain ⟨z2, h1⟩ := He.ba h1
      obtain ⟨z3, h1⟩ := He.ba h1
      obtain ⟨z4, h1⟩ := He.ba h1
      split at h1
      · rename_i c bm hm
        obtain ⟨z5, z6⟩ := He.ba h1
        obtain ⟨x1, x2, x3, x4, x5, x6, x7, x8, x9, x10, x11⟩ := cd
        dsimp only at z3 z4 hm
        have y1 := of_decide_eq_true z1
        have y2 := of_decide_eq_true z2
        have y5 := of_decide_eq_true z5
        have y4 : x11 = false := by simpa using z4
        subst y1 y2 y5 y4 z3 hm
        exact ⟨x1, x5, x4, x2, bm, x7, x8, x9, x10, od, k0, k1, k2, k3, k5, rfl, z6⟩
      · cases h1
    · cases h1
def ekaB (K : PySem.W.Frag) (C C1 C2 CW : Addr) : Bool := excB K C && (decide (PySem.W.kitOne K (.ref C) (.ref CW) = some true) && decide (PySem.W.kitAny K (.ref C) [.ref C1, .ref C2] = some false))
theorem ekaB_ok {K : PySem.W.Frag} {C C1 C2 CW : Addr} (h : ekaB K C C1 C2 CW = true) : EKa K C C1 C2 CW := by
  obtain ⟨h1, h⟩ := He.ba h
  obtain ⟨h2, h3⟩ := He.ba h
  exact ⟨excB_ok h1, of_decide_eq_true h2, of_decide_eq_true h3⟩
end Wk

set_option Elab.async false
set_option linter.all false
set_option maxRecDepth 100000
set_option maxHeartbeats 0
namespace Wk
open PySem PySem.Spec PyProof.Rows L2 Evl
def fn : List He.DefD := ([dG "is_integer" 9, dG "is_between" 10, dG "is_row" 11, dG "is_tuple_of" 12, dG "is_router" 13, dG "refuse_no_router" 14, dG "is_size" 15, dG "is_router_pair" 16, dG "is_row_of_unlike_pairs" 17, dG "replaced" 18, dG "refuse_wrong_flood" 23, dG "both_ways" 24, dG "is_flood_deed" 25, dG "behind" 26, dG "number_after" 27, dG "with_entry" 28, dG "with_greater" 29, dG "first_book" 30, dG "latest" 32, dG "refuse_wrong_deeds" 33, dG "is_chain" 34, dG "_law_pool" 36, dG "_law_mixed" 37, dG "_law_draw" 38, dG "_law_shuffled" 39, dG "_law_links" 40, dG "_law_pairs" 41, dG "_law_is_integer" 42, dG "_law_deed" 43, dG "_law_reached" 44] : List He.DefD) ++ ([dG "_law_is_chain" 45, dG "_law_pair" 46, dG "_law_all" 47, dG "_law_wrong_deed" 48, dG "_law_refused" 49, dG "_law_errors" 50, dG "law" 51, dM "Flood" "__init__" "Flood.__init__" 22 0, dM "Flood" "do" "Flood.do" 22 1, dM "Flood" "book" "Flood.book" 22 2, dM "Flood" "_go" "Flood._go" 22 7, dM "NoRouter" "__init__" "NoRouter.__init__" 3 0, dM "BadFlood" "__init__" "BadFlood.__init__" 4 0, dM "BadDeeds" "__init__" "BadDeeds.__init__" 6 0] : List He.DefD)
def fa : List He.Fa := ([.glo "is_integer", .glo "is_between", .glo "is_row", .glo "is_tuple_of", .glo "is_router", .glo "refuse_no_router", .glo "is_size", .glo "is_router_pair", .glo "is_row_of_unlike_pairs", .glo "replaced", .glo "refuse_wrong_flood", .glo "both_ways", .glo "is_flood_deed", .glo "behind", .glo "number_after", .glo "with_entry", .glo "with_greater", .glo "first_book", .glo "latest", .glo "refuse_wrong_deeds", .glo "is_chain", .glo "_law_pool", .glo "_law_mixed", .glo "_law_draw", .glo "_law_shuffled", .glo "_law_links", .glo "_law_pairs", .glo "_law_is_integer", .glo "_law_deed", .glo "_law_reached"] : List He.Fa) ++ ([.glo "_law_is_chain", .glo "_law_pair", .glo "_law_all", .glo "_law_wrong_deed", .glo "_law_refused", .glo "_law_errors", .glo "law", .free "isinstance", .free "len", .free "tuple", .free "list", .free "int", .free "bool", .free "str", .free "all", .free "set", .free "enumerate", .free "range", .free "abs", .free "min", .free "repr", .free "sorted", .free "dict", .int "MOST_ROUTERS" 8, .int "LEAST_SIZE" 1, .int "MOST_CONTENT" 99, .glo "Flood", .cls "Flood", .mkr "Flood", .meth "Flood" "do"] : List He.Fa) ++ ([.meth "Flood" "book", .meth "Flood" "_go", .noat "Flood" "_size", .noat "Flood" "_arrows", .noat "Flood" "_state", .noat "Flood" "many", .noat "Flood" "_past", .glo "WishError", .glo "BadDeed", .glo "NoRouter", .exm "NoRouter" "NoRouter" true, .noat "NoRouter" "router", .meth "NoRouter" "__init__", .glo "BadFlood", .exm "BadFlood" "BadFlood" true, .noat "BadFlood" "part", .meth "BadFlood" "__init__", .glo "BadDeeds", .exm "BadDeeds" "BadDeeds" true, .noat "BadDeeds" "index", .meth "BadDeeds" "__init__", .exm "BadDeeds" "BadFlood" false, .exm "NoRouter" "BadFlood" false, .exm "NoRouter" "BadDeeds" false] : List He.Fa)
def eb (K : PySem.W.Frag) : Bool := errB K (He.ga K "BadDeed") && (exB K (He.ga K "NoRouter") && (exB K (He.ga K "BadFlood") && (exB K (He.ga K "BadDeeds") && (ekaB K (He.ga K "BadFlood") (He.ga K "BadDeeds") (He.ga K "NoRouter") (He.ga K "WishError") && (ekaB K (He.ga K "BadDeeds") (He.ga K "BadDeed") (He.ga K "NoRouter") (He.ga K "WishError") && eknB K (He.ga K "NoRouter") (He.ga K "WishError") (He.ga K "BadDeeds"))))))
abbrev R : PySem.W.OpenRow := PySem.W.OpenLaw.row PySem.Challenge.rw_wishreels_k73_whole_latest_chains_and_bo
abbrev hk : PySem.W.Hook := hookX 4 fa fn eb
def ob (s : PySem.W.SharedT) : AlX := obsX 4 fa fn eb (HandSHeadRun.getT s)
theorem ob_eq (s : PySem.W.SharedT) : ob s = hk.obs s.abs := obsX_eq (HandSHeadRun.getT_eq s)
def loose0 : List Str := ["_wall", "__name__", "WishError", "NoRouter", "BadFlood", "BadDeed", "BadDeeds", "MOST_ROUTERS", "is_integer", "is_between", "is_row", "is_tuple_of", "is_router", "refuse_no_router", "is_size", "is_router_pair", "is_row_of_unlike_pairs", "replaced", "LEAST_SIZE", "MOST_CONTENT", "Flood", "refuse_wrong_flood", "both_ways", "is_flood_deed", "behind", "number_after", "with_entry", "with_greater", "first_book", "latest"]
def loose1 : List Str := ["refuse_wrong_deeds", "is_chain", "_law_pool", "_law_mixed", "_law_draw", "_law_shuffled", "_law_links", "_law_pairs", "_law_is_integer", "_law_deed", "_law_reached", "_law_is_chain", "_law_pair", "_law_all", "_law_wrong_deed", "_law_refused", "_law_errors"]
def loose : List Str := loose0 ++ loose1
theorem run (w : World) : HandSHeadRun.RunEq R (PySem.W.view R.prog [51]) hk ob 7000 loose w := by
  intro os
  kernel_rfl
end Wk

set_option Elab.async false
set_option linter.all false
set_option maxRecDepth 100000
set_option maxHeartbeats 4000000
namespace Wk
open PySem PySem.Spec PyProof.Rows L2 Evl
theorem facts {P : Program} {w : World} {K : PySem.W.Frag} {h : Heap} {mg : Str → Option Value} {f : Addr} (X : K.In h) (G : h.Ns mainGlobals mg) (hfa : mg ("law" : Str) = some (.ref f)) (c : He.SaysD fa fn K) (cx : eb K = true) :
    ∃ fd : FuncData, (∀ (t : Shared) (u : Value), BindsTo t fd ⟨[u], []⟩ [("_law_script", u)]) ∧ ∀ base : Heap, K.In base → base.Ns mainGlobals mg → FnG P w K mg base 10 f fd ["_law_script"] (spLaw K) := by
  obtain ⟨d0, F0⟩ := c.def_ 0 (d := dG "is_integer" 9) rfl
  obtain ⟨d1, F1⟩ := c.def_ 1 (d := dG "is_between" 10) rfl
  obtain ⟨d2, F2⟩ := c.def_ 2 (d := dG "is_row" 11) rfl
  obtain ⟨d3, F3⟩ := c.def_ 3 (d := dG "is_tuple_of" 12) rfl
  obtain ⟨d4, F4⟩ := c.def_ 4 (d := dG "is_router" 13) rfl
  obtain ⟨d5, F5⟩ := c.def_ 5 (d := dG "refuse_no_router" 14) rfl
  obtain ⟨d6, F6⟩ := c.def_ 6 (d := dG "is_size" 15) rfl
  obtain ⟨d7, F7⟩ := c.def_ 7 (d := dG "is_router_pair" 16) rfl
  obtain ⟨d8, F8⟩ := c.def_ 8 (d := dG "is_row_of_unlike_pairs" 17) rfl
  obtain ⟨d9, F9⟩ := c.def_ 9 (d := dG "replaced" 18) rfl
  obtain ⟨d10, F10⟩ := c.def_ 10 (d := dG "refuse_wrong_flood" 23) rfl
  obtain ⟨d11, F11⟩ := c.def_ 11 (d := dG "both_ways" 24) rfl
  obtain ⟨d12, F12⟩ := c.def_ 12 (d := dG "is_flood_deed" 25) rfl
  obtain ⟨d13, F13⟩ := c.def_ 13 (d := dG "behind" 26) rfl
  obtain ⟨d14, F14⟩ := c.def_ 14 (d := dG "number_after" 27) rfl
  obtain ⟨d15, F15⟩ := c.def_ 15 (d := dG "with_entry" 28) rfl
  obtain ⟨d16, F16⟩ := c.def_ 16 (d := dG "with_greater" 29) rfl
  obtain ⟨d17, F17⟩ := c.def_ 17 (d := dG "first_book" 30) rfl
  obtain ⟨d18, F18⟩ := c.def_ 18 (d := dG "latest" 32) rfl
  obtain ⟨d19, F19⟩ := c.def_ 19 (d := dG "refuse_wrong_deeds" 33) rfl
  obtain ⟨d20, F20⟩ := c.def_ 20 (d := dG "is_chain" 34) rfl
  obtain ⟨d21, F21⟩ := c.def_ 21 (d := dG "_law_pool" 36) rfl
  obtain ⟨d22, F22⟩ := c.def_ 22 (d := dG "_law_mixed" 37) rfl
  obtain ⟨d23, F23⟩ := c.def_ 23 (d := dG "_law_draw" 38) rfl
  obtain ⟨d24, F24⟩ := c.def_ 24 (d := dG "_law_shuffled" 39) rfl
  obtain ⟨d25, F25⟩ := c.def_ 25 (d := dG "_law_links" 40) rfl
  obtain ⟨d26, F26⟩ := c.def_ 26 (d := dG "_law_pairs" 41) rfl
  obtain ⟨d27, F27⟩ := c.def_ 27 (d := dG "_law_is_integer" 42) rfl
  obtain ⟨d28, F28⟩ := c.def_ 28 (d := dG "_law_deed" 43) rfl
  obtain ⟨d29, F29⟩ := c.def_ 29 (d := dG "_law_reached" 44) rfl
  obtain ⟨d30, F30⟩ := c.def_ 30 (d := dG "_law_is_chain" 45) rfl
  obtain ⟨d31, F31⟩ := c.def_ 31 (d := dG "_law_pair" 46) rfl
  obtain ⟨d32, F32⟩ := c.def_ 32 (d := dG "_law_all" 47) rfl
  obtain ⟨d33, F33⟩ := c.def_ 33 (d := dG "_law_wrong_deed" 48) rfl
  obtain ⟨d34, F34⟩ := c.def_ 34 (d := dG "_law_refused" 49) rfl
  obtain ⟨d35, F35⟩ := c.def_ 35 (d := dG "_law_errors" 50) rfl
  obtain ⟨d36, F36⟩ := c.def_ 36 (d := dG "law" 51) rfl
  obtain ⟨d37, F37⟩ := c.def_ 37 (d := dM "Flood" "__init__" "Flood.__init__" 22 0) rfl
  obtain ⟨d38, F38⟩ := c.def_ 38 (d := dM "Flood" "do" "Flood.do" 22 1) rfl
  obtain ⟨d39, F39⟩ := c.def_ 39 (d := dM "Flood" "book" "Flood.book" 22 2) rfl
  obtain ⟨d40, F40⟩ := c.def_ 40 (d := dM "Flood" "_go" "Flood._go" 22 7) rfl
  obtain ⟨d41, F41⟩ := c.def_ 41 (d := dM "NoRouter" "__init__" "NoRouter.__init__" 3 0) rfl
  obtain ⟨d42, F42⟩ := c.def_ 42 (d := dM "BadFlood" "__init__" "BadFlood.__init__" 4 0) rfl
  obtain ⟨d43, F43⟩ := c.def_ 43 (d := dM "BadDeeds" "__init__" "BadDeeds.__init__" 6 0) rfl
  have e := hfa.symm.trans (He.glo_ok X G (c.fact 36 (f := .glo "law") rfl))
  cases e
  have bL := FunD.bindsA (ps := ["_law_script"]) F36 fun _ _ _ _ _ _ us hl => match us, hl with | [_], _ => rfl
  have B : Bl mg := ⟨He.free_ok X G (c.fact 37 rfl), He.free_ok X G (c.fact 38 rfl), He.free_ok X G (c.fact 39 rfl), He.free_ok X G (c.fact 40 rfl), He.free_ok X G (c.fact 41 rfl), He.free_ok X G (c.fact 42 rfl), He.free_ok X G (c.fact 43 rfl), He.free_ok X G (c.fact 44 rfl), He.free_ok X G (c.fact 45 rfl), He.free_ok X G (c.fact 46 rfl), He.free_ok X G (c.fact 47 rfl), He.free_ok X G (c.fact 48 rfl), He.free_ok X G (c.fact 49 rfl), He.free_ok X G (c.fact 50 rfl)⟩
  have hso : mg "sorted" = none := He.free_ok X G (c.fact 51 (f := .free "sorted") rfl)
  have hdi : mg "dict" = none := He.free_ok X G (c.fact 52 (f := .free "dict") rfl)
  obtain ⟨t0, mMOST_ROUTERS⟩ := He.int_ok X G (c.fact 53 (f := .int "MOST_ROUTERS" 8) rfl)
  obtain ⟨t1, mLEAST_SIZE⟩ := He.int_ok X G (c.fact 54 (f := .int "LEAST_SIZE" 1) rfl)
  obtain ⟨t2, mMOST_CONTENT⟩ := He.int_ok X G (c.fact 55 (f := .int "MOST_CONTENT" 99) rfl)
  have TX : FX K (He.ga K "Flood") := ⟨He.cls_ok (c.fact 57 (f := .cls "Flood") rfl), He.noat_ok (c.fact 62 (f := .noat "Flood" "_size") rfl), He.noat_ok (c.fact 63 (f := .noat "Flood" "_arrows") rfl), He.noat_ok (c.fact 64 (f := .noat "Flood" "_state") rfl), He.noat_ok (c.fact 65 (f := .noat "Flood" "many") rfl), He.noat_ok (c.fact 66 (f := .noat "Flood" "_past") rfl)⟩
  obtain ⟨x1, x⟩ := He.ba cx
  obtain ⟨x2, x⟩ := He.ba x
  obtain ⟨x3, x⟩ := He.ba x
  obtain ⟨x4, x⟩ := He.ba x
  obtain ⟨x5, x⟩ := He.ba x
  obtain ⟨x6, x7⟩ := He.ba x
  have TD := errB_ok (x := "BadDeed") x1 (He.glo_ok X G (c.fact 68 (f := .glo "BadDeed") rfl))
  obtain ⟨oN, fN⟩ := exB_ok x2
  obtain ⟨oB, fB⟩ := exB_ok x3
  obtain ⟨oD, fD⟩ := exB_ok x4
  have KB := ekaB_ok x5
  have KD := ekaB_ok x6
  have KN := eknB_ok x7
  have nN : PySem.W.findIn K (.ref (He.ga K "NoRouter")) "router" = some none := He.noat_ok (c.fact 71 (f := .noat "NoRouter" "router") rfl)
  have iN := He.meth_ok (c.fact 72 (f := .meth "NoRouter" "__init__") rfl)
  have nB : PySem.W.findIn K (.ref (He.ga K "BadFlood")) "part" = some none := He.noat_ok (c.fact 75 (f := .noat "BadFlood" "part") rfl)
  have iB := He.meth_ok (c.fact 76 (f := .meth "BadFlood" "__init__") rfl)
  have nD : PySem.W.findIn K (.ref (He.ga K "BadDeeds")) "index" = some none := He.noat_ok (c.fact 79 (f := .noat "BadDeeds" "index") rfl)
  have iD := He.meth_ok (c.fact 80 (f := .meth "BadDeeds" "__init__") rfl)
  refine ⟨d36, fun t u => bL t [u] rfl, fun base _ _ => ?_⟩
  have EN : ErrF P w K mg base "NoRouter" (He.ga K "NoRouter") "router" := ⟨(He.glo_ok X G (c.fact 69 (f := .glo "NoRouter") rfl)), oN, fN, nN, He.exm_ok (c.fact 70 (f := .exm "NoRouter" "NoRouter" true) rfl), ⟨_, d41, iN.at_, beq_iff_eq.mp iN.fn, ok_xn oN nN F41, F41.bindsN fun _ _ _ _ _ _ us hl => match us, hl with | [_, _], _ => rfl⟩⟩
  have EB : ErrF P w K mg base "BadFlood" (He.ga K "BadFlood") "part" := ⟨(He.glo_ok X G (c.fact 73 (f := .glo "BadFlood") rfl)), oB, fB, nB, He.exm_ok (c.fact 74 (f := .exm "BadFlood" "BadFlood" true) rfl), ⟨_, d42, iB.at_, beq_iff_eq.mp iB.fn, ok_xb oB nB F42, F42.bindsN fun _ _ _ _ _ _ us hl => match us, hl with | [_, _], _ => rfl⟩⟩
  have ED : ErrF P w K mg base "BadDeeds" (He.ga K "BadDeeds") "index" := ⟨(He.glo_ok X G (c.fact 77 (f := .glo "BadDeeds") rfl)), oD, fD, nD, He.exm_ok (c.fact 78 (f := .exm "BadDeeds" "BadDeeds" true) rfl), ⟨_, d43, iD.at_, beq_iff_eq.mp iD.fn, ok_xd oD nD F43, F43.bindsN fun _ _ _ _ _ _ us hl => match us, hl with | [_, _], _ => rfl⟩⟩
  have C0 : Cal P w K mg base "is_integer" ["thing"] 1 spIsInt := calOf F0 (ok_isInt B F0) (He.glo_ok X G (c.fact 0 rfl)) (F0.bindsN fun _ _ _ _ _ _ us hl => match us, hl with | [_], _ => rfl)
  have C1 : Cal P w K mg base "is_between" ["least", "most", "thing"] 2 spBetween := calOf F1 (ok_between B C0 F1) (He.glo_ok X G (c.fact 1 rfl)) (F1.bindsN fun _ _ _ _ _ _ us hl => match us, hl with | [_, _, _], _ => rfl)
  have C2 : Cal P w K mg base "is_router" ["size", "thing"] 3 spRouter := calOf F4 (ok_router C1 F4) (He.glo_ok X G (c.fact 4 rfl)) (F4.bindsN fun _ _ _ _ _ _ us hl => match us, hl with | [_, _], _ => rfl)
  have C3 : Cal P w K mg base "is_row" ["thing"] 1 spIsRow2 := calOf F2 (ok_isRow2 B F2) (He.glo_ok X G (c.fact 2 rfl)) (F2.bindsN fun _ _ _ _ _ _ us hl => match us, hl with | [_], _ => rfl)
  have C4 : Cal P w K mg base "is_tuple_of" ["many", "thing"] 1 spTupOf2 := calOf F3 (ok_tupOf2 B F3) (He.glo_ok X G (c.fact 3 rfl)) (F3.bindsN fun _ _ _ _ _ _ us hl => match us, hl with | [_, _], _ => rfl)
  have C5x : CalX P w K mg base "refuse_no_router" ["size", "thing"] 4 (spNoRt (He.ga K "NoRouter")) := ⟨⟨_, d5, ok_noRt EN C2 F5, He.glo_ok X G (c.fact 5 rfl), F5.kp, (F5.bindsN fun _ _ _ _ _ _ us hl => match us, hl with | [_, _], _ => rfl)⟩⟩
  have C6 : Cal P w K mg base "is_size" ["least", "thing"] 3 spSize := calOf F6 (ok_size mMOST_ROUTERS C1 F6) (He.glo_ok X G (c.fact 6 rfl)) (F6.bindsN fun _ _ _ _ _ _ us hl => match us, hl with | [_, _], _ => rfl)
  have C7 : Cal P w K mg base "is_router_pair" ["size", "thing"] 4 spRPair2 := calOf F7 (ok_rPair2 C4 C2 F7) (He.glo_ok X G (c.fact 7 rfl)) (F7.bindsN fun _ _ _ _ _ _ us hl => match us, hl with | [_, _], _ => rfl)
  have C8 : Cal P w K mg base "is_row_of_unlike_pairs" ["size", "thing"] 5 spUnl2 := calOf F8 (ok_unl2 B C3 C7 F8) (He.glo_ok X G (c.fact 8 rfl)) (F8.bindsN fun _ _ _ _ _ _ us hl => match us, hl with | [_, _], _ => rfl)
  have C9 : CalX P w K mg base "refuse_wrong_flood" ["size", "links"] 6 (spRWF2 (He.ga K "BadFlood")) := ⟨⟨_, d10, ok_rwf2 mLEAST_SIZE EB C6 C8 F10, He.glo_ok X G (c.fact 10 rfl), F10.kp, (F10.bindsN fun _ _ _ _ _ _ us hl => match us, hl with | [_, _], _ => rfl)⟩⟩
  have CA : Cal P w K mg base "replaced" ["row", "place", "item"] 1 spRepl := calOf F9 (ok_repl F9) (He.glo_ok X G (c.fact 9 rfl)) (F9.bindsN fun _ _ _ _ _ _ us hl => match us, hl with | [_, _, _], _ => rfl)
  have CB : Cal P w K mg base "both_ways" ["links"] 1 spPairs2 := calOf F11 (ok_both2 B hso F11) (He.glo_ok X G (c.fact 11 rfl)) (F11.bindsN fun _ _ _ _ _ _ us hl => match us, hl with | [_], _ => rfl)
  have CC : Cal P w K mg base "is_flood_deed" ["size", "arrows", "thing"] 4 spFD := calOf F12 (ok_fd B mMOST_CONTENT C0 C1 C2 F12) (He.glo_ok X G (c.fact 12 rfl)) (F12.bindsN fun _ _ _ _ _ _ us hl => match us, hl with | [_, _, _], _ => rfl)
  have CD : Cal P w K mg base "number_after" ["entry"] 1 spNum := calOf F14 (ok_num F14) (He.glo_ok X G (c.fact 14 rfl)) (F14.bindsN fun _ _ _ _ _ _ us hl => match us, hl with | [_], _ => rfl)
  have CE : Cal P w K mg base "with_entry" ["book", "router", "entry"] 1 spWE := calOf F15 (ok_we F15) (He.glo_ok X G (c.fact 15 rfl)) (F15.bindsN fun _ _ _ _ _ _ us hl => match us, hl with | [_, _, _], _ => rfl)
  have CG : Cal P w K mg base "with_greater" ["own", "given", "router", "content"] 2 spWG := calOf F16 (ok_wg B CD F16) (He.glo_ok X G (c.fact 16 rfl)) (F16.bindsN fun _ _ _ _ _ _ us hl => match us, hl with | [_, _, _, _], _ => rfl)
  have CI : Cal P w K mg base "first_book" ["router", "content"] 2 spFB := calOf F17 (ok_fb CD F17) (He.glo_ok X G (c.fact 17 rfl)) (F17.bindsN fun _ _ _ _ _ _ us hl => match us, hl with | [_, _], _ => rfl)
  have CH : Cal P w K mg base "behind" ["state", "deed"] 3 spBeh := calOf F13 (ok_beh CA CD CE CG CI F13) (He.glo_ok X G (c.fact 13 rfl)) (F13.bindsN fun _ _ _ _ _ _ us hl => match us, hl with | [_, _], _ => rfl)
  have MG : Msk P w K mg base (He.ga K "Flood") "_go" ["self", "deed"] 4 (spGo (He.ga K "Flood")) := ⟨⟨_, d40, He.meth_ok (c.fact 61 (f := .meth "Flood" "_go") rfl), ok_go TX CH F40, F40.bindsN fun _ _ _ _ _ _ us hl => match us, hl with | [_, _], _ => rfl⟩⟩
  have MD : MskX P w K mg base (He.ga K "Flood") "do" ["self", "deed"] 5 (spDo (He.ga K "Flood") (He.ga K "BadDeed")) := ⟨⟨_, d38, He.meth_ok (c.fact 59 (f := .meth "Flood" "do") rfl), ok_do TX TD CC MG F38, F38.bindsN fun _ _ _ _ _ _ us hl => match us, hl with | [_, _], _ => rfl⟩⟩
  have MBx : MskX P w K mg base (He.ga K "Flood") "book" ["self", "router"] 5 (spBook2 (He.ga K "Flood") (He.ga K "NoRouter")) := ⟨⟨_, d39, He.meth_ok (c.fact 60 (f := .meth "Flood" "book") rfl), ok_book2 TX hso C5x F39, F39.bindsN fun _ _ _ _ _ _ us hl => match us, hl with | [_, _], _ => rfl⟩⟩
  have CK : CalX P w K mg base "refuse_wrong_deeds" ["size", "links", "deeds"] 5 (spRWD (He.ga K "BadDeeds")) := ⟨⟨_, d19, ok_rwd B ED C3 CB CC F19, He.glo_ok X G (c.fact 19 rfl), F19.kp, (F19.bindsN fun _ _ _ _ _ _ us hl => match us, hl with | [_, _, _], _ => rfl)⟩⟩
  have CL : CalX P w K mg base "latest" ["size", "links", "deeds", "r", "b"] 7 (spLat (He.ga K "BadFlood") (He.ga K "BadDeeds") (He.ga K "NoRouter")) := ⟨⟨_, d18, ok_lat B C9 CK C5x F18, He.glo_ok X G (c.fact 18 rfl), F18.kp, (F18.bindsN fun _ _ _ _ _ _ us hl => match us, hl with | [_, _, _, _, _], _ => rfl)⟩⟩
  have CM : Cal P w K mg base "is_chain" ["size", "links", "deeds", "r", "b", "thing"] 3 spChain := calOf F20 (ok_chain B hso C1 F20) (He.glo_ok X G (c.fact 20 rfl)) (F20.bindsN fun _ _ _ _ _ _ us hl => match us, hl with | [_, _, _, _, _, _], _ => rfl)
  have D0 : Cal P w K mg base "_law_pool" ["_law_script"] 1 (spPool K) := calOf F21 (ok_pool B F21) (He.glo_ok X G (c.fact 21 rfl)) (F21.bindsN fun _ _ _ _ _ _ us hl => match us, hl with | [_], _ => rfl)
  have D1 : Cal P w K mg base "_law_mixed" ["_law_cell", "_law_many"] 1 spMixed := calOf F22 (ok_mixed B F22) (He.glo_ok X G (c.fact 22 rfl)) (F22.bindsN fun _ _ _ _ _ _ us hl => match us, hl with | [_, _], _ => rfl)
  have D2 : Cal P w K mg base "_law_draw" ["_law_pool_here", "_law_limit"] 2 spDraw := calOf F23 (ok_draw B D1 F23) (He.glo_ok X G (c.fact 23 rfl)) (F23.bindsN fun _ _ _ _ _ _ us hl => match us, hl with | [_, _], _ => rfl)
  have D3 : Cal P w K mg base "_law_shuffled" ["_law_pool_here", "_law_items"] 3 spShuf := calOf F24 (ok_shuf B D2 F24) (He.glo_ok X G (c.fact 24 rfl)) (F24.bindsN fun _ _ _ _ _ _ us hl => match us, hl with | [_, _], _ => rfl)
  have D4 : Cal P w K mg base "_law_links" ["_law_pool_here", "_law_size"] 4 spLinks := calOf F25 (ok_links B D2 D3 F25) (He.glo_ok X G (c.fact 25 rfl)) (F25.bindsN fun _ _ _ _ _ _ us hl => match us, hl with | [_, _], _ => rfl)
  have D5 : Cal P w K mg base "_law_pairs" ["_law_links_here"] 1 spPairs := calOf F26 (ok_pairs B hso F26) (He.glo_ok X G (c.fact 26 rfl)) (F26.bindsN fun _ _ _ _ _ _ us hl => match us, hl with | [_], _ => rfl)
  have D6 : Cal P w K mg base "_law_is_integer" ["_law_thing"] 1 spIsInt := calOf F27 (ok_lInt B F27) (He.glo_ok X G (c.fact 27 rfl)) (F27.bindsN fun _ _ _ _ _ _ us hl => match us, hl with | [_], _ => rfl)
  have D7 : Cal P w K mg base "_law_deed" ["_law_pool_here", "_law_size", "_law_pairs_here", "_law_restarts"] 3 spDeed := calOf F28 (ok_deed B D2 F28) (He.glo_ok X G (c.fact 28 rfl)) (F28.bindsN fun _ _ _ _ _ _ us hl => match us, hl with | [_, _, _, _], _ => rfl)
  have D8 : Cal P w K mg base "_law_reached" ["_law_deeds", "_law_index"] 1 spRch := calOf F29 (ok_rch F29) (He.glo_ok X G (c.fact 29 rfl)) (F29.bindsN fun _ _ _ _ _ _ us hl => match us, hl with | [_, _], _ => rfl)
  have D9 : Cal P w K mg base "_law_is_chain" ["_law_deeds", "_law_r", "_law_b", "_law_thing"] 2 spLChain := calOf F30 (ok_lChain B D6 F30) (He.glo_ok X G (c.fact 30 rfl)) (F30.bindsN fun _ _ _ _ _ _ us hl => match us, hl with | [_, _, _, _], _ => rfl)
  have DA : Cal P w K mg base "_law_pair" ["_law_size", "_law_links_here", "_law_deeds", "_law_r", "_law_b", "_law_write", "_law_book"] 8 spPair := calOf F31 (ok_pair B CL D9 CM D6 F31) (He.glo_ok X G (c.fact 31 rfl)) (F31.bindsN fun _ _ _ _ _ _ us hl => match us, hl with | [_, _, _, _, _, _, _], _ => rfl)
  have SA : Ca P w K mg base (He.ga K "Flood") (He.ga K "BadFlood") (He.ga K "BadDeed") (He.ga K "NoRouter") := ⟨(He.glo_ok X G (c.fact 56 (f := .glo "Flood") rfl)), ⟨_, d37, He.mkr_ok (c.fact 58 (f := .mkr "Flood") rfl), ok_init2 TX C9 CB F37, F37.bindsN fun _ _ _ _ _ _ us hl => match us, hl with | [_, _, _], _ => rfl⟩, MD, MBx, D8, DA⟩
  have DB : Cal P w K mg base "_law_all" ["_law_size", "_law_links_here", "_law_deeds"] 9 spAll := calOf F32 (ok_all B TX SA F32) (He.glo_ok X G (c.fact 32 rfl)) (F32.bindsN fun _ _ _ _ _ _ us hl => match us, hl with | [_, _, _], _ => rfl)
  have DC : Cal P w K mg base "_law_wrong_deed" ["_law_pool_here", "_law_size", "_law_links_here"] 4 spWrg := calOf F33 (ok_wrg B D2 D5 F33) (He.glo_ok X G (c.fact 33 rfl)) (F33.bindsN fun _ _ _ _ _ _ us hl => match us, hl with | [_, _, _], _ => rfl)
  have DD : CalG P w K mg base "_law_refused" ["_law_size", "_law_links_here", "_law_deeds", "_law_r", "_law_b"] 8 (spRefd K) := ⟨⟨_, d34, ok_refd B CL EB ED EN (He.exm_ok (c.fact 81 (f := .exm "BadDeeds" "BadFlood" false) rfl)) (He.exm_ok (c.fact 82 (f := .exm "NoRouter" "BadFlood" false) rfl)) (He.exm_ok (c.fact 83 (f := .exm "NoRouter" "BadDeeds" false) rfl)) KB KD KN (He.glo_ok X G (c.fact 67 (f := .glo "WishError") rfl)) (He.glo_ok X G (c.fact 68 (f := .glo "BadDeed") rfl)) F34, He.glo_ok X G (c.fact 34 rfl), F34.kp, F34.bindsN fun _ _ _ _ _ _ us hl => match us, hl with | [_, _, _, _, _], _ => rfl⟩⟩
  have DE : CalG P w K mg base "_law_errors" ["_law_pool_here", "_law_size", "_law_links_here", "_law_deeds"] 9 spErrs := ⟨⟨_, d35, ok_errs B D2 DC DD F35, He.glo_ok X G (c.fact 35 rfl), F35.kp, F35.bindsN fun _ _ _ _ _ _ us hl => match us, hl with | [_, _, _, _], _ => rfl⟩⟩
  exact ok_law B ⟨D0, D2, D4, D5, D7, DE, DB⟩ F36
end Wk
open PySem PySem.W PySem.Calls PyProof.Rows
set_option maxHeartbeats 0
theorem PySem.Challenge.cw_wishreels_k73_whole_latest_chains_and_bo_holds : PySem.Challenge.rw_wishreels_k73_whole_latest_chains_and_bo.Holds := by
  w_on; o_law
  refine HandSHeadRun.head_any (r := Wk.R) (q := view Wk.R.prog [51]) (H := Wk.hk) (ob := Wk.ob) (M := 7000) (loose := Wk.loose) (d := HandSHeadRun.topDef Wk.R.prog 51) (kwd := []) Wk.ob_eq
    (by kernel_rfl) (fun s => by kernel_rfl) Wk.run (by kernel_rfl) (by kernel_rfl) (by kernel_rfl) (by rfl) (by first | assumption | decide +kernel) (by decide +kernel) ⟨rfl, rfl, rfl, rfl, rfl, by decide +kernel⟩ ?hw ?hc
  case hw => w_witness2
  case hc =>
    refine Wk.walkG (l := PySem.Challenge.rw_wishreels_k73_whole_latest_chains_and_bo) (n := 63) (k := 10) (x := "_law_script") rfl (by decide) (by kernel_rfl) ⟨rfl, by decide, by decide⟩ ?_
    intro w mg fa h Y G hmg0
    obtain ⟨K, kx, c, cx⟩ := Y
    have hmg : mg ("law" : PySem.Str) = some (.ref fa) := by
      have e : (HandSHeadRun.topDef Wk.R.prog 51).name = ("law" : PySem.Str) := by kernel_rfl
      rw [← e]
      exact hmg0
    obtain ⟨fd, hb, hF⟩ := Wk.facts (P := (PySem.Challenge.rw_wishreels_k73_whole_latest_chains_and_bo).prog) (w := w) kx G hmg c cx
    exact ⟨K, fd, Wk.spLaw K, kx, hb, fun H a ns hl hS => ⟨a, ns, rfl, hS, hl, fun _ => rfl⟩, hF⟩
